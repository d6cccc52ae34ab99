/-
  VPR, Slices0, Slices, Tab0. Own work.
-/
import Derived.Test.YtdldimphcpojoaaGreatDoorMXAB
import Derived.Test.YtdldimphcpojoaaGreatDoorMXAA
import Derived.Test.YtdldimphcpojoaaGreatDoorNames
import Derived.RegionTactic
import Derived.ChangeAlike
import Derived.Deep.QuietTactic
import Derived.BigQuiet
namespace Go.Proofs.YtdldimphcpojoaaGreatDoor
open Go.RowKit
set_option linter.unusedVariables false
structure Nd where
 op:Int
 num:Int
 text:ByteArray
 names:List ByteArray
 kids:List Int
structure St where
 kind:Int
 name:ByteArray
 cond:Int
 grant:Int
def GT (op:Int):Int:=if 1≤op∧op≤7 then 0 else if 8≤op∧op≤10 then 1 else if 11≤op∧op≤26 then 2 else if op=27 then 3 else -1
def Dt (s:ByteArray):Bool:=match Ak s with
 | []=>false
 | c ::r=>decide ((c ::r).length≤32) && NI c && (c ::r).all Ed && !Gb (c ::r)
def DU (s:ByteArray):Bool:=decide (s.size≤32) && (Ak s).all GE
def By (x:Nd):Bool:=
 decide ((x.kids.length:Int)=GT x.op) &&
 (if x.op=1 then decide (0≤x.num) && decide (x.text.size=0) && decide (x.names.length=0)
   else if x.op=2 then DU x.text && decide (x.num=0) && decide (x.names.length=0)
   else if x.op=3 then decide (x.num=0∨x.num=1) && decide (x.text.size=0) && decide (x.names.length=0)
   else if x.op=4 then Le x.names && decide (x.num=0) && decide (x.text.size=0)
   else if x.op=5 then Dt x.text && decide (x.num=0) && decide (x.names.length=0)
   else if x.op=6∨x.op=7 then false
   else decide (x.num=0) && decide (x.text.size=0) && decide (x.names.length=0))
def Cq (last:Bool) (s:St):Bool:=
 if s.kind=1 then !last && Dt s.name && decide (0≤s.cond) && decide (s.grant= -1)
 else if s.kind=2 then !last && decide (s.name.size=0) && decide (0≤s.cond) && decide (-1≤s.grant)
 else if s.kind=3 then last && decide (s.name.size=0) && decide (s.cond= -1) && decide (-1≤s.grant)
 else false
def Pn (s:St):Bool:=
 if s.kind=1 then Dt s.name && decide (s.grant= -1)
 else if s.kind=2 then decide (s.name.size=0)
 else if s.kind=3 then decide (s.name.size=0) && decide (s.cond= -1)
 else false
def AC (s:St):List Int:=(if 0≤s.cond then [s.cond] else []) ++(if 0≤s.grant then [s.grant] else [])
def Bo (s:St):List Int:=(if s.kind≠3 then [s.cond] else []) ++(if s.grant≠-1 then [s.grant] else [])
def EO:List St→Bool
 | []=>true
 | s ::r=>Cq r.isEmpty s && EO r
def GV:List St→Bool
 | []=>true
 | s ::r=>Pn s && (decide (s.kind=3)== r.isEmpty) && GV r
theorem GY:∀ (L:List St),(∀ x∈L.flatMap Bo,0≤x)→(GV L=true↔EO L=true)
 | [],_=>Iff.rfl
 | s ::r,h=>by
  have f:=GY r (fun x hx=>h x (by rw[List.flatMap_cons];exact List.mem_append_right _ hx));have hs:∀ x∈Bo s,0≤x:=fun x hx=>h x (by rw[List.flatMap_cons];exact List.mem_append_left _ hx);rw[GV,EO,Bool.and_eq_true,Bool.and_eq_true,Bool.and_eq_true,f];have e:(Pn s=true∧(decide (s.kind=3)== r.isEmpty)=true)↔Cq r.isEmpty s=true:=by
   have hc:s.kind≠3→0≤s.cond:=fun k=>hs _ (by rw[Bo,if_pos k];simp);have a:s.grant≠-1→0≤s.grant:=fun k=>hs _ (by rw[Bo,if_pos k];simp);generalize r.isEmpty=last;unfold Pn Cq;by_cases b:s.kind=1
   ·simp[b];have:=hc (by omega);cases last <;> simp[this]
   ·by_cases c:s.kind=2
    ·simp[c];have h1:=hc (by omega);have h2: -1≤s.grant:=by by_cases k:s.grant= -1;omega;have:=a k;omega
     cases last <;> simp[h1,h2]
    ·by_cases d:s.kind=3
     ·simp[d];have h2: -1≤s.grant:=by by_cases k:s.grant= -1;omega;have:=a k;omega
      cases last <;> simp[h2]
     ·simp[b,c,d]
  rw[← e,and_assoc]
theorem PS:∀ {last:Bool} {s:St},Cq last s=true→AC s=Bo s∧∀ x∈Bo s,0≤x:=by
 intro last s h;unfold Cq at h;unfold AC Bo;by_cases d:s.kind=1
 ·simp[d] at h;obtain ⟨⟨_,h1⟩,h2⟩:=h;simp[d,h1,h2]
 ·by_cases b:s.kind=2
  ·simp[b] at h;obtain ⟨⟨_,h1⟩,h2⟩:=h;by_cases a:s.grant= -1
   ·simp[b,h1,a]
   ·have: 0≤s.grant:=by omega
    simp[b,h1,a,this]
  ·by_cases c:s.kind=3
   ·simp[c] at h;obtain ⟨⟨_,h1⟩,h2⟩:=h;by_cases a:s.grant= -1
    ·simp[c,h1,a]
    ·have: 0≤s.grant:=by omega
     simp[c,h1,a,this]
   ·simp[d,b,c] at h
theorem Jy:∀ {L:List St},EO L=true→L.flatMap AC=L.flatMap Bo∧∀ x∈L.flatMap Bo,0≤x
 | [],_=>⟨rfl,fun x hx=>by cases hx⟩
 | s ::r,h=>by
  rw[EO,Bool.and_eq_true] at h;obtain ⟨e1,h1⟩:=PS h.1;obtain ⟨e2,h2⟩:=Jy h.2;refine ⟨by rw[List.flatMap_cons,List.flatMap_cons,e1,e2],fun x hx=>?_⟩;rw[List.flatMap_cons] at hx;rcases List.mem_append.1 hx with k | k
  ·exact h1 x k
  ·exact h2 x k
def GZ (N:List Nd) (L:List St):Prop:=
 EO L=true∧((L.flatMap AC).foldl (fun o k=>Bb (N.map Nd.kids) N.length k o) []).length=N.length∧good ((L.flatMap AC).foldl (fun o k=>Bb (N.map Nd.kids) N.length k o) [])∧∀ r∈L.flatMap AC,BM (N.map Nd.kids) N.length r≤64
def V7 (N:List Nd) (L:List St):Prop:=GV L=true∧∃ S,Fd (N.map Nd.kids) N.length [] 0=some S∧Bw S=L.flatMap Bo
theorem RC (N:List Nd)(L:List St):V7 N L↔GZ N L:=by
 have hs:=Us (N.map Nd.kids) (L.flatMap Bo);rw[List.length_map] at hs;constructor
 ·rintro ⟨h1,S,h2,h3⟩;have h0:∀ x∈L.flatMap Bo,0≤x:=by
   rw[← h3];intro x hx;obtain ⟨p,_,rfl⟩:=List.mem_map.1 hx;omega
  have h4:=(GY L h0).1 h1;have e:=(Jy h4).1;unfold GZ;rw[e];exact ⟨h4,hs.2 ⟨S,h2,h3⟩⟩
 ·rintro ⟨h1,h2⟩;obtain ⟨e,h0⟩:=Jy h1;rw[e] at h2;exact ⟨(GY L h0).2 h1,hs.1 h2⟩
set_option maxHeartbeats 1600000
theorem Lh (a:Option Addr)(n c:Nat)(d:List ByteArray)(w:World)(h:Bg w a n c d):
  Calls Tryz.prog 117 #[.slice a n c] w fun e w'=>e= .returned (.bool (Le d))∧w'=w:=by
 have hl:=h.len;by_cases I:n≤64
 ·have g:(n:Int)≤64:=by omega
  have l:=Ab (Rk d (by omega));have o:=Ab hl;clear hl;go_enter Tryz.func117,Tryz.ntmps117
  go_wp2
  go_loop [2,3,4,5,11] (fun _ _ _ _ i=>∃ k:Nat,k≤n∧i= .int .i64 k∧(∀ j,j < k→vnB (EP d j)=true)∧(∀ i j,i < k→i < j→j < n→sl (EP d i) (EP d j)=true)) (fun _ _ _ _ i=>n - (intOf i).toNat)
  case atStart=>exact ⟨0,Nat.zero_le _,rfl,fun j f=>by omega,fun i j hi=>by omega⟩
  case round=>
   obtain ⟨k,hk,rfl,t,u⟩:=hrel;have v:=Ab t;have x:=Ab u;clear t u;by_cases y:k < n
   ·obtain ⟨b,J,B,_,hc⟩:=h.at (by omega);have K:=hc k y;have C:=Ab hc;clear hc;have z:=h.sizes k y;subst B;cases p:vnB (EP d k)
    ·have q:=Ab p;have s:=Ab (VP d k (by have:=Aa o;omega) p);clear p;go_wp2_with (go_at_call 125;refine (EK _ _ z).mono ?_;rintro e w' ⟨rfl,rfl⟩;rw[Aa q])
     go_ret
     exact ⟨Ay (by rw[Aa l,Aa s];rfl),rfl⟩
    ·have q:=Ab p;clear p;go_wp2_with (go_at_call 125;refine (EK _ _ z).mono ?_;rintro e w' ⟨rfl,rfl⟩;rw[Aa q])
     go_loop [5] (fun i=>∃ m:Nat,k < m∧m≤n∧i= .int .i64 m∧∀ j,k < j→j < m→sl (EP d k) (EP d j)=true) (fun i=>n - (intOf i).toNat)
     case atStart=>exact ⟨k+1,by omega,by omega,by go_num,fun j f E=>by omega⟩
     case round=>
      obtain ⟨m,F,hm,rfl,hq⟩:=hrel;have A:=Ab hq;clear hq;by_cases H:m < n
      ·have L:=Aa C m H;cases hs:Op.bytesLess (EP d k).toList (EP d m).toList
       ·have s:=Ab (VQ d k m F (by have:=Aa o;omega) hs);go_wp2
        go_ret
        exact ⟨Ay (by rw[Aa l,Aa s,Bool.and_false]),rfl⟩
       ·go_wp2
        go_round
        case rel=>
         refine ⟨m+1,by omega,by omega,by go_num,fun j f E=>?_⟩
         by_cases e:j=m
         ·subst e;exact hs
         ·exact Aa A j f (by omega)
        case measure=>simp[intOf];omega
      ·go_wp2
       go_round
       case rel=>
        refine ⟨k+1,by omega,by go_num,fun j f=>?_,fun i j hi r f=>?_⟩
        ·by_cases e:j=k
         ·subst e;exact Aa q
         ·exact Aa v j (by omega)
        ·by_cases e:i=k
         ·subst e;exact Aa A j r (by omega)
         ·exact Aa x i j (by omega) r f
       case measure=>simp[intOf];omega
   ·go_wp2
    go_ret
    have e1:Rj d=true:=Xk d fun j f=>Aa v j (by have:=Aa o;omega);have e2:Ff d=true:=(Pu d).2 fun i j r f=>Aa x i j (by have:=Aa o;omega) r (by have:=Aa o;omega);exact ⟨Ay (by rw[Aa l,e1,e2];rfl),rfl⟩
 ·have g:(64 :Int) < (n:Int):=by omega
  have l:=Ab (Ug d (by omega));clear hl;go_enter Tryz.func117,Tryz.ntmps117
  go_wp2
  go_ret
  exact ⟨Ay (Aa l).symm,rfl⟩
theorem If {P:Program}{c:Array Oper}{f:List Oper}{b:Oper}{a:Act}{w:World}{k:Exit→Act→World→Prop}(l:b.guard=none)(ty:TypeId)(x:Operand)(m:b.op= .load ty x)
  (g:Nat)(hx:a.eval x= .pointer (some ⟨g,0,none⟩))(cs:Array Value)(d:TypeDesc)(hc:∀ j,w.cell? ⟨g,j,none⟩=cs[j]?)
  (hu:P.underlying ty=some d)(s:(match d with | .struct _ | .array _ _=>true | _=>false)=true)(hi:(P.info? ty).map (·.size)=some cs.size)
  (h:wpList P c k f (a.put b.dst (.agg cs)) w):wpList P c k (b ::f) a w:=
 wpList_plain l fun _ n=>by
  have hl:(loadCells ⟨g,0,none⟩ cs.toList.length).run P w= .ok cs.toList.toArray w:=
   run_loadCells_list (P:=P) w ⟨g,0,none⟩ cs.toList (fun j v o=>by
    have p:(⟨g,0,none⟩:Addr).add j=⟨g,j,none⟩:=by unfold Addr.add;split <;> simp_all
    rw[p,hc j];simpa using o)
  have q:(loadVar ty ⟨g,0,none⟩).run P w= .ok (.agg cs) w:=by
   cases hq:P.info? ty with
   | none=>simp[hq] at hi
   | some i=>
    have hs:i.size=cs.size:=by simpa[hq] using hi
    have r:(isAgg ty).run P w= .ok true w:=by
     unfold isAgg;rw[Sem.run_bind,run_underlying hu w];cases d <;> simp_all
    simp only[Array.length_toList,Array.toArray_toList] at hl;simp[loadVar,Sem.run_bind,r,sizeOf,typeInfo,hq,hs,hl]
  unfold Oper.wp execOp;simp only[m,hx,Instr.loadAt,Instr.sureAddr,Sem.run_bind,Sem.run_pure,Result.andThen_ok,q];exact n _ _ h
theorem DC {P:Program}{f:Array Oper}{g:List Oper}{c:Oper}{a:Act}{w:World}{j:Exit→Act→World→Prop}(l:c.guard=none)(ty:TypeId)(x y:Operand)(m:c.op= .index ty x y)
  (cs:Array Value)(hx:a.eval x= .agg cs)(k:Nat)(hy:a.eval y= .int .i64 k)(n:Nat)(e:TypeId)(hu:P.underlying ty=some (.array n e))(hk:k < n)(d:TypeDesc)(o:P.underlying e=some d)
  (u:(match d with | .struct _ | .array _ _=>true | _=>false)=true)(b:Nat)(hi:(P.info? e).map (·.size)=some b)(r:Array Value)(p:cs.extract (k * b) (k * b+b)=r)
  (h:wpList P f j g (a.put c.dst (.agg r)) w):wpList P f j (c ::g) a w:=
 wpList_plain l fun _ q=>by
  have hq:(Instr.index ty (.agg cs) (.int .i64 k)).run P w= .ok (.agg r) w:=by
   cases hq:P.info? e with
   | none=>simp[hq] at hi
   | some i=>
    have hs:i.size=b:=by simpa[hq] using hi
    have s:(isAgg e).run P w= .ok true w:=by
     unfold isAgg;rw[Sem.run_bind,run_underlying o w];cases d <;> simp_all
    have t:(0 :Int)≤(k:Int)∧(k:Int) < (n:Int):=⟨by omega,by omega⟩
    simp[Instr.index,run_underlying hu,asIntOf,t,hk,part,Sem.run_bind,s,sizeOf,typeInfo,hq,hs,p]
  unfold Oper.wp execOp;simp only[m,hx,hy,Sem.run_bind,hq,Sem.run_pure,Result.andThen_ok];exact q _ _ h
end Go.Proofs.YtdldimphcpojoaaGreatDoor

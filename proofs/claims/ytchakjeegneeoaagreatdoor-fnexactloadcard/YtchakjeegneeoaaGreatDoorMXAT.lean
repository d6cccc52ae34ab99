/-
  ECA, CLN, TM, Sorted. Own work.
-/
import Derived.Test.YtchakjeegneeoaaGreatDoorMXAD
import Derived.Test.YtchakjeegneeoaaGreatDoorMXAE
import Derived.Test.YtchakjeegneeoaaGreatDoorMXAC
import Derived.Test.YtchakjeegneeoaaGreatDoorMXAB
import Derived.Lib.SmallJoins
import Derived.Test.YtchakjeegneeoaaGreatDoorMXAG
namespace Go.Proofs.YtchakjeegneeoaaGreatDoor
open Go.RowKit
set_option linter.unusedVariables false
structure Dc where
 name:ByteArray
 isLet:Bool
 num:Int
 typ:Int
def Dc.val (d:Dc):Value:= .agg #[.bool d.isLet,.int .i64 d.num,.int .i64 d.typ]
def De (K:List Dc) (s:ByteArray):Option Dc:=K.find? (fun d=>d.name=s)
abbrev Rs:=Except (Int × Int) Int
def QJ (f:Int × Int):Option Int→Rs
 |some t=> .ok t
 |none=> .error f
def gX:Rs→Int
 | .ok t=>t
 | .error _=>0
def Bc (K:List Dc):Ex→Rs
 | .int .. => .ok 2
 | .text .. => .ok 3
 | .bool .. => .ok 1
 | .set .. => .ok 4
 | .name i s=>QJ (7,i) ((De K s).map Dc.typ)
 | .attr i _=> .error (9,i)
 | .lett i _=> .error (9,i)
 | .un i op k=>(Bc K k).bind fun a=>QJ (9,i) (nz (Ct op [a]))
 | .bin i op l r=>(Bc K l).bind fun a=>(Bc K r).bind fun b=>QJ (9,i) (nz (Ct op [a,b]))
 | .ite i c t e=>(Bc K c).bind fun a=>(Bc K t).bind fun b=>(Bc K e).bind fun d=>QJ (9,i) (nz (Ct 27 [a,b,d]))
def CL (K:List Dc):Ex→List Int
 | .un i op k=>CL K k ++ [gX (Bc K (.un i op k))]
 | .bin i op l r=>CL K l ++CL K r ++ [gX (Bc K (.bin i op l r))]
 | .ite i c t e=>CL K c ++CL K t ++CL K e ++ [gX (Bc K (.ite i c t e))]
 |e=> [gX (Bc K e)]
theorem CT (K:List Dc):∀ (e:Ex),(CL K e).length=e.cnt
 | .int .. | .text .. | .bool .. | .set .. | .name .. | .attr .. | .lett .. =>rfl
 | .un _ _ k=>by simp[CL,Ex.cnt,CT K k]
 | .bin _ _ l r=>by simp[CL,Ex.cnt,CT K l,CT K r];omega
 | .ite _ c t e=>by simp[CL,Ex.cnt,CT K c,CT K t,CT K e];omega
def inX (o:Rs):Prop:=∀ a,o= .ok a→1≤a∧a≤4
def Ex.written:Ex→Prop
 | .attr .. =>False
 | .lett .. =>False
 | .un _ op k=>(8≤op∧op≤10)∧k.written
 | .bin _ op l r=>(11≤op∧op≤26)∧l.written∧r.written
 | .ite _ c t e=>c.written∧t.written∧e.written
 |_=>True
theorem Wq {K:List Dc}{s:ByteArray}{d:Dc}(h:De K s=some d):d∈K∧d.name=s:=by
 have h1:=List.mem_of_find?_eq_some h;have h2:=List.find?_some h;exact ⟨h1,by simpa using h2⟩
theorem Zc {K:List Dc}{s:ByteArray}(h:De K s=none):s ∉ K.map Dc.name:=fun hs=>by
 obtain ⟨d,hd,e⟩:=zQ.1 hs;have:=List.find?_eq_none.1 h d hd;simp[e] at this
theorem AcX {K:List Dc}(a:(K.map Dc.name).Nodup){d:Dc}(hd:d∈K):De K d.name=some d:=by
 induction K with
 |nil=>cases hd
 |cons x K b=>
  rw[List.map_cons,List.nodup_cons] at a;rcases zE.1 hd with rfl | h
  ·simp[De]
  ·have c:x.name≠d.name:=fun e=>a.1 (by rw[e];exact zQ.2 ⟨d,h,rfl⟩);have:=b a.2 h;rw[De,List.find?_cons_of_neg (by simpa using c)];exact this
theorem QK {f:Int × Int}{o:Option Int}(h:∀ a,o=some a→1≤a∧a≤4):inX (QJ f o):=fun a e=>by
 cases o with
 |none=>cases e
 |some t=>cases e;exact h _ rfl
set_option maxRecDepth 100000
set_option maxHeartbeats 2000000
theorem UV (a:Option Addr)(n c:Nat)(d:List ByteArray)(w:World)(h:Bg w a n c d)(v:d.length≤1048576):
  Calls Tryz.prog 146 #[.slice a n c] w fun e w'=>(∃ x l,e= .returned (.slice x d.length l)∧w'.ownsRow w.heap.size 9 1 (.slice x d.length l) d.length (d.map Value.string))∧Below w.heap.size w w':=by
 obtain ⟨y,z,A,B,C⟩:=info_parts M8;have m:=h.len;cases a with
 |none=>
  have h0:n=0:=by
   rcases Nat.eq_zero_or_pos n with q | q
   ·exact q
   ·obtain ⟨b,E,e,_⟩:=h.cells 0 q;cases e
  subst h0;obtain rfl:d= []:=zy m.symm;clear h v m;have F:∀ (w:World) (a:Option Addr) (n c f g:Nat),(binOp .eql 56 (.slice a n c) (.slice none f g)).run Tryz.prog w= .ok (.bool a.isNone) w:=fun w a n c f g=>Lib.run_eql_slice_nil w _ _ a n c f g Tryz.underlying56;go_enter Tryz.func146,Tryz.ntmps146
  go_wp2_with fail
  go_ret
  exact ⟨⟨none,0,rfl,World.ownsRow_nil _ _ _ _⟩,BRN⟩
 |some H=>
  have F:∀ (w:World) (a:Option Addr) (n c f g:Nat),(binOp .eql 56 (.slice a n c) (.slice none f g)).run Tryz.prog w= .ok (.bool a.isNone) w:=fun w a n c f g=>Lib.run_eql_slice_nil w _ _ a n c f g Tryz.underlying56;have N:∀ w,Sem.run Tryz.prog (underlying 56) w= .ok (TypeDesc.slice 9) w:=run_underlying Tryz.underlying56;have I:=Ab h;have i:=Ab m;have O:n≤1048576:=by omega
  clear h m;go_enter Tryz.func146,Tryz.ntmps146
  go_wp2_with (at_builtin;refine wpList_append_own _ rfl _ _ 56 rfl w.heap.size 9 y (.string ByteArray.empty) 1 16 Tryz.underlying56 z A B C rfl (by decide) _ _ _ rfl (World.ownsRow_made w #[] 0 NLN (zF _) rfl) H n c (d.map Value.string) rfl ?qc1 ?qc2 ?qc3 ?qc4 ?qc5 ?qc6 ?_)
  case qc1=>rw[zV,Aa i];omega
  case qc2=>
   intro j u p;have o:j < n:=by
    have:=(ze.1 p).1;rw[zV] at this;rw[Aa i];exact this
   obtain ⟨b,E,e,P,hc⟩:=(Aa I).cells j o;cases e;rw[Addr.add_lit];refine Lib.cell?_alloc_some _ ?_;rw[hc,← p,zh,zH (by rw[← Aa i];exact o),Cv _ _ (by rw[← Aa i];exact o)];rfl
  case qc3=>intro u J;obtain ⟨x,_,rfl⟩:=zQ.1 J;rfl
  case qc4=>unfold maxLen;omega
  case qc5=>omega
  case qc6=>simp
  intro v' K r s L;have M:=((Below.refl _ w).alloc NLN (.cells #[] 9)).grown s (by simp) (by intro k hk;simp[Value.ownBlock] at hk;omega);have t:K.ownsRow w.heap.size 9 1 v' n (d.map Value.string):=by simpa using r
  obtain ⟨x,l,rfl,_⟩:=Ad t;clear r L s;go_wp2_with fail
  go_ret
  have e:=Aa i;subst e;exact ⟨⟨x,l,rfl,t⟩,M⟩
theorem H6 {w:World}{a base':Nat}{e:TypeId}{size:Nat}{v:Value}{n:Nat}{b:List Value}(h:w.ownsRow a e size v n b)(c:base'≤a):w.ownsRow base' e size v n b:=by
 refine ⟨h.1, ?_⟩;rcases h.2 with h2 | ⟨g,cap,d,f,h3,h4⟩
 ·exact .inl h2
 ·exact .inr ⟨g,cap,d,f,zD c h3,h4⟩
def Ln (t:Af):List Value:= [.int .i64 t.kind,.int .i64 t.num,.string t.text,.int .i64 (t.at_:Int)]
def GA (T:List Af):List Value:=T.flatMap Ln
theorem Lp (T:List Af)(t:Af):GA (T ++ [t])=GA T ++Ln t:=by simp[GA]
theorem Ka:∀ (T:List Af) (j:Nat) (h:j < T.length),(GA T)[j * 4]? =some (.int .i64 T[j].kind)∧(GA T)[j * 4+1]? =some (.int .i64 T[j].num)∧(GA T)[j * 4+2]? =some (.string T[j].text)∧(GA T)[j * 4+3]? =some (.int .i64 (T[j].at_:Int))
 |t ::T,0,_=>⟨rfl,rfl,rfl,rfl⟩
 |t ::T,j+1,h=>by
  have b:=Ka T j (by simpa using h);have e:GA (t ::T)=Ln t ++GA T:=rfl;have e1:∀ i,(Ln t ++GA T)[(j+1) * 4+i]? =(GA T)[j * 4+i]? :=fun i=>by
   rw[Z7 (by simp[Ln];omega)]
   congr 1
   simp[Ln];omega
  have a:=e1 0;rw[zZ,zZ] at a;rw[e,a,e1 1,e1 2,e1 3];simpa using b
def Sb (T:List Af):Prop:=∀ t∈T,t.text.size≤maxLen
theorem Ow {w w':World}{lo n c:Nat}{a:Option Addr}{d:List Value}(h:w.ownsRow lo 51 4 (.slice a n c) n d)(f:∀ x,a=some x→w'.heap[x.block]? =w.heap[x.block]?):w'.ownsRow lo 51 4 (.slice a n c) n d:=by
 refine ⟨h.1, ?_⟩;rcases h.2 with h2 | ⟨g,cap,i,b,h3,j,h4⟩
 ·exact .inl h2
 ·refine .inr ⟨g,cap,i,b,h3, ?_,h4⟩;simp only[Value.slice.injEq] at b;rw[← j];exact f ⟨g,0,none⟩ b.1
set_option maxHeartbeats 1600000
def YJ (first:Bool) (s x:ByteArray):Bool:=first || sl s x
structure DF (names:List ByteArray) (first:Bool) (s best:ByteArray) (found:Bool):Prop where
 yes:found=true→best∈names∧YJ first s best=true∧∀ x∈names,YJ first s x=true→sl x best=false
 no:found=false→∀ x∈names,YJ first s x=false
theorem DF.start (first:Bool)(s a:ByteArray):DF [] first s a false:=⟨(fun h=>by cases h),(fun _ x hx=>by cases hx)⟩
theorem DF.skip {names:List ByteArray}{first:Bool}{s b x:ByteArray}{c:Bool}(h:DF names first s b c)(hx:YJ first s x=false):DF (names ++ [x]) first s b c:=by
 refine ⟨fun hf=>?_,fun hf y hy=>?_⟩
 ·obtain ⟨h1,h2,h3⟩:=h.yes hf;refine ⟨zl _ h1,h2,fun y hy a=>?_⟩;rcases zK.1 hy with hy | hy
  ·exact h3 y hy a
  ·simp only[zL] at hy;subst hy;rw[hx] at a;cases a
 ·rcases zK.1 hy with hy | hy
  ·exact h.no hf y hy
  ·simp only[zL] at hy;subst hy;exact hx
theorem DF.keep {names:List ByteArray}{first:Bool}{s a x:ByteArray}(h:DF names first s a true)(hx:sl x a=false):DF (names ++ [x]) first s a true:=by
 obtain ⟨h1,h2,h3⟩:=h.yes rfl;refine ⟨fun _=>⟨zl _ h1,h2,fun y hy b=>?_⟩,fun hf=>by cases hf⟩;rcases zK.1 hy with hy | hy
 ·exact h3 y hy b
 ·simp only[zL] at hy;subst hy;exact hx
theorem DF.take {names:List ByteArray}{first:Bool}{s c x:ByteArray}{a:Bool}(h:DF names first s c a)(hx:YJ first s x=true)(d:a=true→sl x c=true):DF (names ++ [x]) first s x true:=by
 refine ⟨fun _=>⟨by simp,hx,fun y hy b=>?_⟩,fun hf=>by cases hf⟩;rcases zK.1 hy with hy | hy
 ·cases a with
  |false=>rw[h.no rfl y hy] at b;cases b
  |true=>
   have h3:=(h.yes rfl).2.2 y hy b;rw[z2] at h3 ⊢;intro hk;exact h3 (H7 hk (d rfl))
 ·simp only[zL] at hy;subst hy;exact Ec _
theorem Acu (first:Bool)(s x:ByteArray)(hf:first=false)(h:(Op.bytesLess x.toList s.toList || x.toList== s.toList)=true):YJ first s x=false:=by
 subst hf;simp only[YJ,Bool.false_or];rw[Bool.or_eq_true] at h;rcases h with h | h
 ·exact Nb h
 ·have:x=s:=(Gc x s).1 h;subst this;exact Ec _
theorem AdJ (first:Bool)(s x:ByteArray)(h:(Op.bytesLess x.toList s.toList || x.toList== s.toList)=false):YJ first s x=true:=by
 rw[Bool.or_eq_false_iff] at h;have h1:sl x s=false:=h.1;have h2:eqS x s=false:=h.2;have:sl s x=true:=by
  cases hk:sl s x with
  |true=>rfl
  |false=>
   have:=UW _ _ h1 hk;rw[(Gc _ _).2 this] at h2;cases h2
 simp[YJ,this]
def Acv (ss:List ByteArray) (first:Bool) (s:ByteArray) (e:Ending):Prop:=∃ best found,e= .returned (.tuple #[.string best,.bool found])∧DF ss first s best found
theorem Ot (a:Option Addr)(n c:Nat)(d:List ByteArray)(s:ByteArray)(first:Bool)(w:World)(h:Bg w a n c d):
  Calls Tryz.prog 46 #[.slice a n c,.string s,.bool first] w fun e w'=>Acv d first s e∧w'=w:=by
 have v:n≤9223372036854775807:=by have:=h.cap;have:=h.small;unfold maxLen at this;omega
 have q:=Ab h.len;go_enter Tryz.func46,Tryz.ntmps46
 go_wp2
 go_loop [8,9,11,14] (fun b f _ i=>∃ (k:Nat) (m:ByteArray) (g:Bool),k≤n∧i= .int .i64 k∧b= .string m∧f= .bool g∧DF (d.take k) first s m g) (fun _ _ _ i=>n - (intOf i).toNat)
 case atStart=>exact ⟨0,_,false,zF _,rfl,rfl,rfl,DF.start _ _ _⟩
 case round=>
  obtain ⟨k,m,g,hk,rfl,rfl,rfl,hi⟩:=hrel;by_cases t:k < n
  ·obtain ⟨b,x,u,_,hc⟩:=h.cells k t;subst u;have j:=Ab (PE d k (by have:=Aa q;omega));cases r:(Op.bytesLess (EU d k).toList s.toList || (EU d k).toList== s.toList)
   ·have o:=AdJ first s (EU d k) r
    have l:=Ab o;clear o;cases g
    ·cases first
     all_goals
      go_wp2
      go_round
      case rel=>exact ⟨k+1,_,true,by omega,by go_num,rfl,rfl,by rw[Aa j];exact hi.take (Aa l) (fun h=>by cases h)⟩
      case measure=>simp[intOf];omega
    ·cases p:Op.bytesLess (EU d k).toList m.toList
     ·cases first
      all_goals
       go_wp2
       go_round
       case rel=>exact ⟨k+1,_,true,by omega,by go_num,rfl,rfl,by rw[Aa j];exact hi.keep p⟩
       case measure=>simp[intOf];omega
     ·cases first
      all_goals
       go_wp2
       go_round
       case rel=>exact ⟨k+1,_,true,by omega,by go_num,rfl,rfl,by rw[Aa j];exact hi.take (Aa l) (fun _=>p)⟩
       case measure=>simp[intOf];omega
   ·cases first
    ·have l:=Ab (Acu false s (EU d k) rfl r);go_wp2
     go_round
     case rel=>exact ⟨k+1,_,g,by omega,by go_num,rfl,rfl,by rw[Aa j];exact hi.skip (Aa l)⟩
     case measure=>simp[intOf];omega
    ·have o:YJ true s (EU d k)=true:=rfl;have l:=Ab o;clear o;cases g
     ·go_wp2
      go_round
      case rel=>exact ⟨k+1,_,true,by omega,by go_num,rfl,rfl,by rw[Aa j];exact hi.take (Aa l) (fun h=>by cases h)⟩
      case measure=>simp[intOf];omega
     ·cases p:Op.bytesLess (EU d k).toList m.toList
      ·go_wp2
       go_round
       case rel=>exact ⟨k+1,_,true,by omega,by go_num,rfl,rfl,by rw[Aa j];exact hi.keep p⟩
       case measure=>simp[intOf];omega
      ·go_wp2
       go_round
       case rel=>exact ⟨k+1,_,true,by omega,by go_num,rfl,rfl,by rw[Aa j];exact hi.take (Aa l) (fun _=>p)⟩
       case measure=>simp[intOf];omega
  ·have e1:d.take k=d:=zq (by have:=Aa q;omega);rw[e1] at hi;go_wp2
   go_ret2
   exact ⟨⟨m,g,rfl,hi⟩,rfl⟩
theorem Ou {K:List ByteArray}(h:FU K=true):K.Nodup:=by
 rw[FU,zG] at h;exact h.imp (fun {a b} hab e=>by subst e;rw[Ec] at hab;cases hab)
theorem Ov:∀ (K l:List ByteArray),K.Nodup→(∀ x∈K,x∈l)→K.length≤l.length
 | [],_,_,_=>zF _
 |x ::K,l,hn,hs=>by
  obtain ⟨b,c,rfl⟩:=List.append_of_mem (hs x (by simp));rw[List.nodup_cons] at hn;have:=Ov K (b ++c) hn.2 (fun y hy=>by
   have d:y≠x:=fun e=>hn.1 (by rw[← e];exact hy);have a:=hs y (by simp[hy]);simp only[zK,zE] at a ⊢;rcases a with h | h | h
   ·exact .inl h
   ·exact absurd h d
   ·exact .inr h)
  simp only[zA,List.length_cons] at this ⊢;omega
theorem Mh:∀ (K M:List ByteArray),FU K=true→FU M=true→(∀ x,x∈K↔x∈M)→K=M
 | [], [],_,_,_=>rfl
 | [],y ::M,_,_,h=>by have:=(h y).2 (by simp);cases this
 |x ::K, [],_,_,h=>by have:=(h x).1 (by simp);cases this
 |x ::K,y ::M,hK,hM,h=>by
  rw[FU,zG,List.pairwise_cons] at hK hM;have c:x=y:=by
   rcases zE.1 ((h x).1 (by simp)) with e | hx
   ·exact e
   ·rcases zE.1 ((h y).2 (by simp)) with e | hy
    ·exact e.symm
    ·have h1:=hM.1 x hx;have h2:=hK.1 y hy;rw[Nb h1] at h2;cases h2
  subst c
  congr 1
  refine Mh K M (by rw[FU,zG];exact hK.2) (by rw[FU,zG];exact hM.2) fun b=>?_;constructor
  ·intro a;rcases zE.1 ((h b).1 (by simp[a])) with e | hz'
   ·subst e;have:=hK.1 b a;rw[Ec] at this;cases this
   ·exact hz'
  ·intro a;rcases zE.1 ((h b).2 (by simp[a])) with e | hz'
   ·subst e;have:=hM.1 b a;rw[Ec] at this;cases this
   ·exact hz'
structure Cw (l K:List ByteArray):Prop where
 rise:FU K=true
 mem:∀ x,x∈K↔x∈l
theorem Cw.unique {l K M:List ByteArray}(h:Cw l K)(k:Cw l M):K=M:=Mh K M h.rise k.rise fun x=>(h.mem x).trans (k.mem x).symm
theorem Cw.len {l K:List ByteArray}(h:Cw l K):K.length≤l.length:=Ov K l (Ou h.rise) fun x hx=>(h.mem x).1 hx
structure RZ (l K:List ByteArray) (s:ByteArray) (ok:Bool):Prop where
 rise:FU K=true
 yes:ok=true→s∈l∧∀ x,x∈K↔x∈l∧sl x s=true
 no:ok=false→∀ x,x∈K↔x∈l
theorem RZ.start {l:List ByteArray}{t s:ByteArray}{ok:Bool}(h:DF l true t s ok):RZ l [] s ok:=by
 refine ⟨rfl,fun hk=>⟨(h.yes hk).1,fun x=>⟨(fun hx=>by cases hx),fun ⟨hx,a⟩=>?_⟩⟩,fun hk x=>⟨(fun hx=>by cases hx),fun hx=>?_⟩⟩
 ·have:=(h.yes hk).2.2 x hx rfl;rw[this] at a;cases a
 ·have:=h.no hk x hx;cases this
theorem JQ (x s:ByteArray):sl x s=true∨x=s∨sl s x=true:=by
 cases h1:sl x s with
 |true=>exact .inl rfl
 |false=>cases h2:sl s x with
  |true=>exact .inr (.inr rfl)
  |false=>exact .inr (.inl (UW _ _ h1 h2))
theorem RZ.step {l K:List ByteArray}{s s':ByteArray}{ok:Bool}(h:RZ l K s true)(k:DF l false s s' ok):RZ l (K ++ [s]) s' ok:=by
 obtain ⟨hs,a⟩:=h.yes rfl;have rise:FU (K ++ [s])=true:=by
  rw[FU,zG,List.pairwise_append];refine ⟨by have:=h.rise;rwa[FU,zG] at this,by simp,fun x hx y hy=>?_⟩;simp only[zL] at hy;subst hy;exact ((a x).1 hx).2
 refine ⟨rise,fun hk=>?_,fun hk=>?_⟩
 ·obtain ⟨h1,h2,h3⟩:=k.yes hk;have b:sl s s'=true:=by simpa[YJ] using h2
  refine ⟨h1,fun x=>⟨fun hx=>?_,fun ⟨hx,c⟩=>?_⟩⟩
  ·rcases zK.1 hx with hx | hx
   ·exact ⟨((a x).1 hx).1,H7 ((a x).1 hx).2 b⟩
   ·simp only[zL] at hx;subst hx;exact ⟨hs,b⟩
  ·rcases JQ x s with hc | hc | hc
   ·exact zl _ ((a x).2 ⟨hx,hc⟩)
   ·subst hc;simp
   ·have:=h3 x hx (by simpa[YJ] using hc);rw[this] at c;cases c
 ·intro x;constructor
  ·intro hx;rcases zK.1 hx with hx | hx
   ·exact ((a x).1 hx).1
   ·simp only[zL] at hx;subst hx;exact hs
  ·intro hx;rcases JQ x s with hc | hc | hc
   ·exact zl _ ((a x).2 ⟨hx,hc⟩)
   ·subst hc;simp
   ·have:=k.no hk x hx;simp[YJ,hc] at this
theorem RZ.lt {l K:List ByteArray}{s:ByteArray}(h:RZ l K s true):K.length < l.length:=by
 obtain ⟨hs,a⟩:=h.yes rfl;have b:s ∉ K:=fun hk=>by have:=((a s).1 hk).2;rw[Ec] at this;cases this
 have:=Ov (s ::K) l (List.nodup_cons.2 ⟨b,Ou h.rise⟩) (fun x hx=>by
  rcases zE.1 hx with e | hx
  ·subst e;exact hs
  ·exact ((a x).1 hx).1)
 simp only[List.length_cons] at this;omega
def AcT:Value→Nat | .slice _ n _=>n | _=>0
def Acw (w:World) (ss:List ByteArray) (e:Ending) (w':World):Prop:=
 ∃ x cx K,e= .returned (.slice x K.length cx)∧w'.ownsRow w.heap.size 9 1 (.slice x K.length cx) K.length (K.map Value.string)∧Below w.heap.size w w'∧Cw ss K
theorem Kl (a:Option Addr)(n c:Nat)(j:List ByteArray)(w:World)(h:Bg w a n c j)(Q:n≤1048576):
  Calls Tryz.prog 26 #[.slice a n c] w fun e w'=>Acw w j e w':=by
 obtain ⟨i,hi,A,B,C⟩:=info_parts M8;have E:=Ab h.len;go_enter Tryz.func26,Tryz.ntmps26
 go_wp2_with fail
 refine (Ot _ _ _ _ _ _ _ h).mono ?_;rintro e o ⟨⟨F,H,rfl,d⟩,p⟩;rw[p];clear p;have I:=RZ.start d;clear d;go_wp2_with fail
 go_loopw [3,4,5] (fun v s ok wr=>∃ (K:List ByteArray) (t:ByteArray) (q:Bool) (x:Option Addr) (f:Nat),s= .string t∧ok= .bool q∧v= .slice x K.length f∧wr.ownsRow w.heap.size 9 1 (.slice x K.length f) K.length (K.map Value.string)∧RZ j K t q∧Below w.heap.size w wr) (fun v _ _ _=>n - AcT v)
 case atStart=>exact ⟨[],F,H,none,0,rfl,rfl,rfl,World.ownsRow_nil _ _ _ _,I,BRN⟩
 case round=>
  obtain ⟨K,t,q,x,f,rfl,rfl,rfl,g,b,l⟩:=hrel;cases q
  ·go_wp2
   go_ret
   exact ⟨x,f,K,rfl,g,l,⟨b.rise,b.no rfl⟩⟩
  ·have R:K.length < n:=by have:=b.lt;have:=Aa E;omega
   have J:=l.size;go_wp2_with (at_builtin;refine wpList_append_own _ rfl _ _ 56 rfl w.heap.size 9 i (.string ByteArray.empty) 1 16 Tryz.underlying56 hi A B C rfl (by decide) _ _ _ rfl (g.alloc _) ⟨wr.heap.size,0,none⟩ 1 1 [.string t] rfl rfl ?c1 ?c2 ?c3 ?c4 ?c5 ?_)
   case c1=>exact cell_one_new _ _ _
   case c2=>intro u b;simp at b;subst b;rfl
   case c3=>unfold maxLen;omega
   case c4=>omega
   case c5=>simp;omega
   intro v' o m r _;have y:Below w.heap.size w o:=(l.alloc J _).grown r (by simp;omega) (fun k hk=>(g.lt k hk).1);obtain ⟨L,M,hf⟩:=CX m;rw[hf] at m ⊢;clear r g hf;go_wp2_with fail
   refine (Ot _ _ _ _ _ _ _ (h.below y NLN)).mono ?_;rintro e w2 ⟨⟨N,O,rfl,d⟩,z⟩;rw[z];clear z;have P:=b.step d;clear d b;go_wp2
   go_roundw
   case rel=>exact ⟨K ++ [t],N,O,L,M,rfl,rfl,by rw[zA];rfl,by rw[zU,zA];exact m,P,y⟩
   case measure=>simp[AcT];omega
end Go.Proofs.YtchakjeegneeoaaGreatDoor

/-
  QB, QI, QL, QK, QJ1, VPV, VPW, TX. Own work.
-/
import Derived.Test.YtcpdodmoheebaaaGreatDoorMXAR
import Derived.Test.YtcpdodmoheebaaaGreatDoorMXAQ
import Derived.Test.YtcpdodmoheebaaaGreatDoorMXAC
import Derived.Test.YtcpdodmoheebaaaGreatDoorMXAP
import Derived.Test.YtcpdodmoheebaaaGreatDoorMXAW
namespace Go.Proofs.YtcpdodmoheebaaaGreatDoor
open Go.RowKit
set_option linter.unusedVariables false
theorem Fe {w:World}{b:Nat}{c d f g:Value}{t:TypeId}(a:Ao w b #[c,d,f,g] t):w.cell? ⟨b,0,none⟩=some c∧w.cell? ⟨b,1,none⟩=some d∧w.cell? ⟨b,2,none⟩=some f∧w.cell? ⟨b,3,none⟩=some g:=
 ⟨a.cell 0,a.cell 1,a.cell 2,a.cell 3⟩
def Lf (Es:List Ex) (k:Int):ByteArray:=match Es[k.toNat]? with
 | some e=>e.pr
 | none=>⟨#[]⟩
def Lp (Es:List Ex) (g:Int):ByteArray:=if g= -1 then ⟨#[100,101,110,121]⟩ else ⟨#[103,114,97,110,116,32]⟩ ++Lf Es g
def IS (Es:List Ex) (s:St):ByteArray:=
 (if s.kind=1 then ⟨#[108,101,116,32]⟩ ++s.name ++⟨#[32,61,32]⟩ ++Lf Es s.cond
   else if s.kind=2 then ⟨#[119,104,101,110,32]⟩ ++Lf Es s.cond ++⟨#[32,61,62,32]⟩ ++Lp Es s.grant
   else ⟨#[101,108,115,101,32]⟩ ++Lp Es s.grant) ++⟨#[59,10]⟩
theorem ED {s:ByteArray}(h:BA s=true):s.size≤32:=by
 unfold BA at h
 have e:(Ad s).length=s.size:=by simp [Ad]
 cases hs:Ad s with
 | nil=>rw [hs] at e;simp at e;omega
 | cons c r=>
  rw [hs] at h
  simp only [Bool.and_eq_true,decide_eq_true_eq] at h
  rw [← e,hs]
  exact h.1.1.1
theorem GA {s:ByteArray}(h:BP s=true):s.size≤32:=by
 unfold BP at h
 simp only [Bool.and_eq_true,decide_eq_true_eq] at h
 exact h.1
theorem HH {a:List ByteArray}(h:Ff a=true):a.length≤64∧∀ x∈a,x.size≤32:=by
 unfold Ff at h
 simp only [Bool.and_eq_true,decide_eq_true_eq] at h
 refine ⟨h.1,fun x hx=>?_⟩
 have:=List.all_eq_true.1 h.2.1 x hx
 simp only [vnB,Bool.and_eq_true,decide_eq_true_eq] at this
 omega
theorem CY {N:List Nd}{a:Nat}{Es:List Ex}(hl:Es.length=a)(b:∀ j,(h:j < Es.length)→BZ N j Es[j]){k:Int}(c: 0≤k∧k < a):∃ (m:Nat) (e:Ex),k=m∧m < a∧Es[m]? =some e∧BZ N m e:=by
 refine ⟨k.toNat,Es[k.toNat]'(by omega),by omega,by omega,List.getElem?_eq_getElem _,b _ _⟩
theorem L9 {N:List Nd}{w:World}{r:Nat}{x:Nd}{an:Option Addr}{nn A:Nat}(hx:N[r]? =some x)(a:AI x=true)(d:∀ k∈x.kids,0≤k∧k < r)(F:x.num≤9223372036854775807){Es:List Ex}(hl:Es.length=r)
  (i:∀ j,(h:j < Es.length)→BZ N j Es[j])(G:∀ e∈Es,e.fit w)(D:Bd w an nn A x.names):∃ e,Kw Es r x an nn A e∧BZ N r e∧e.fit w:=by
 unfold AI at a
 rw [Bool.and_eq_true,decide_eq_true_eq] at a
 obtain ⟨H,a⟩:=a
 have y:∀ n:Nat,Dl x.op=n→x.kids.length=n:=fun n e=>by omega
 have s:(1≤x.op∧x.op≤7)→x.kids= []:=fun h=>List.eq_nil_of_length_eq_zero (y 0 (by rw [Dl,if_pos h];rfl))
 have q:∀ {m:Nat} {e:Ex},Es[m]? =some e→e.fit w:=fun h=>G _ (List.mem_of_getElem? h)
 by_cases h1:x.op=1
 ·rw [if_pos h1] at a
  simp only [Bool.and_eq_true,decide_eq_true_eq] at a
  exact ⟨_,.int h1,.int hx h1 (s (by omega)),a.1.1,F⟩
 rw [if_neg h1] at a
 by_cases h2:x.op=2
 ·rw [if_pos h2] at a
  simp only [Bool.and_eq_true,decide_eq_true_eq] at a
  exact ⟨_,.text h2,.text hx h2 (s (by omega)),GA a.1.1⟩
 rw [if_neg h2] at a
 by_cases h3:x.op=3
 ·exact ⟨_,.bool h3,.bool hx h3 (s (by omega)),trivial⟩
 rw [if_neg h3] at a
 by_cases h4:x.op=4
 ·rw [if_pos h4] at a
  simp only [Bool.and_eq_true,decide_eq_true_eq] at a
  obtain ⟨K,I⟩:=HH a.1.1
  exact ⟨_,.set h4,.set hx h4 (s (by omega)) an nn A,D,by have:=D.len;omega,I⟩
 rw [if_neg h4] at a
 by_cases h5:x.op=5
 ·rw [if_pos h5] at a
  simp only [Bool.and_eq_true,decide_eq_true_eq] at a
  exact ⟨_,.name h5,.name hx h5 (s (by omega)),ED a.1.1⟩
 rw [if_neg h5] at a
 by_cases h6:x.op=6∨x.op=7
 ·rw [if_pos h6] at a
  cases a
 by_cases h8: 8≤x.op∧x.op≤10
 ·have t:=y 1 (by rw [Dl,if_neg (by omega),if_pos h8];rfl)
  match b:x.kids,t with
  | [k],_=>
   obtain ⟨m,e,rfl,hm,c,u⟩:=CY hl i (d k (by rw [b];simp))
   exact ⟨_,.un h8 b c,.un hx h8 b hm u,h8,q c⟩
 by_cases h11: 11≤x.op∧x.op≤26
 ·have t:=y 2 (by rw [Dl,if_neg (by omega),if_neg h8,if_pos h11];rfl)
  match b:x.kids,t with
  | [k,l],_=>
   obtain ⟨m,e,rfl,hm,c,u⟩:=CY hl i (d k (by rw [b];simp))
   obtain ⟨n,f,rfl,B,v,C⟩:=CY hl i (d l (by rw [b];simp))
   exact ⟨_,.bin h11 b c v,.bin hx h11 b ⟨hm,B⟩ u C,h11,q c,q v⟩
 by_cases z:x.op=27
 ·have t:=y 3 (by rw [Dl,if_neg (by omega),if_neg h8,if_neg h11,if_pos z];rfl)
  match b:x.kids,t with
  | [k,l,o],_=>
   obtain ⟨m,e,rfl,hm,c,u⟩:=CY hl i (d k (by rw [b];simp))
   obtain ⟨n,f,rfl,B,v,C⟩:=CY hl i (d l (by rw [b];simp))
   obtain ⟨p,g,rfl,J,E,q2⟩:=CY hl i (d o (by rw [b];simp))
   exact ⟨_,.ite z b c v E,.ite hx z b ⟨hm,B,J⟩ u C q2,q c,q v,q E⟩
 ·rw [Dl,if_neg (by omega),if_neg h8,if_neg h11,if_neg z] at H
  omega
theorem D2.setFar {w:World}{a:Option Addr}{n c:Nat}{L:List Int}(h:D2 w a n c L){p:Addr}(f:∀ x,a=some x→p.block≠x.block)(u:Value):D2 (w.setCell p u) a n c L:=
 ⟨h.len,h.small,fun j g=>by
  obtain ⟨b,i,d,k,hc⟩:=h.cells j g
  refine ⟨b,i,d,by simpa using k,?_⟩
  rw [← hc]
  exact World.cell?_of_block (heap_setCell_other w p b u (fun e=>f _ d e.symm))⟩
def Lb (cs:Array Value) (p:Nat) (v0 v1 v2 v3 v4:Value):Array Value:=((((cs.setIfInBounds p v0).setIfInBounds (p+1) v1).setIfInBounds (p+2) v2).setIfInBounds (p+3) v3).setIfInBounds (p+4) v4
theorem CU {b:Array Value}{p a:Nat}(h:a < p)(c d f g i:Value):(Lb b p c d f g i)[a]? =b[a]? :=by
 unfold Lb
 rw [Array.getElem?_setIfInBounds_ne (by omega),Array.getElem?_setIfInBounds_ne (by omega),Array.getElem?_setIfInBounds_ne (by omega),Array.getElem?_setIfInBounds_ne (by omega),Array.getElem?_setIfInBounds_ne (by omega)]
def IB (W:World) (b p:Nat) (v0 v1 v2 v3 v4:Value):World:=((((W.setCell ⟨b,p,none⟩ v0).setCell ⟨b,p+1,none⟩ v1).setCell ⟨b,p+2,none⟩ v2).setCell ⟨b,p+3,none⟩ v3).setCell ⟨b,p+4,none⟩ v4
theorem Bd.put5 {w:World}{x:Addr}{n c:Nat}{d:List ByteArray}(h:Bd w (some x) n c d){b p:Nat}(a:b≠x.block)(f g i j k:Value):Bd (IB w b p f g i j k) (some x) n c d:=
 ((((h.setFar (p:=⟨b,p,none⟩) (fun y e=>by cases e;exact a) f).setFar (p:=⟨b,p+1,none⟩) (fun y e=>by cases e;exact a) g).setFar (p:=⟨b,p+2,none⟩) (fun y e=>by cases e;exact a) i).setFar (p:=⟨b,p+3,none⟩) (fun y e=>by cases e;exact a) j).setFar (p:=⟨b,p+4,none⟩) (fun y e=>by cases e;exact a) k
theorem D2.put5 {w:World}{x:Addr}{n c:Nat}{d:List Int}(h:D2 w (some x) n c d){b p:Nat}(a:b≠x.block)(f g i j k:Value):D2 (IB w b p f g i j k) (some x) n c d:=
 ((((h.setFar (p:=⟨b,p,none⟩) (fun y e=>by cases e;exact a) f).setFar (p:=⟨b,p+1,none⟩) (fun y e=>by cases e;exact a) g).setFar (p:=⟨b,p+2,none⟩) (fun y e=>by cases e;exact a) i).setFar (p:=⟨b,p+3,none⟩) (fun y e=>by cases e;exact a) j).setFar (p:=⟨b,p+4,none⟩) (fun y e=>by cases e;exact a) k
theorem Wd.put5 {w:World}{x:Addr}{n:Nat}{t:TypeId}(h:Wd w x n t){b p:Nat}(a:b≠x.block)(c d f g i:Value):Wd (IB w b p c d f g i) x n t:=
 ((((h.setFar (p:=⟨b,p,none⟩) a c).setFar (p:=⟨b,p+1,none⟩) a d).setFar (p:=⟨b,p+2,none⟩) a f).setFar (p:=⟨b,p+3,none⟩) a g).setFar (p:=⟨b,p+4,none⟩) a i
def Mo (w:World) (g:Nat) (cs:Array Value) (o:Nat) (x:Nd):Prop:=∃ x1 nn x2 nk,cs[o]? =some (.int .i64 x.op)∧cs[o+1]? =some (.int .i64 x.num)∧cs[o+2]? =some (.string x.text)∧cs[o+3]? =some (.slice (some x1) nn nn)∧cs[o+4]? =some (.slice (some x2) nk nk)∧Bd w (some x1) nn nn x.names∧D2 w (some x2) nk nk x.kids∧(Wd w x1 nn 9∧Wd w x2 nk 3)∧g < x1.block∧g < x2.block
theorem Mo.step {w c:World}{g:Nat}{d:Array Value}{b p:Nat}{x:Nd}(h:Mo w g d b x)(a:Below w.heap.size w c)(y:b+5≤p)(f i j k l:Value):Mo (IB c g p f i j k l) g (Lb d p f i j k l) b x:=by
 obtain ⟨n,nn,o,q,r,c1,c2,c3,c4,s,t,m,u,v⟩:=h
 exact ⟨n,nn,o,q,(CU (by omega) _ _ _ _ _).trans r,(CU (by omega) _ _ _ _ _).trans c1,(CU (by omega) _ _ _ _ _).trans c2,(CU (by omega) _ _ _ _ _).trans c3,(CU (by omega) _ _ _ _ _).trans c4,(s.below a (Nat.le_refl _)).put5 (by omega) _ _ _ _ _,(t.below a (Nat.le_refl _)).put5 (by omega) _ _ _ _ _,⟨(m.1.below a (Nat.le_refl _)).put5 (by omega) _ _ _ _ _,(m.2.below a (Nat.le_refl _)).put5 (by omega) _ _ _ _ _⟩,u,v⟩
theorem Mo.at {w:World}{g:Nat}{b:Array Value}{c:Nat}{x:Nd}{t:TypeId}(h:Mo w g b c x)(a:Ao w g b t):KX w g c x:=by
 obtain ⟨j,nn,k,l,d,c1,c2,c3,c4,f,i,_,_,_⟩:=h
 exact ⟨_,_,_,_,_,_,(a.cell _).trans d,(a.cell _).trans c1,(a.cell _).trans c2,(a.cell _).trans c3,(a.cell _).trans c4,f,i⟩
def Hi (w:World) (g:Nat) (N:List Nd):Prop:=∃ cs,(Ao w g cs 99∧cs.size=N.length * 5)∧∀ j,(hj:j < N.length)→Mo w g cs (j * 5) N[j]
theorem Hi.nds {w:World}{g n:Nat}{N:List Nd}(h:Hi w g N)(hl:N.length=n)(b:n≤1048576)(hs:∀ x∈N,LU x):Dx w (some ⟨g,0,none⟩) n n N:=by
 obtain ⟨d,⟨a,_⟩,hx⟩:=h
 exact ⟨hl,b,fun x hx=>(hs x hx).1,fun j c=>⟨g,0,rfl,a.lt,by rw [Nat.zero_add];exact (hx j c).at a⟩⟩
theorem Hi.below {w w':World}{B g:Nat}{N:List Nd}(h:Hi w g N)(a:Below B w w')(b:w.heap.size≤B):Hi w' g N:=by
 obtain ⟨d,⟨f,i⟩,hx⟩:=h
 refine ⟨d,⟨f.after a b,i⟩,fun j k=>?_⟩
 obtain ⟨l,nn,m,n,o,c1,c2,c3,c4,p,q,c,r,s⟩:=hx j k
 exact ⟨l,nn,m,n,o,c1,c2,c3,c4,p.below a b,q.below a b,⟨c.1.below a b,c.2.below a b⟩,r,s⟩
theorem Ku.setFar {w:World}{g n c:Nat}{L:List St}(h:Ku w (some ⟨g,0,none⟩) n c L){p:Addr}(d:p.block≠g)(u:Value):Ku (w.setCell p u) (some ⟨g,0,none⟩) n c L:=
 ⟨h.len,h.small,h.sizes,fun j f=>by
  obtain ⟨b,l,i,hl,k,c1,c2,c3⟩:=h.cells j f
  cases i
  have e:∀ a,(w.setCell p u).cell? ⟨g,a,none⟩=w.cell? ⟨g,a,none⟩:=fun a=>World.cell?_of_block (heap_setCell_other w p g u (fun e=>d e.symm))
  exact ⟨g,0,rfl,by simpa using hl,(e _).trans k,(e _).trans c1,(e _).trans c2,(e _).trans c3⟩⟩
def Lc (cs:Array Value) (p:Nat) (v0 v1 v2 v3:Value):Array Value:=(((cs.setIfInBounds p v0).setIfInBounds (p+1) v1).setIfInBounds (p+2) v2).setIfInBounds (p+3) v3
theorem DZ {b:Array Value}{p a:Nat}(h:a < p)(c d f g:Value):(Lc b p c d f g)[a]? =b[a]? :=by
 unfold Lc
 rw [Array.getElem?_setIfInBounds_ne (by omega),Array.getElem?_setIfInBounds_ne (by omega),Array.getElem?_setIfInBounds_ne (by omega),Array.getElem?_setIfInBounds_ne (by omega)]
def MO (cs:Array Value) (o:Nat) (s:St):Prop:=cs[o]? =some (.int .i64 s.kind)∧cs[o+1]? =some (.string s.name)∧cs[o+2]? =some (.int .i64 s.cond)∧cs[o+3]? =some (.int .i64 s.grant)
theorem MO.step {b:Array Value}{a p:Nat}{s:St}(h:MO b a s)(i:a+4≤p)(c d f g:Value):MO (Lc b p c d f g) a s:=
 ⟨(DZ (by omega) _ _ _ _).trans h.1,(DZ (by omega) _ _ _ _).trans h.2.1,(DZ (by omega) _ _ _ _).trans h.2.2.1,(DZ (by omega) _ _ _ _).trans h.2.2.2⟩
end Go.Proofs.YtcpdodmoheebaaaGreatDoor
namespace Go.Proofs.YtcpdodmoheebaaaGreatDoor
set_option maxRecDepth 100000
set_option maxHeartbeats 3200000
open Go.RowKit
set_option linter.unusedVariables false
variable {aS aB aT : Addr}
theorem Ir {r:ByteArray}(h0: 0 < r.size):Ad r=r[0] ::(Ad r).drop 1:=by
 have h:=AD r 0 h0
 rwa [List.drop_zero] at h
theorem ES {r:ByteArray}(h0: 0 < r.size):AT (Ad r)=if DO (r[0].toNat:Int) then AM (Ad r) else if dgI (r[0].toNat:Int) then AL (Ad r) else if r[0]=34 then AR ((Ad r).drop 1) else AA r[0] (Ad r):=by
 have h:=Ir h0
 generalize (Ad r).drop 1=a at h ⊢
 rw [h]
 rfl
theorem DU (aS aB aT:Addr)(a:FP):∃ (k m:Int) (x:ByteArray) (n:Int) (b:Value),GL aS aB aT a= .tuple #[.agg #[.int .i64 k,.int .i64 m,.string x,.int .i64 0],.int .i64 n,b]:=by
 cases a with
 | bad c=>exact ⟨_,_,_,_,_,rfl⟩
 | tok k m s w=>exact ⟨_,_,_,_,_,rfl⟩
theorem FV (r:ByteArray)(w:World)(hs:r.size≤1048576)(h0: 0 < r.size)(H:Fc w aS aB aT):
  Calls Tryz.prog 27 #[.string r] w fun e w'=>e= .returned (GL aS aB aT (AT (Ad r)))∧Below w.heap.size w w':=by
 have J:(0 :Int) < (r.size:Int):=by omega
 obtain ⟨K,B,o,f,C⟩:=Fz w H
 obtain ⟨q,d1,d2,d3,s⟩:=An o
 cases t:dgI (r[0].toNat:Int)
 ·cases hl:DO (r[0].toNat:Int)
  ·have u:=Ab t
   have p:=Ab hl
   clear t hl
   by_cases G:(r[0].toNat:Int)=34
   ·have D:=Ab (show r[0]=34 from UInt8.toNat_inj.1 (by have:(34 :UInt8).toNat=34:=rfl;omega))
    have v:=Ab (show AT (Ad r)=AR ((Ad r).drop 1) by rw [ES h0];rw [Aa p,Aa u,if_neg (by decide),if_neg (by decide),if_pos (Aa D)])
    go_enter Tryz.func27,Tryz.ntmps27
    go_wp2_with (first | (go_at_call 38;refine (AW _ _).mono ?_;rintro e w' ⟨rfl,a⟩;rw [show dgI 34=false from by decide,a];clear a) | (go_at_call 40;refine (AJ _ _).mono ?_;rintro e w' ⟨rfl,a⟩;rw [show DO 34=false from by decide,a];clear a))
    clear B
    refine (Fy r _ hs h0 C).mono ?_
    rintro e E ⟨rfl,c⟩
    obtain ⟨k,m,x,n,F,d⟩:=DU aS aB aT (AR ((Ad r).drop 1))
    rw [d]
    have y:=Ab d
    clear d
    have g:=o.after c (Nat.le_refl _)
    have z:=f.trans (c.mono f.size)
    clear c q d1 d2 d3 s o f
    obtain ⟨q,d1,d2,d3,s⟩:=An g
    go_wp2_with fail
    have A:=Ac (b:=w.heap.size) z (Nat.le_refl _) (.int .i64 k) (.int .i64 m) (.string x) (.int .i64 0)
    obtain ⟨h,i,j,l,_⟩:=An (Aj g (.int .i64 k) (.int .i64 m) (.string x) (.int .i64 0))
    simp only [AY] at h i j l
    refine bodyPost_ret (Ah Tryz.results27 rfl h i j l) rfl ⟨?_,A⟩
    rw [Aa v,Aa y]
    rfl
   ·have L:=beq_eq_false_iff_ne.2 G
    have D:=Ab (show ¬ r[0]=34 from fun e=>G (by rw [e];rfl))
    have v:=Ab (show AT (Ad r)=AA r[0] (Ad r) by rw [ES h0];rw [Aa p,Aa u,if_neg (by decide),if_neg (by decide),if_neg (Aa D)])
    go_enter Tryz.func27,Tryz.ntmps27
    go_wp2_with (first | (go_at_call 38;refine (AW _ _).mono ?_;rintro e w' ⟨rfl,a⟩;rw [Aa u,a];clear a) | (go_at_call 40;refine (AJ _ _).mono ?_;rintro e w' ⟨rfl,a⟩;rw [Aa p,a];clear a))
    clear B
    refine (GI r _ hs h0 C).mono ?_
    rintro e E ⟨rfl,c⟩
    obtain ⟨k,m,x,n,F,d⟩:=DU aS aB aT (AA r[0] (Ad r))
    rw [d]
    have y:=Ab d
    clear d
    have g:=o.after c (Nat.le_refl _)
    have z:=f.trans (c.mono f.size)
    clear c q d1 d2 d3 s o f
    obtain ⟨q,d1,d2,d3,s⟩:=An g
    go_wp2_with fail
    have A:=Ac (b:=w.heap.size) z (Nat.le_refl _) (.int .i64 k) (.int .i64 m) (.string x) (.int .i64 0)
    obtain ⟨h,i,j,l,_⟩:=An (Aj g (.int .i64 k) (.int .i64 m) (.string x) (.int .i64 0))
    simp only [AY] at h i j l
    refine bodyPost_ret (Ah Tryz.results27 rfl h i j l) rfl ⟨?_,A⟩
    rw [Aa v,Aa y]
    rfl
  ·have u:=Ab t
   have p:=Ab hl
   clear t hl
   have v:=Ab (show AT (Ad r)=AM (Ad r) by rw [ES h0];rw [Aa p,if_pos rfl])
   go_enter Tryz.func27,Tryz.ntmps27
   go_wp2_with (first | (go_at_call 38;refine (AW _ _).mono ?_;rintro e w' ⟨rfl,a⟩;rw [Aa u,a];clear a) | (go_at_call 40;refine (AJ _ _).mono ?_;rintro e w' ⟨rfl,a⟩;rw [Aa p,a];clear a))
   clear B
   refine (GG r _ hs C).mono ?_
   rintro e E ⟨rfl,c⟩
   obtain ⟨k,m,x,n,F,d⟩:=DU aS aB aT (AM (Ad r))
   rw [d]
   have y:=Ab d
   clear d
   have g:=o.after c (Nat.le_refl _)
   have z:=f.trans (c.mono f.size)
   clear c q d1 d2 d3 s o f
   obtain ⟨q,d1,d2,d3,s⟩:=An g
   go_wp2_with fail
   have A:=Ac (b:=w.heap.size) z (Nat.le_refl _) (.int .i64 k) (.int .i64 m) (.string x) (.int .i64 0)
   obtain ⟨h,i,j,l,_⟩:=An (Aj g (.int .i64 k) (.int .i64 m) (.string x) (.int .i64 0))
   simp only [AY] at h i j l
   refine bodyPost_ret (Ah Tryz.results27 rfl h i j l) rfl ⟨?_,A⟩
   rw [Aa v,Aa y]
   rfl
 ·have p:=Ab (show DO (r[0].toNat:Int)=false by
   rw [dgI,decide_eq_true_eq] at t
   rw [DO,decide_eq_false_iff_not];omega)
  have I: 1≤Ap AU (Ad r):=by rw [Ir h0];exact CN t
  have u:=Ab t
  clear t
  have v:=Ab (show AT (Ad r)=AL (Ad r) by rw [ES h0];rw [Aa p,Aa u,if_neg (by decide),if_pos rfl])
  go_enter Tryz.func27,Tryz.ntmps27
  go_wp2_with (first | (go_at_call 38;refine (AW _ _).mono ?_;rintro e w' ⟨rfl,a⟩;rw [Aa u,a];clear a) | (go_at_call 40;refine (AJ _ _).mono ?_;rintro e w' ⟨rfl,a⟩;rw [Aa p,a];clear a))
  clear B
  refine (FA r _ hs I C).mono ?_
  rintro e E ⟨rfl,c⟩
  obtain ⟨k,m,x,n,F,d⟩:=DU aS aB aT (AL (Ad r))
  rw [d]
  have y:=Ab d
  clear d
  have g:=o.after c (Nat.le_refl _)
  have z:=f.trans (c.mono f.size)
  clear c q d1 d2 d3 s o f
  obtain ⟨q,d1,d2,d3,s⟩:=An g
  go_wp2_with fail
  have A:=Ac (b:=w.heap.size) z (Nat.le_refl _) (.int .i64 k) (.int .i64 m) (.string x) (.int .i64 0)
  obtain ⟨h,i,j,l,_⟩:=An (Aj g (.int .i64 k) (.int .i64 m) (.string x) (.int .i64 0))
  simp only [AY] at h i j l
  refine bodyPost_ret (Ah Tryz.results27 rfl h i j l) rfl ⟨?_,A⟩
  rw [Aa v,Aa y]
  rfl
end Go.Proofs.YtcpdodmoheebaaaGreatDoor

/-
  VPI, PickW, Calc4, Calc5, JU. Own work.
-/
import Derived.Test.YtedlocniojlhfaaGreatDoorMXAE
import Derived.Test.YtedlocniojlhfaaGreatDoorMXAB
import Derived.Test.YtedlocniojlhfaaGreatDoorMXAL
import Derived.Test.YtedlocniojlhfaaGreatDoorMXAA
import Derived.Deep.RegionHeld3
namespace Go.Proofs.YtedlocniojlhfaaGreatDoor
open Go.RowKit
set_option linter.unusedVariables false

def treesV (S:List (Nat × Nat)):List Value:=S.flatMap fun p=>[.int .i64 p.1,.int .i64 p.2]

theorem treesV_at:∀ (S:List (Nat × Nat)) (i:Nat) (h:i<S.length),(treesV S)[i*2]?=some (.int .i64 (S[i].1:Int))∧(treesV S)[i*2+1]?=some (.int .i64 (S[i].2:Int))
 | [],i,h=>absurd h (by simp)
 | p::S,0,h=>⟨rfl,rfl⟩
 | p::S,i+1,h=>by
  have ih:=treesV_at S i (by simpa using h)
  have e:treesV (p::S)=.int .i64 p.1::.int .i64 p.2::treesV S:=rfl
  rw [e,show (i+1)*2=i*2+1+1 by omega,List.getElem?_cons_succ,List.getElem?_cons_succ,show i*2+1+1+1=(i*2+1)+1+1 by omega,List.getElem?_cons_succ,List.getElem?_cons_succ]
  simpa using ih

theorem dep_snoc (l:List (Nat × Nat)) (p:Nat × Nat):dep (l++[p])=max (dep l) p.2:=by
 induction l with
 | nil=>simp [dep]
 | cons q l ih=>rw [List.cons_append,dep,dep,ih];omega

theorem runT_succ {K:List (List Int)} {k:Nat} {S:List (Nat × Nat)} {ks:List Int} (h:runT K k [] 0=some S) (hk:K[k]?=some ks):runT K (k+1) [] 0=stepT S k ks:=by
 rw [runT_add K k 1 [] 0,h]
 show runT K 1 S (0+k)=_
 rw [Nat.zero_add,runT,hk]
 dsimp only
 cases stepT S k ks <;> rfl

theorem runT_none {K:List (List Int)} {k n:Nat} (hk:k≤n) (h:runT K k [] 0=none):runT K n [] 0=none:=by
 have e:n=k+(n - k):=by omega
 rw [e,runT_add K k (n - k) [] 0,h]
 rfl

theorem stepT_short {S:List (Nat × Nat)} {i:Nat} {ks:List Int} (h:S.length<ks.length):stepT S i ks=none:=by rw [stepT,if_pos h]

theorem stepT_miss {S:List (Nat × Nat)} {i f j:Nat} {ks:List Int} (hf:f+ks.length=S.length) (hj:j<ks.length) (hS:f+j<S.length) (h:(S[f+j].1:Int)≠ks[j]):stepT S i ks=none:=by
 have ef:S.length - ks.length=f:=by omega
 rw [stepT,if_neg (by omega),if_pos]
 rw [ef]
 intro e
 apply h
 have h1:(topsI (S.drop f))[j]?=some ks[j]:=by rw [e];exact List.getElem?_eq_getElem hj
 rw [topsI,List.getElem?_map,List.getElem?_drop,List.getElem?_eq_getElem hS] at h1
 simpa using h1

theorem stepT_deep {S:List (Nat × Nat)} {i f:Nat} {ks:List Int} (hf:f+ks.length=S.length) (hd:dep (S.drop f)=64):stepT S i ks=none:=by
 have ef:S.length - ks.length=f:=by omega
 rw [stepT,if_neg (by omega),ef]
 by_cases h:topsI (S.drop f)≠ks
 ·rw [if_pos h]
 ·rw [if_neg h,if_pos hd]

theorem stepT_ok {S:List (Nat × Nat)} {i f:Nat} {ks:List Int} (hf:f+ks.length=S.length) (ht:topsI (S.drop f)=ks) (hd:dep (S.drop f)≠64):stepT S i ks=some (S.take f++[(i,dep (S.drop f)+1)]):=by
 have ef:S.length - ks.length=f:=by omega
 rw [stepT,if_neg (by omega),ef,if_neg (by simp [ht]),if_neg hd]

def sofar (S:List (Nat × Nat)) (f:Nat) (ks:List Int) (j:Nat):Prop:=topsI ((S.drop f).take j)=ks.take j

theorem sofar_zero (S:List (Nat × Nat)) (f:Nat) (ks:List Int):sofar S f ks 0:=by simp [sofar,topsI]

theorem drop_take_succ (S:List (Nat × Nat)) (f j:Nat) (h:f+j<S.length):(S.drop f).take (j+1)=(S.drop f).take j++[S[f+j]]:=by
 have hl:j<(S.drop f).length:=by rw [List.length_drop];omega
 rw [List.take_succ_eq_append_getElem hl,List.getElem_drop]

theorem sofar_succ {S:List (Nat × Nat)} {f j:Nat} {ks:List Int} (hj:j<ks.length) (hS:f+j<S.length) (h:sofar S f ks j) (e:(S[f+j].1:Int)=ks[j]):sofar S f ks (j+1):=by
 rw [sofar,drop_take_succ S f j hS,List.take_succ_eq_append_getElem hj,← e]
 rw [sofar] at h
 rw [← h]
 simp [topsI]

theorem sofar_all {S:List (Nat × Nat)} {f:Nat} {ks:List Int} (hf:f+ks.length=S.length) (h:sofar S f ks ks.length):topsI (S.drop f)=ks:=by
 rw [sofar,List.take_of_length_le (by rw [List.length_drop];omega),List.take_of_length_le nl] at h
 exact h

theorem ownsRow_short {w:World} {base:Nat} {e:TypeId} {size:Nat} {x:Option Addr} {n m c:Nat} {xs:List Value} (h:w.ownsRow base e size (.slice x n c) n xs) (hm:m≤n):w.ownsRow base e size (.slice x m c) m (xs.take (m*size)):=by
 have hl:m*size≤n*size:=Nat.mul_le_mul_right _ hm
 refine ⟨by rw [List.length_take,h.1];omega,?_⟩
 rcases h.2 with ⟨hv,hn⟩ | ⟨g,cap,cur,hv,h1,h2,h3,h4,h5,h6⟩
 ·cases hv
  exact .inl ⟨by rw [show m=0 by omega],by omega⟩
 ·cases hv
  refine .inr ⟨g,c,cur,rfl,h1,h2,by omega,h4,h5,?_⟩
  rw [← h6,List.take_take]
  congr 1
  omega

theorem ownsRow_below {w w':World} {base:Nat} {e:TypeId} {size:Nat} {v:Value} {n B:Nat} {xs:List Value} (h:w.ownsRow base e size v n xs) (hb:Below B w w') (hB:w.heap.size≤B):w'.ownsRow base e size v n xs:=by
 refine ⟨h.1,?_⟩
 rcases h.2 with hn | ⟨g,cap,cur,hv,h1,h2,h3⟩
 ·exact .inl hn
 ·exact .inr ⟨g,cap,cur,hv,h1,(hb.block g (Nat.lt_of_lt_of_le (Array.getElem?_eq_some_iff.1 h2).1 hB)).trans h2,h3⟩

theorem owns_form2 {w:World} {base e size n:Nat} {v:Value} {xs:List Value} (h:w.ownsRow base e size v n xs):∃ x c,v=.slice x n c∧(0<n→∃ g,x=some ⟨g,0,none⟩∧base≤g∧∀ j u,xs[j]?=some u→w.cell? ⟨g,j,none⟩=some u):=by
 rcases h.2 with ⟨rfl,rfl⟩ | ⟨g,cap,cur,rfl,hb,_⟩
 ·exact ⟨_,_,rfl,fun h=>absurd h (by omega)⟩
 ·refine ⟨_,_,rfl,fun _=>⟨g,rfl,hb,fun j u hu=>?_⟩⟩
  have:=h.cells (g:=g) rfl j u hu
  have hadd:(⟨g,0,none⟩:Addr).add j=⟨g,j,none⟩:=by unfold Addr.add;split <;> simp_all
  rwa [hadd] at this

end Go.Proofs.YtedlocniojlhfaaGreatDoor

namespace Go.Proofs.YtedlocniojlhfaaGreatDoor
set_option maxHeartbeats 1600000
open Go.RowKit

theorem l1has_any (a:Option Addr) (n c:Nat) (ss:List ByteArray) (s:ByteArray) (w:World) (h:Strs w a n c ss) :
  Calls Tryz.prog 106 #[.slice a n c,.string s] w fun e w'=>e=.returned (.bool (hasB ss s))∧w'=w:=by
 have hn:n≤9223372036854775807:=by have:=h.cap;have:=h.small;unfold maxLen at this;omega
 go_enter Tryz.func106,Tryz.ntmps106
 go_wp2
 go_loop [6,9] (fun _ i=>∃ k:Nat,k≤n∧i=.int .i64 k∧∀ j,j<k→eqS (nth ss j) s=false) (fun _ i=>n - (intOf i).toNat)
 case atStart=>exact ⟨0,Nat.zero_le _,rfl,fun j hj=>by omega⟩
 case round =>
  obtain ⟨k,hk,rfl,ha⟩:=hrel
  have Ha:=hide ha
  clear ha
  by_cases hlt:k<n
  ·obtain ⟨b,off,ha',_,hc⟩:=h.cells k hlt
   subst ha'
   cases hv:((nth ss k).toList == s.toList)
   ·go_wp2
    go_round
    case rel =>
     refine ⟨k+1,by omega,by go_num,fun j hj=>?_⟩
     by_cases e:j=k
     ·subst e;exact hv
     ·exact uh Ha j (by omega)
    case measure=>simp [intOf];omega
   ·have Hf:=hide (hasB_at ss s k (by have:=h.len;omega) hv)
    go_wp2
    go_ret
    exact ⟨ret_bool (uh Hf).symm,rfl⟩
  ·go_wp2
   go_ret
   exact ⟨ret_bool (hasB_none ss s fun j hj=>uh Ha j (by have:=h.len;omega)).symm,rfl⟩

theorem l1pick_any (a:Option Addr) (n c:Nat) (ss:List ByteArray) (a':Option Addr) (n' c':Nat) (tt:List ByteArray) (q:Bool) (w:World) (h:Strs w a n c ss) (h':Strs w a' n' c' tt) (hsm:n≤1048576) :
  Calls Tryz.prog 125 #[.slice a n c,.slice a' n' c',.bool q] w fun e w'=>∃ x cx,e=.returned (.slice x (pick ss tt q).length cx)∧w'.ownsRow w.heap.size 9 1 (.slice x (pick ss tt q).length cx) (pick ss tt q).length ((pick ss tt q).map Value.string)∧Below w.heap.size w w':=by
 obtain ⟨i,hi,hz0,hz1,hz2⟩:=info_parts infoS
 have Hl:=hide h.len
 go_enter Tryz.func125,Tryz.ntmps125
 go_wp2
 go_loopw [7,9,12] (fun v _ i wr=>∃ k:Nat,k≤n∧i=.int .i64 k∧wr.ownsRow w.heap.size 9 1 v (pick (ss.take k) tt q).length ((pick (ss.take k) tt q).map Value.string)∧Below w.heap.size w wr) (fun _ _ i _=>n - (intOf i).toNat)
 case atStart=>exact ⟨0,Nat.zero_le _,rfl,World.ownsRow_nil _ _ _ _,Below.refl _ _⟩
 case round =>
  obtain ⟨k,hk,rfl,hown,hb⟩:=hrel
  by_cases hlt:k<n
  ·obtain ⟨b,off,ha',hbl,hc⟩:=(h.below hb nl).cells k hlt
   have g':=h'.below hb nl
   subst ha'
   have hkl:k<ss.length:=by have:=uh Hl;omega
   have hpl:(pick (ss.take k) tt q).length≤k:=Nat.le_trans (pick_len _ _ _) (List.length_take_le _ _)
   generalize hP:pick (ss.take k) tt q=P at *
   have HP:=hide hP
   clear hP
   cases hv:(hasB tt (nth ss k) == q)
   ·have Hn:=hide (pick_no ss tt q k hkl hv)
    go_wp2_with (go_at_call 106;refine (l1has_any _ _ _ _ _ _ g').mono ?_;rintro e w' ⟨rfl,rfl⟩)
    go_roundw
    case rel=>exact ⟨k+1,by omega,by go_num,by rw [uh Hn,uh HP];exact hown,hb⟩
    case measure=>simp [intOf];omega
   ·have Hn:=hide (pick_yes ss tt q k hkl hv)
    have hbs:=hb.size
    go_wp2_with (first
     | (go_at_call 106;refine (l1has_any _ _ _ _ _ _ g').mono ?_;rintro e w2 ⟨rfl,hw2⟩;rw [hw2];clear hw2)
     | (at_builtin;refine wpList_append_own _ rfl _ _ 27 rfl w.heap.size 9 i (.string ByteArray.empty) 1 16 Tryz.underlying27 hi hz0 hz1 hz2 rfl (by decide) _ _ _ rfl (hown.alloc _) ⟨wr.heap.size,0,none⟩ 1 1 [.string (nth ss k)] rfl rfl ?c1 ?c2 ?c3 ?c4 ?c5 ?_))
    case c1=>exact cell_one_new _ _ _
    case c2=>intro u hu;simp at hu;subst hu;rfl
    case c3=>unfold maxLen;omega
    case c4=>omega
    case c5=>simp;omega
    intro v' w1 hown' hgrow _
    have hb1:Below w.heap.size w w1:=(hb.alloc hbs _).grown hgrow (by simp;omega) (fun k hk=>(hown.lt k hk).1)
    clear hgrow hown
    go_wp2
    go_roundw
    case rel=>exact ⟨k+1,by omega,by go_num,by rw [uh Hn,uh HP,List.map_append,List.length_append];exact hown',hb1⟩
    case measure=>simp [intOf];omega
  ·have e:k=n:=by omega
   subst e
   go_wp2
   go_ret
   have e1:ss.take k=ss:=List.take_of_length_le (by have:=uh Hl;omega)
   rw [e1] at hown
   obtain ⟨x,cx,hf⟩:=owns_form hown
   subst hf
   exact ⟨x,cx,rfl,hown,hb⟩

end Go.Proofs.YtedlocniojlhfaaGreatDoor

namespace Go.Proofs.YtedlocniojlhfaaGreatDoor
set_option maxHeartbeats 1600000
open Go.RowKit

theorem big_of (a:Int):bigI (decide (a<0)) 0 (a.natAbs:Int)=a:=by
 by_cases h:a<0
 ·simp [bigI,h];omega
 ·simp [bigI,h];omega

theorem big_not (n:Bool) (x:Int):bigI (!n) 0 x=-bigI n 0 x:=by cases n <;> simp [bigI]

theorem ret_pairs {p q:Int × Int} (h:p=q):Ending.returned (.tuple #[.int .i64 p.1,.int .i64 p.2])=.returned (.tuple #[.int .i64 q.1,.int .i64 q.2]):=by rw [h]
theorem ret_pairs' {x c:Int} {q:Int × Int} (h:q=(x,c)):Ending.returned (.tuple #[.int .i64 x,.int .i64 c])=.returned (.tuple #[.int .i64 q.1,.int .i64 q.2]):=by rw [h]

theorem mul_sign (a b hi lo:Int) (h:hi*18446744073709551616+lo=(a.natAbs:Int)*(b.natAbs:Int)):bigI (!(decide (a<0) == decide (b<0))) hi lo=a*b:=by
 by_cases h1:a<0 <;> by_cases h2:b<0
 ·have e1:(a.natAbs:Int)=-a:=by omega
  have e2:(b.natAbs:Int)=-b:=by omega
  rw [e1,e2,Int.neg_mul_neg] at h
  simp [bigI,h1,h2,h]
 ·have e1:(a.natAbs:Int)=-a:=by omega
  have e2:(b.natAbs:Int)=b:=by omega
  rw [e1,e2,Int.neg_mul] at h
  simp [bigI,h1,h2,h]
 ·have e1:(a.natAbs:Int)=a:=by omega
  have e2:(b.natAbs:Int)=-b:=by omega
  rw [e1,e2,Int.mul_neg] at h
  simp [bigI,h1,h2,h]
 ·have e1:(a.natAbs:Int)=a:=by omega
  have e2:(b.natAbs:Int)=b:=by omega
  rw [e1,e2] at h
  simp [bigI,h1,h2,h]

theorem div_sign (a b:Int):bigI (!(decide (a<0) == decide (b<0))) 0 ((a.natAbs:Int) / (b.natAbs:Int))=a.tdiv b:=by
 by_cases h1:a<0 <;> by_cases h2:b<0
 ·have e1:(a.natAbs:Int)=-a:=by omega
  have e2:(b.natAbs:Int)=-b:=by omega
  have:a.tdiv b=(-a).tdiv (-b):=by rw [Int.neg_tdiv,Int.tdiv_neg,Int.neg_neg]
  rw [this,Int.tdiv_eq_ediv_of_nonneg (by omega)]
  simp [bigI,h1,h2,e1,e2]
 ·have e1:(a.natAbs:Int)=-a:=by omega
  have e2:(b.natAbs:Int)=b:=by omega
  have:a.tdiv b=-((-a).tdiv b):=by rw [Int.neg_tdiv,Int.neg_neg]
  rw [this,Int.tdiv_eq_ediv_of_nonneg (by omega)]
  simp [bigI,h1,h2,e1,e2]
 ·have e1:(a.natAbs:Int)=a:=by omega
  have e2:(b.natAbs:Int)=-b:=by omega
  have:a.tdiv b=-(a.tdiv (-b)):=by rw [Int.tdiv_neg,Int.neg_neg]
  rw [this,Int.tdiv_eq_ediv_of_nonneg (by omega)]
  simp [bigI,h1,h2,e1,e2]
 ·have e1:(a.natAbs:Int)=a:=by omega
  have e2:(b.natAbs:Int)=b:=by omega
  rw [Int.tdiv_eq_ediv_of_nonneg (by omega)]
  simp [bigI,h1,h2,e1,e2]

theorem mod_sign (a b:Int):bigI (decide (a<0)) 0 ((a.natAbs:Int) % (b.natAbs:Int))=a.tmod b:=by
 have hb:∀ x:Int,x.tmod b=x.tmod (b.natAbs:Int):=fun x=>by
  by_cases h2:b<0
  ·have e2:(b.natAbs:Int)=-b:=by omega
   rw [e2,Int.tmod_neg]
  ·have e2:(b.natAbs:Int)=b:=by omega
   rw [e2]
 rw [hb]
 by_cases h1:a<0
 ·have e1:(a.natAbs:Int)=-a:=by omega
  have:a.tmod (b.natAbs:Int)=-((-a).tmod (b.natAbs:Int)):=by rw [Int.neg_tmod,Int.neg_neg]
  rw [this,Int.tmod_eq_emod_of_nonneg (by omega)]
  simp [bigI,h1,e1]
 ·have e1:(a.natAbs:Int)=a:=by omega
  rw [Int.tmod_eq_emod_of_nonneg (by omega)]
  simp [bigI,h1,e1]

variable {a b:Int} {w:World}

theorem sCalc_1 (ha:I64 a) (hb:I64 b) :
  Calls Tryz.prog 100 #[.int .i64 1,.int .i64 a,.int .i64 b] w fun e w'=>e=.returned (.tuple #[.int .i64 (calcF 1 a b).1,.int .i64 (calcF 1 a b).2])∧Below w.heap.size w w':=by
 have hx:(a.natAbs:Int)≤9223372036854775808:=by have:=ha.lo;have:=ha.hi;omega
 have hy:(b.natAbs:Int)≤9223372036854775808:=by have:=hb.lo;have:=hb.hi;omega
 go_enter Tryz.func100,Tryz.ntmps100
 go_wp2_with fail
 refine (l1bigOf_any a w ha).mono ?_
 rintro e w1 ⟨rfl,hb1⟩
 have B1:=hb1.alloc hb1.size (.cells #[.bool (decide (a<0)),.int .u64 0,.int .u64 (a.natAbs:Int)] 222)
 have R1:=Row.new w1 #[.bool (decide (a<0)),.int .u64 0,.int .u64 (a.natAbs:Int)] 222
 go_wp2_with fail
 refine (l1bigOf_any b _ hb).mono ?_
 rintro e w2 ⟨rfl,hb2⟩
 have B2:=(B1.trans (hb2.mono B1.size)).alloc (Nat.le_trans B1.size hb2.size) (.cells #[.bool (decide (b<0)),.int .u64 0,.int .u64 (b.natAbs:Int)] 222)
 have R1':=(R1.after hb2 nl).alloc (.cells #[.bool (decide (b<0)),.int .u64 0,.int .u64 (b.natAbs:Int)] 222)
 have R2:=Row.new w2 #[.bool (decide (b<0)),.int .u64 0,.int .u64 (b.natAbs:Int)] 222
 have z2:=hb2.size
 simp only [World.size_alloc] at z2
 have hlt:w1.heap.size<w2.heap.size:=by omega
 clear R1 B1 hb1 hb2 z2
 have c0:=R1'.cell 0
 have c1:=R1'.cell 1
 have c2:=R1'.cell 2
 simp at c0 c1 c2
 go_wp2_with fail
 refine (l1sum_any _ _ _ _ _ (by omega) hx (by omega) hy).mono ?_
 rintro e w3 ⟨v,rfl,hv,hb3⟩
 obtain ⟨q,hi,lo,rfl,q1,q2,q3,q4,hq⟩:=hv
 have B3:=B2.trans (hb3.mono B2.size)
 rw [big_of,big_of] at hq
 have Hq:=hide hq
 clear hq c0 c1 c2 R1' R2 B2 hb3 hlt
 go_wp2_with fail
 refine (l1small_any q hi lo _ q1 q2 q3 q4).mono ?_
 rintro e w4 ⟨rfl,hb4⟩
 rw [uh Hq]
 generalize hf:fit (a+b)=f
 have Hf:=hide hf
 clear hf
 go_wp2
 go_ret2
 exact ⟨ret_pairs (by rw [← uh Hf];rfl),B3.trans (hb4.mono B3.size)⟩

theorem sCalc_2 (ha:I64 a) (hb:I64 b) :
  Calls Tryz.prog 100 #[.int .i64 2,.int .i64 a,.int .i64 b] w fun e w'=>e=.returned (.tuple #[.int .i64 (calcF 2 a b).1,.int .i64 (calcF 2 a b).2])∧Below w.heap.size w w':=by
 have hx:(a.natAbs:Int)≤9223372036854775808:=by have:=ha.lo;have:=ha.hi;omega
 have hy:(b.natAbs:Int)≤9223372036854775808:=by have:=hb.lo;have:=hb.hi;omega
 go_enter Tryz.func100,Tryz.ntmps100
 go_wp2_with fail
 refine (l1bigOf_any a w ha).mono ?_
 rintro e w1 ⟨rfl,hb1⟩
 have B1:=hb1.alloc hb1.size (.cells #[.bool (decide (a<0)),.int .u64 0,.int .u64 (a.natAbs:Int)] 222)
 have R1:=Row.new w1 #[.bool (decide (a<0)),.int .u64 0,.int .u64 (a.natAbs:Int)] 222
 go_wp2_with fail
 refine (l1bigOf_any b _ hb).mono ?_
 rintro e w2 ⟨rfl,hb2⟩
 have B2:=(B1.trans (hb2.mono B1.size)).alloc (Nat.le_trans B1.size hb2.size) (.cells #[.bool (!decide (b<0)),.int .u64 0,.int .u64 (b.natAbs:Int)] 222)
 have R1':=(R1.after hb2 nl).alloc (.cells #[.bool (!decide (b<0)),.int .u64 0,.int .u64 (b.natAbs:Int)] 222)
 have z2:=hb2.size
 simp only [World.size_alloc] at z2
 have hlt:w1.heap.size<w2.heap.size:=by omega
 clear R1 B1 hb1 hb2 z2
 have c0:=R1'.cell 0
 have c1:=R1'.cell 1
 have c2:=R1'.cell 2
 simp at c0 c1 c2
 go_wp2_with fail
 refine (l1sum_any _ _ _ _ _ (by omega) hx (by omega) hy).mono ?_
 rintro e w3 ⟨v,rfl,hv,hb3⟩
 obtain ⟨q,hi,lo,rfl,q1,q2,q3,q4,hq⟩:=hv
 have B3:=B2.trans (hb3.mono B2.size)
 rw [big_not,big_of,big_of] at hq
 have Hq:=hide hq
 clear hq c0 c1 c2 R1' B2 hb3 hlt
 go_wp2_with fail
 refine (l1small_any q hi lo _ q1 q2 q3 q4).mono ?_
 rintro e w4 ⟨rfl,hb4⟩
 rw [uh Hq]
 generalize hf:fit (a+-b)=f
 have Hf:=hide hf
 clear hf
 go_wp2
 go_ret2
 exact ⟨ret_pairs (by rw [← uh Hf,← Int.sub_eq_add_neg];rfl),B3.trans (hb4.mono B3.size)⟩

theorem sCalc_3 (ha:I64 a) (hb:I64 b) :
  Calls Tryz.prog 100 #[.int .i64 3,.int .i64 a,.int .i64 b] w fun e w'=>e=.returned (.tuple #[.int .i64 (calcF 3 a b).1,.int .i64 (calcF 3 a b).2])∧Below w.heap.size w w':=by
 have hx:(a.natAbs:Int)≤9223372036854775808:=by have:=ha.lo;have:=ha.hi;omega
 have hy:(b.natAbs:Int)≤9223372036854775808:=by have:=hb.lo;have:=hb.hi;omega
 go_enter Tryz.func100,Tryz.ntmps100
 go_wp2_with fail
 refine (l1bigOf_any a w ha).mono ?_
 rintro e w1 ⟨rfl,hb1⟩
 have B1:=hb1.alloc hb1.size (.cells #[.bool (decide (a<0)),.int .u64 0,.int .u64 (a.natAbs:Int)] 222)
 have R1:=Row.new w1 #[.bool (decide (a<0)),.int .u64 0,.int .u64 (a.natAbs:Int)] 222
 go_wp2_with fail
 refine (l1bigOf_any b _ hb).mono ?_
 rintro e w2 ⟨rfl,hb2⟩
 have B2:=(B1.trans (hb2.mono B1.size)).alloc (Nat.le_trans B1.size hb2.size) (.cells #[.bool (decide (b<0)),.int .u64 0,.int .u64 (b.natAbs:Int)] 222)
 have R1':=(R1.after hb2 nl).alloc (.cells #[.bool (decide (b<0)),.int .u64 0,.int .u64 (b.natAbs:Int)] 222)
 have R2:=Row.new w2 #[.bool (decide (b<0)),.int .u64 0,.int .u64 (b.natAbs:Int)] 222
 have z2:=hb2.size
 simp only [World.size_alloc] at z2
 have hlt:w1.heap.size<w2.heap.size:=by omega
 clear R1 B1 hb1 hb2 z2
 have c0:=R1'.cell 0
 have c1:=R1'.cell 1
 have c2:=R1'.cell 2
 simp at c0 c1 c2
 go_wp2_with fail
 refine (l1times_any _ _ _ ⟨by omega,hx⟩ ⟨by omega,hy⟩).mono ?_
 rintro e w3 ⟨⟨hi,lo,rfl,q1,q2,q3,q4,hq⟩,rfl⟩
 have Hq:=hide (mul_sign a b hi lo hq)
 clear hq
 go_wp2_with fail
 refine (l1small_any _ hi lo _ q1 q2 q3 q4).mono ?_
 rintro e w4 ⟨rfl,hb4⟩
 rw [uh Hq]
 generalize hf:fit (a*b)=f
 have Hf:=hide hf
 clear hf
 go_wp2
 go_ret2
 exact ⟨ret_pairs (by rw [← uh Hf];rfl),B2.trans (hb4.mono B2.size)⟩

end Go.Proofs.YtedlocniojlhfaaGreatDoor

namespace Go.Proofs.YtedlocniojlhfaaGreatDoor
set_option maxHeartbeats 1600000
open Go.RowKit
variable {a b:Int} {w:World}

theorem sCalc_0 (ha:I64 a) (hb:I64 b) (op:Int) (h1:op≠1) (h2:op≠2) (h3:op≠3) (h4:op≠4) (h5:op≠5) :
  Calls Tryz.prog 100 #[.int .i64 op,.int .i64 a,.int .i64 b] w fun e w'=>e=.returned (.tuple #[.int .i64 (calcF op a b).1,.int .i64 (calcF op a b).2])∧Below w.heap.size w w':=by
 have hx:(a.natAbs:Int)≤9223372036854775808:=by have:=ha.lo;have:=ha.hi;omega
 have hy:(b.natAbs:Int)≤9223372036854775808:=by have:=hb.lo;have:=hb.hi;omega
 have e1:(op == 1)=false:=beq_eq_false_iff_ne.2 h1
 have e2:(op == 2)=false:=beq_eq_false_iff_ne.2 h2
 have e3:(op == 3)=false:=beq_eq_false_iff_ne.2 h3
 have e4:(op == 4)=false:=beq_eq_false_iff_ne.2 h4
 have e5:(op == 5)=false:=beq_eq_false_iff_ne.2 h5
 have Hf:=hide (show calcF op a b=(0,4) by rw [calcF,if_neg h1,if_neg h2,if_neg h3,if_neg h4,if_neg h5])
 clear h1 h2 h3 h4 h5
 go_enter Tryz.func100,Tryz.ntmps100
 go_wp2_with fail
 refine (l1bigOf_any a w ha).mono ?_
 rintro e w1 ⟨rfl,hb1⟩
 have B1:=hb1.alloc hb1.size (.cells #[.bool (decide (a<0)),.int .u64 0,.int .u64 (a.natAbs:Int)] 222)
 have R1:=Row.new w1 #[.bool (decide (a<0)),.int .u64 0,.int .u64 (a.natAbs:Int)] 222
 go_wp2_with fail
 refine (l1bigOf_any b _ hb).mono ?_
 rintro e w2 ⟨rfl,hb2⟩
 have B2:=(B1.trans (hb2.mono B1.size)).alloc (Nat.le_trans B1.size hb2.size) (.cells #[.bool (decide (b<0)),.int .u64 0,.int .u64 (b.natAbs:Int)] 222)
 have R1':=(R1.after hb2 nl).alloc (.cells #[.bool (decide (b<0)),.int .u64 0,.int .u64 (b.natAbs:Int)] 222)
 have R2:=Row.new w2 #[.bool (decide (b<0)),.int .u64 0,.int .u64 (b.natAbs:Int)] 222
 have z2:=hb2.size
 simp only [World.size_alloc] at z2
 have hlt:w1.heap.size<w2.heap.size:=by omega
 clear R1 B1 hb1 hb2 z2
 have c0:=R1'.cell 0
 have c1:=R1'.cell 1
 have c2:=R1'.cell 2
 simp at c0 c1 c2
 go_wp2
 go_ret2
 exact ⟨ret_pairs' (uh Hf),B2⟩

theorem sCalc_40 (ha:I64 a) (hb:I64 b) (h0:b=0) :
  Calls Tryz.prog 100 #[.int .i64 4,.int .i64 a,.int .i64 b] w fun e w'=>e=.returned (.tuple #[.int .i64 (calcF 4 a b).1,.int .i64 (calcF 4 a b).2])∧Below w.heap.size w w':=by
 have hx:(a.natAbs:Int)≤9223372036854775808:=by have:=ha.lo;have:=ha.hi;omega
 have hy:(b.natAbs:Int)≤9223372036854775808:=by have:=hb.lo;have:=hb.hi;omega
 have Hf:=hide (show calcF 4 a b=(0,2) by subst h0;rfl)
 have e0:(b == 0)=true:=beq_iff_eq.2 h0
 clear h0
 go_enter Tryz.func100,Tryz.ntmps100
 go_wp2_with fail
 refine (l1bigOf_any a w ha).mono ?_
 rintro e w1 ⟨rfl,hb1⟩
 have B1:=hb1.alloc hb1.size (.cells #[.bool (decide (a<0)),.int .u64 0,.int .u64 (a.natAbs:Int)] 222)
 have R1:=Row.new w1 #[.bool (decide (a<0)),.int .u64 0,.int .u64 (a.natAbs:Int)] 222
 go_wp2_with fail
 refine (l1bigOf_any b _ hb).mono ?_
 rintro e w2 ⟨rfl,hb2⟩
 have B2:=(B1.trans (hb2.mono B1.size)).alloc (Nat.le_trans B1.size hb2.size) (.cells #[.bool (decide (b<0)),.int .u64 0,.int .u64 (b.natAbs:Int)] 222)
 have R1':=(R1.after hb2 nl).alloc (.cells #[.bool (decide (b<0)),.int .u64 0,.int .u64 (b.natAbs:Int)] 222)
 have R2:=Row.new w2 #[.bool (decide (b<0)),.int .u64 0,.int .u64 (b.natAbs:Int)] 222
 have z2:=hb2.size
 simp only [World.size_alloc] at z2
 have hlt:w1.heap.size<w2.heap.size:=by omega
 clear R1 B1 hb1 hb2 z2
 have c0:=R1'.cell 0
 have c1:=R1'.cell 1
 have c2:=R1'.cell 2
 simp at c0 c1 c2
 go_wp2
 go_ret2
 exact ⟨ret_pairs' (uh Hf),B2⟩

theorem sCalc_50 (ha:I64 a) (hb:I64 b) (h0:b=0) :
  Calls Tryz.prog 100 #[.int .i64 5,.int .i64 a,.int .i64 b] w fun e w'=>e=.returned (.tuple #[.int .i64 (calcF 5 a b).1,.int .i64 (calcF 5 a b).2])∧Below w.heap.size w w':=by
 have hx:(a.natAbs:Int)≤9223372036854775808:=by have:=ha.lo;have:=ha.hi;omega
 have hy:(b.natAbs:Int)≤9223372036854775808:=by have:=hb.lo;have:=hb.hi;omega
 have Hf:=hide (show calcF 5 a b=(0,2) by subst h0;rfl)
 have e0:(b == 0)=true:=beq_iff_eq.2 h0
 clear h0
 go_enter Tryz.func100,Tryz.ntmps100
 go_wp2_with fail
 refine (l1bigOf_any a w ha).mono ?_
 rintro e w1 ⟨rfl,hb1⟩
 have B1:=hb1.alloc hb1.size (.cells #[.bool (decide (a<0)),.int .u64 0,.int .u64 (a.natAbs:Int)] 222)
 have R1:=Row.new w1 #[.bool (decide (a<0)),.int .u64 0,.int .u64 (a.natAbs:Int)] 222
 go_wp2_with fail
 refine (l1bigOf_any b _ hb).mono ?_
 rintro e w2 ⟨rfl,hb2⟩
 have B2:=(B1.trans (hb2.mono B1.size)).alloc (Nat.le_trans B1.size hb2.size) (.cells #[.bool (decide (b<0)),.int .u64 0,.int .u64 (b.natAbs:Int)] 222)
 have R1':=(R1.after hb2 nl).alloc (.cells #[.bool (decide (b<0)),.int .u64 0,.int .u64 (b.natAbs:Int)] 222)
 have R2:=Row.new w2 #[.bool (decide (b<0)),.int .u64 0,.int .u64 (b.natAbs:Int)] 222
 have z2:=hb2.size
 simp only [World.size_alloc] at z2
 have hlt:w1.heap.size<w2.heap.size:=by omega
 clear R1 B1 hb1 hb2 z2
 have c0:=R1'.cell 0
 have c1:=R1'.cell 1
 have c2:=R1'.cell 2
 simp at c0 c1 c2
 go_wp2
 go_ret2
 exact ⟨ret_pairs' (uh Hf),B2⟩

end Go.Proofs.YtedlocniojlhfaaGreatDoor

namespace Go.Proofs.YtedlocniojlhfaaGreatDoor
set_option maxRecDepth 100000
open Go.RowKit
set_option linter.unusedVariables false

theorem kids_int (i n:Int):∀ w,(method 406 150 (.agg #[.int .i64 i,.int .i64 n]) "loop.example/s01308/impl.kids").run Tryz.prog w=.ok (176,.int .i64 i) w:=fun _=>by kernel_rfl
theorem place_int (i n:Int):∀ w,(method 406 150 (.agg #[.int .i64 i,.int .i64 n]) "loop.example/s01308/impl.place").run Tryz.prog w=.ok (177,.int .i64 i) w:=fun _=>by kernel_rfl
theorem kids_text (i:Int) (s:ByteArray):∀ w,(method 406 153 (.agg #[.int .i64 i,.string s]) "loop.example/s01308/impl.kids").run Tryz.prog w=.ok (176,.int .i64 i) w:=fun _=>by kernel_rfl
theorem place_text (i:Int) (s:ByteArray):∀ w,(method 406 153 (.agg #[.int .i64 i,.string s]) "loop.example/s01308/impl.place").run Tryz.prog w=.ok (177,.int .i64 i) w:=fun _=>by kernel_rfl
theorem kids_bool (i:Int) (b:Bool):∀ w,(method 406 156 (.agg #[.int .i64 i,.bool b]) "loop.example/s01308/impl.kids").run Tryz.prog w=.ok (176,.int .i64 i) w:=fun _=>by kernel_rfl
theorem place_bool (i:Int) (b:Bool):∀ w,(method 406 156 (.agg #[.int .i64 i,.bool b]) "loop.example/s01308/impl.place").run Tryz.prog w=.ok (177,.int .i64 i) w:=fun _=>by kernel_rfl
theorem kids_set (i:Int) (a:Option Addr) (n c:Nat):∀ w,(method 406 158 (.agg #[.int .i64 i,.slice a n c]) "loop.example/s01308/impl.kids").run Tryz.prog w=.ok (176,.int .i64 i) w:=fun _=>by kernel_rfl
theorem place_set (i:Int) (a:Option Addr) (n c:Nat):∀ w,(method 406 158 (.agg #[.int .i64 i,.slice a n c]) "loop.example/s01308/impl.place").run Tryz.prog w=.ok (177,.int .i64 i) w:=fun _=>by kernel_rfl
theorem kids_attr (i n:Int):∀ w,(method 406 159 (.agg #[.int .i64 i,.int .i64 n]) "loop.example/s01308/impl.kids").run Tryz.prog w=.ok (176,.int .i64 i) w:=fun _=>by kernel_rfl
theorem place_attr (i n:Int):∀ w,(method 406 159 (.agg #[.int .i64 i,.int .i64 n]) "loop.example/s01308/impl.place").run Tryz.prog w=.ok (177,.int .i64 i) w:=fun _=>by kernel_rfl
theorem kids_lett (i n:Int):∀ w,(method 406 161 (.agg #[.int .i64 i,.int .i64 n]) "loop.example/s01308/impl.kids").run Tryz.prog w=.ok (176,.int .i64 i) w:=fun _=>by kernel_rfl
theorem place_lett (i n:Int):∀ w,(method 406 161 (.agg #[.int .i64 i,.int .i64 n]) "loop.example/s01308/impl.place").run Tryz.prog w=.ok (177,.int .i64 i) w:=fun _=>by kernel_rfl
theorem kids_un (i op:Int) (t:TypeId) (u:Value):∀ w,(method 406 163 (.agg #[.int .i64 i,.int .i64 op,.iface t u]) "loop.example/s01308/impl.kids").run Tryz.prog w=.ok (180,.agg #[.int .i64 i,.int .i64 op,.iface t u]) w:=fun _=>by kernel_rfl
theorem place_un (i op:Int) (t:TypeId) (u:Value):∀ w,(method 406 163 (.agg #[.int .i64 i,.int .i64 op,.iface t u]) "loop.example/s01308/impl.place").run Tryz.prog w=.ok (181,.agg #[.int .i64 i,.int .i64 op,.iface t u]) w:=fun _=>by kernel_rfl
theorem kids_bin (i op:Int) (t:TypeId) (u:Value) (t':TypeId) (u':Value):∀ w,(method 406 166 (.agg #[.int .i64 i,.int .i64 op,.iface t u,.iface t' u']) "loop.example/s01308/impl.kids").run Tryz.prog w=.ok (182,.agg #[.int .i64 i,.int .i64 op,.iface t u,.iface t' u']) w:=fun _=>by kernel_rfl
theorem place_bin (i op:Int) (t:TypeId) (u:Value) (t':TypeId) (u':Value):∀ w,(method 406 166 (.agg #[.int .i64 i,.int .i64 op,.iface t u,.iface t' u']) "loop.example/s01308/impl.place").run Tryz.prog w=.ok (183,.agg #[.int .i64 i,.int .i64 op,.iface t u,.iface t' u']) w:=fun _=>by kernel_rfl
theorem kids_ite (i:Int) (t:TypeId) (u:Value) (t':TypeId) (u':Value) (t2:TypeId) (u2:Value):∀ w,(method 406 169 (.agg #[.int .i64 i,.iface t u,.iface t' u',.iface t2 u2]) "loop.example/s01308/impl.kids").run Tryz.prog w=.ok (184,.agg #[.int .i64 i,.iface t u,.iface t' u',.iface t2 u2]) w:=fun _=>by kernel_rfl
theorem place_ite (i:Int) (t:TypeId) (u:Value) (t':TypeId) (u':Value) (t2:TypeId) (u2:Value):∀ w,(method 406 169 (.agg #[.int .i64 i,.iface t u,.iface t' u',.iface t2 u2]) "loop.example/s01308/impl.place").run Tryz.prog w=.ok (185,.agg #[.int .i64 i,.iface t u,.iface t' u',.iface t2 u2]) w:=fun _=>by kernel_rfl

theorem kids_leaf (i:Int) (w:World):Calls Tryz.prog 176 #[.int .i64 i] w fun r w'=>r=.returned (.slice none 0 0)∧w'=w:=by
 go_enter Tryz.func176,Tryz.ntmps176
 go_wp2
 go_ret
 exact ⟨rfl,rfl⟩

theorem place_leaf (i:Int) (w:World):Calls Tryz.prog 177 #[.int .i64 i] w fun r w'=>r=.returned (.int .i64 i)∧w'=w:=by
 go_enter Tryz.func177,Tryz.ntmps177
 go_wp2
 go_ret
 exact ⟨rfl,rfl⟩

def NewT (w:World) (vs:List Value) (n:Nat) (r:Ending) (w':World):Prop:=∃ g,r=.returned (.slice (some ⟨g,0,none⟩) n n)∧w.heap.size≤g∧Row w' g vs.toArray 111∧Below w.heap.size w w'

theorem kids_of_un (i op:Int) (t:TypeId) (u:Value) (w:World):Calls Tryz.prog 180 #[.agg #[.int .i64 i,.int .i64 op,.iface t u]] w (NewT w [.iface t u] 1):=by
 have B0:=(Below.refl w.heap.size w).alloc nl (.cells #[.int .i64 i,.int .i64 op,.iface t u] 163)
 have R1:=Row.new (w.alloc (.cells #[.int .i64 i,.int .i64 op,.iface t u] 163)) #[.iface t u] 111
 simp only [World.size_alloc] at R1
 go_enter Tryz.func180,Tryz.ntmps180
 go_wp2
 go_ret
 exact ⟨w.heap.size+1,rfl,Nat.le_succ _,R1,B0.alloc B0.size _⟩

theorem place_of_un (i op:Int) (t:TypeId) (u:Value) (w:World):Calls Tryz.prog 181 #[.agg #[.int .i64 i,.int .i64 op,.iface t u]] w fun r w'=>r=.returned (.int .i64 i)∧Below w.heap.size w w':=by
 have B0:=(Below.refl w.heap.size w).alloc nl (.cells #[.int .i64 i,.int .i64 op,.iface t u] 163)
 go_enter Tryz.func181,Tryz.ntmps181
 go_wp2
 go_ret
 exact ⟨rfl,B0⟩

theorem kids_of_bin (i op:Int) (t:TypeId) (u:Value) (t':TypeId) (u':Value) (w:World):Calls Tryz.prog 182 #[.agg #[.int .i64 i,.int .i64 op,.iface t u,.iface t' u']] w (NewT w [.iface t u,.iface t' u'] 2):=by
 have B0:=(Below.refl w.heap.size w).alloc nl (.cells #[.int .i64 i,.int .i64 op,.iface t u,.iface t' u'] 166)
 have R1:=Row.new (w.alloc (.cells #[.int .i64 i,.int .i64 op,.iface t u,.iface t' u'] 166)) #[.iface t u,.iface t' u'] 111
 simp only [World.size_alloc] at R1
 go_enter Tryz.func182,Tryz.ntmps182
 go_wp2
 go_ret
 exact ⟨w.heap.size+1,rfl,Nat.le_succ _,R1,B0.alloc B0.size _⟩

theorem place_of_bin (i op:Int) (t:TypeId) (u:Value) (t':TypeId) (u':Value) (w:World):Calls Tryz.prog 183 #[.agg #[.int .i64 i,.int .i64 op,.iface t u,.iface t' u']] w fun r w'=>r=.returned (.int .i64 i)∧Below w.heap.size w w':=by
 have B0:=(Below.refl w.heap.size w).alloc nl (.cells #[.int .i64 i,.int .i64 op,.iface t u,.iface t' u'] 166)
 go_enter Tryz.func183,Tryz.ntmps183
 go_wp2
 go_ret
 exact ⟨rfl,B0⟩

theorem kids_of_ite (i:Int) (t:TypeId) (u:Value) (t':TypeId) (u':Value) (t2:TypeId) (u2:Value) (w:World):Calls Tryz.prog 184 #[.agg #[.int .i64 i,.iface t u,.iface t' u',.iface t2 u2]] w (NewT w [.iface t u,.iface t' u',.iface t2 u2] 3):=by
 have B0:=(Below.refl w.heap.size w).alloc nl (.cells #[.int .i64 i,.iface t u,.iface t' u',.iface t2 u2] 169)
 have R1:=Row.new (w.alloc (.cells #[.int .i64 i,.iface t u,.iface t' u',.iface t2 u2] 169)) #[.iface t u,.iface t' u',.iface t2 u2] 111
 simp only [World.size_alloc] at R1
 go_enter Tryz.func184,Tryz.ntmps184
 go_wp2
 go_ret
 exact ⟨w.heap.size+1,rfl,Nat.le_succ _,R1,B0.alloc B0.size _⟩

theorem place_of_ite (i:Int) (t:TypeId) (u:Value) (t':TypeId) (u':Value) (t2:TypeId) (u2:Value) (w:World):Calls Tryz.prog 185 #[.agg #[.int .i64 i,.iface t u,.iface t' u',.iface t2 u2]] w fun r w'=>r=.returned (.int .i64 i)∧Below w.heap.size w w':=by
 have B0:=(Below.refl w.heap.size w).alloc nl (.cells #[.int .i64 i,.iface t u,.iface t' u',.iface t2 u2] 169)
 go_enter Tryz.func185,Tryz.ntmps185
 go_wp2
 go_ret
 exact ⟨rfl,B0⟩

end Go.Proofs.YtedlocniojlhfaaGreatDoor

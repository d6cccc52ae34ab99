/-
  VPL, UN0, ME0, MI0, WI0, DVA, DVP, WIS, ME, MI, ZB, ZC, JA. Own work.
-/
import Derived.Test.YtedlocniojlhfaaGreatDoorMXAE
import Derived.Test.YtedlocniojlhfaaGreatDoorVPK
import Derived.Test.YtedlocniojlhfaaGreatDoorMXAB
import Derived.Test.YtedlocniojlhfaaGreatDoorMXAF
import Derived.Test.YtedlocniojlhfaaGreatDoorMA
import Derived.Test.YtedlocniojlhfaaGreatDoorMXAK
import Derived.Test.YtedlocniojlhfaaGreatDoorML
import Derived.WalkKit
import Derived.Below
import Derived.Laws.AppendOwnNone
import Derived.Test.YtedlocniojlhfaaGreatDoorMXAH
namespace Go.Proofs.YtedlocniojlhfaaGreatDoor
open Go.RowKit
set_option linter.unusedVariables false

theorem ints_of_row {w:World} {base:Nat} {x:Option Addr} {n c:Nat} {L:List Int} (h:w.ownsRow base 3 1 (.slice x n c) n (intsV L)) (hn:n≤1048576):Ints w x n c L:=by
 have hl:L.length=n:=by have:=h.1;rw [intsV,List.length_map] at this;omega
 refine ⟨hl,hn,fun j hj=>?_⟩
 obtain ⟨x',c',hv,hc⟩:=owns_form2 h
 cases hv
 obtain ⟨g,rfl,_,hg⟩:=hc (by omega)
 refine ⟨g,0,rfl,(h.lt g rfl).2,?_⟩
 rw [Nat.zero_add]
 exact hg j _ (by rw [intsV,List.getElem?_map,List.getElem?_eq_getElem hj];rfl)

end Go.Proofs.YtedlocniojlhfaaGreatDoor

namespace Go.Proofs.YtedlocniojlhfaaGreatDoor
set_option maxHeartbeats 1600000
open Go.RowKit

structure IsUnion (ss tt K:List ByteArray) (code:Int):Prop where
 bad:(setB ss && setB tt)=false→K=[]∧code=4
 good:(setB ss && setB tt)=true→∃ M,IsSorted (ss++tt) M∧(64<M.length→K=[]∧code=3)∧(M.length≤64→K=M∧code=0)

theorem IsUnion.unique {ss tt K K':List ByteArray} {c c':Int} (h:IsUnion ss tt K c) (h':IsUnion ss tt K' c'):K=K'∧c=c':=by
 cases hv:(setB ss && setB tt) with
 | false =>
  obtain ⟨rfl,rfl⟩:=h.bad hv
  obtain ⟨rfl,rfl⟩:=h'.bad hv
  exact ⟨rfl,rfl⟩
 | true =>
  obtain ⟨M,hM,h1,h2⟩:=h.good hv
  obtain ⟨M',hM',h1',h2'⟩:=h'.good hv
  have e:=hM.unique hM'
  subst e
  by_cases hl:64<M.length
  ·obtain ⟨rfl,rfl⟩:=h1 hl
   obtain ⟨rfl,rfl⟩:=h1' hl
   exact ⟨rfl,rfl⟩
  ·obtain ⟨rfl,rfl⟩:=h2 (by omega)
   obtain ⟨rfl,rfl⟩:=h2' (by omega)
   exact ⟨rfl,rfl⟩

theorem IsUnion.code {ss tt K:List ByteArray} {c:Int} (h:IsUnion ss tt K c):0≤c∧c≤4:=by
 cases hv:(setB ss && setB tt) with
 | false=>obtain ⟨_,rfl⟩:=h.bad hv;omega
 | true =>
  obtain ⟨M,hM,h1,h2⟩:=h.good hv
  by_cases hl:64<M.length
  ·obtain ⟨_,rfl⟩:=h1 hl;omega
  ·obtain ⟨_,rfl⟩:=h2 (by omega);omega

theorem IsUnion.len {ss tt K:List ByteArray} {c:Int} (h:IsUnion ss tt K c):K.length≤64:=by
 cases hv:(setB ss && setB tt) with
 | false=>obtain ⟨rfl,_⟩:=h.bad hv;simp
 | true =>
  obtain ⟨M,hM,h1,h2⟩:=h.good hv
  by_cases hl:64<M.length
  ·obtain ⟨rfl,_⟩:=h1 hl;simp
  ·obtain ⟨rfl,_⟩:=h2 (by omega);omega

theorem nth_append {ss tt:List ByteArray} {j:Nat} (h:j<(ss++tt).length):nth (ss++tt) j=if j<ss.length then nth ss j else nth tt (j - ss.length):=by
 rw [nth_eq _ j h,List.getElem_append]
 split
 ·rw [nth_eq _ _ (by assumption)]
 ·rw [nth_eq _ _ (by simp at h;omega)]

theorem sizes_app {ss tt:List ByteArray} (h:∀ j,j<ss.length→(nth ss j).size≤maxLen) (h':∀ j,j<tt.length→(nth tt j).size≤maxLen):∀ j,j<(ss++tt).length→(nth (ss++tt) j).size≤maxLen:=by
 intro j hj
 rw [nth_append hj]
 split
 ·exact h j (by assumption)
 ·exact h' _ (by simp at hj;omega)

theorem IsUnion.sizes {ss tt K:List ByteArray} {c:Int} (h:IsUnion ss tt K c) (hs:∀ j,j<ss.length→(nth ss j).size≤maxLen) (ht:∀ j,j<tt.length→(nth tt j).size≤maxLen):∀ j,j<K.length→(nth K j).size≤maxLen:=by
 cases hv:(setB ss && setB tt) with
 | false=>obtain ⟨rfl,_⟩:=h.bad hv;intro j hj;simp at hj
 | true =>
  obtain ⟨M,hM,h1,h2⟩:=h.good hv
  by_cases hl:64<M.length
  ·obtain ⟨rfl,_⟩:=h1 hl;intro j hj;simp at hj
  ·obtain ⟨rfl,_⟩:=h2 (by omega)
   exact sizes_sorted hM (sizes_app hs ht)

theorem KA.sorted {ss tt K:List ByteArray} (h:KA ss tt ss.length tt.length K):IsSorted (ss++tt) K :=
 ⟨h.rise,fun x=>by rw [h.mem,List.take_length,List.take_length,List.mem_append]⟩

theorem un_parts {ss:List ByteArray} (h:setB ss=true):ss.length≤64∧risB ss=true:=by
 simp [setB] at h;exact ⟨h.1,h.2.2⟩

def UnAns (w:World) (ss tt:List ByteArray) (e:Ending) (w':World):Prop :=
 ∃ x cx K c,e=.returned (.tuple #[.slice x K.length cx,.int .i64 c])∧w'.ownsRow w.heap.size 9 1 (.slice x K.length cx) K.length (K.map Value.string)∧Below w.heap.size w w'∧IsUnion ss tt K c

theorem UnAns.nil {w w':World} {ss tt:List ByteArray} {c:Int} (h:IsUnion ss tt [] c) (hb:Below w.heap.size w w'):UnAns w ss tt (.returned (.tuple #[.slice none 0 0,.int .i64 c])) w' :=
 ⟨none,0,[],c,rfl,World.ownsRow_nil _ _ _ _,hb,h⟩

theorem IsUnion.of_bad {ss tt:List ByteArray} (h:(setB ss && setB tt)=false):IsUnion ss tt [] 4:=⟨fun _=>⟨rfl,rfl⟩,fun k=>by rw [h] at k;cases k⟩
theorem IsUnion.of_wide {ss tt M:List ByteArray} (h:(setB ss && setB tt)=true) (hM:IsSorted (ss++tt) M) (hl:64<M.length):IsUnion ss tt [] 3 :=
 ⟨fun k=>(by rw [h] at k;cases k),fun _=>⟨M,hM,fun _=>⟨rfl,rfl⟩,fun k=>by omega⟩⟩
theorem IsUnion.of_good {ss tt M:List ByteArray} (h:(setB ss && setB tt)=true) (hM:IsSorted (ss++tt) M) (hl:M.length≤64):IsUnion ss tt M 0 :=
 ⟨fun k=>(by rw [h] at k;cases k),fun _=>⟨M,hM,fun k=>(by omega),fun _=>⟨rfl,rfl⟩⟩⟩

variable {aS aO aZ aW:Addr}

def UniteAns (aS aO aZ aW:Addr) (w:World) (ss tt:List ByteArray) (e:Ending) (w':World):Prop :=
 ∃ x cx K c,e=.returned (.tuple #[.slice x K.length cx,errV aS aO aZ aW c])∧w'.ownsRow w.heap.size 9 1 (.slice x K.length cx) K.length (K.map Value.string)∧Below w.heap.size w w'∧IsUnion ss tt K c

theorem UniteAns.nil {w w':World} {ss tt:List ByteArray} {c:Int} (h:IsUnion ss tt [] c) (hb:Below w.heap.size w w'):UniteAns aS aO aZ aW w ss tt (.returned (.tuple #[.slice none 0 0,errV aS aO aZ aW c])) w' :=
 ⟨none,0,[],c,rfl,World.ownsRow_nil _ _ _ _,hb,h⟩

theorem unite_any (a:Option Addr) (n c:Nat) (ss:List ByteArray) (a':Option Addr) (n' c':Nat) (tt:List ByteArray) (w:World) (hs:Sent w aS aO aZ aW) (h:Strs w a n c ss) (h':Strs w a' n' c' tt) :
  Calls Tryz.prog 149 #[.slice a n c,.slice a' n' c'] w fun e w'=>UniteAns aS aO aZ aW w ss tt e w':=by
 cases v1:setB ss
 ·have Hn:=hide (IsUnion.of_bad (ss:=ss) (tt:=tt) (by rw [v1];rfl))
  go_enter Tryz.func149,Tryz.ntmps149
  go_wp2_with fail
  refine (iIsSet_any _ _ _ _ _ h).mono ?_
  rintro e w1 ⟨rfl,hb1⟩
  rw [v1]
  have hg:=(hs.below hb1 nl).g0
  go_wp2
  go_quiet (fail)
  go_wp2
  go_ret2
  exact UniteAns.nil (uh Hn) (below_drewN hb1 _)
 ·cases v2:setB tt
  ·have Hn:=hide (IsUnion.of_bad (ss:=ss) (tt:=tt) (by rw [v1,v2];rfl))
   go_enter Tryz.func149,Tryz.ntmps149
   go_wp2_with fail
   refine (iIsSet_any _ _ _ _ _ h).mono ?_
   rintro e w1 ⟨rfl,hb1⟩
   rw [v1]
   go_wp2_with fail
   refine (iIsSet_any _ _ _ _ _ (h'.below hb1 nl)).mono ?_
   rintro e w2 ⟨rfl,hb2⟩
   rw [v2]
   have B2:=hb1.trans (hb2.mono hb1.size)
   have hg:=(hs.below B2 nl).g0
   go_wp2
   go_quiet (fail)
   go_wp2
   go_ret2
   exact UniteAns.nil (uh Hn) (below_drewN B2 _)
  ·obtain ⟨hn,hr⟩:=un_parts v1
   obtain ⟨hn',hr'⟩:=un_parts v2
   have Hr:=hide hr
   have Hr':=hide hr'
   clear hr hr'
   have Hv:=hide (show (setB ss && setB tt)=true by rw [v1,v2];rfl)
   go_enter Tryz.func149,Tryz.ntmps149
   go_wp2_with fail
   refine (iIsSet_any _ _ _ _ _ h).mono ?_
   rintro e w1 ⟨rfl,hb1⟩
   rw [v1]
   go_wp2_with fail
   refine (iIsSet_any _ _ _ _ _ (h'.below hb1 nl)).mono ?_
   rintro e w2 ⟨rfl,hb2⟩
   rw [v2]
   have B2:=hb1.trans (hb2.mono hb1.size)
   go_wp2_with fail
   refine (merge_KA _ _ _ _ _ _ _ _ _ (h.below B2 nl) (h'.below B2 nl) (uh Hr) (uh Hr') (by have:=h.len;omega) (by have:=h'.len;omega)).mono ?_
   rintro e w3 ⟨x,cx,K,rfl,ho,hb3,hK⟩
   have HK:=hide hK.sorted
   clear hK
   have B3:=B2.trans (hb3.mono B2.size)
   by_cases hl:64<K.length
   ·have il:(64:Int)<(K.length:Int):=by omega
    have hg:=(hs.below B3 nl).g3
    go_wp2
    go_quiet (fail)
    go_wp2
    go_ret2
    exact UniteAns.nil (IsUnion.of_wide (uh Hv) (uh HK) hl) (below_drewN B3 _)
   ·have il:(K.length:Int)≤64:=by omega
    go_wp2
    go_ret2
    exact ⟨x,cx,K,0,rfl,owns_mono ho B2.size,B3,IsUnion.of_good (uh Hv) (uh HK) (by omega)⟩

theorem Strs.news {w:World} {b off n c:Nat} {ss:List ByteArray} (hq:Strs w (some ⟨b,off,none⟩) n c ss):∀ j u,(ss.map Value.string)[j]?=some u→w.cell? ((⟨b,off,none⟩:Addr).add j)=some u:=fun j u hu=>by
 rw [List.getElem?_map,Option.map_eq_some_iff] at hu
 obtain ⟨s,hs,rfl⟩:=hu
 have hj:j<ss.length:=(List.getElem?_eq_some_iff.1 hs).1
 obtain ⟨b1,off1,ha,_,hc⟩:=hq.cells j (by have:=hq.len;omega)
 simp only [Option.some.injEq,Addr.mk.injEq,and_true] at ha
 obtain ⟨rfl,rfl⟩:=ha
 have hadd:(⟨b,off,none⟩:Addr).add j=⟨b,off+j,none⟩:=by by_cases e:j=0 <;> simp [Addr.add,e]
 rw [hadd,hc,nth_eq _ j hj]
 rw [List.getElem?_eq_getElem hj] at hs
 cases hs;rfl

end Go.Proofs.YtedlocniojlhfaaGreatDoor

namespace Go.Proofs.YtedlocniojlhfaaGreatDoor
set_option maxHeartbeats 800000
open Go.RowKit

def meetL (ss tt:List ByteArray):List ByteArray:=if setB ss && setB tt then pick ss tt true else []

theorem meet_parts {ss:List ByteArray} (h:setB ss=true):ss.length≤64∧risB ss=true:=by
 simp [setB] at h;exact ⟨h.1,h.2.2⟩

theorem meet_sizes (ss tt:List ByteArray) (h:∀ j,j<ss.length→(nth ss j).size≤maxLen):∀ j,j<(meetL ss tt).length→(nth (meetL ss tt) j).size≤maxLen:=by
 unfold meetL
 split
 ·exact sizes_pick ss tt true h
 ·intro j hj;simp at hj

theorem meet_len (ss tt:List ByteArray):(meetL ss tt).length≤ss.length:=by
 unfold meetL
 split
 ·exact pick_len _ _ _
 ·simp

def meetAns (w:World) (ss tt:List ByteArray) (e:Ending) (w':World):Prop :=
 ∃ x cx,e=.returned (.slice x (meetL ss tt).length cx)∧w'.ownsRow w.heap.size 9 1 (.slice x (meetL ss tt).length cx) (meetL ss tt).length ((meetL ss tt).map Value.string)∧Below w.heap.size w w'

theorem meetAns_nil {w w':World} {ss tt:List ByteArray} (h:meetL ss tt=[]) (hb:Below w.heap.size w w'):meetAns w ss tt (.returned (.slice none 0 0)) w':=by
 unfold meetAns
 rw [h]
 exact ⟨none,0,rfl,World.ownsRow_nil _ _ _ _,hb⟩

theorem iMeet_any (a:Option Addr) (n c:Nat) (ss:List ByteArray) (a':Option Addr) (n' c':Nat) (tt:List ByteArray) (w:World) (h:Strs w a n c ss) (h':Strs w a' n' c' tt) :
  Calls Tryz.prog 150 #[.slice a n c,.slice a' n' c'] w fun e w'=>meetAns w ss tt e w':=by
 cases v1:setB ss
 ·have Hn:=hide (show meetL ss tt=[] by simp [meetL,v1])
  go_enter Tryz.func150,Tryz.ntmps150
  go_wp2_with fail
  refine (iIsSet_any _ _ _ _ _ h).mono ?_
  rintro e w1 ⟨rfl,hb1⟩
  rw [v1]
  go_wp2_with fail
  go_ret
  exact meetAns_nil (uh Hn) hb1
 ·cases v2:setB tt
  ·have Hn:=hide (show meetL ss tt=[] by simp [meetL,v2])
   go_enter Tryz.func150,Tryz.ntmps150
   go_wp2_with fail
   refine (iIsSet_any _ _ _ _ _ h).mono ?_
   rintro e w1 ⟨rfl,hb1⟩
   rw [v1]
   go_wp2_with fail
   refine (iIsSet_any _ _ _ _ _ (h'.below hb1 nl)).mono ?_
   rintro e w2 ⟨rfl,hb2⟩
   rw [v2]
   go_wp2_with fail
   go_ret
   exact meetAns_nil (uh Hn) (hb1.trans (hb2.mono hb1.size))
  ·obtain ⟨hn,hr⟩:=meet_parts v1
   obtain ⟨hn',hr'⟩:=meet_parts v2
   have Hr:=hide hr
   have Hr':=hide hr'
   clear hr hr'
   have Hn:=hide (show meetL ss tt=pick ss tt true by simp [meetL,v1,v2])
   go_enter Tryz.func150,Tryz.ntmps150
   go_wp2_with fail
   refine (iIsSet_any _ _ _ _ _ h).mono ?_
   rintro e w1 ⟨rfl,hb1⟩
   rw [v1]
   go_wp2_with fail
   refine (iIsSet_any _ _ _ _ _ (h'.below hb1 nl)).mono ?_
   rintro e w2 ⟨rfl,hb2⟩
   rw [v2]
   have B2:=hb1.trans (hb2.mono hb1.size)
   go_wp2_with fail
   refine (merge_KB _ _ _ _ _ _ _ _ _ (h.below B2 nl) (h'.below B2 nl) (uh Hr) (uh Hr') (by have:=h.len;omega) (by have:=h'.len;omega)).mono ?_
   rintro e w3 ⟨x,cx,K,rfl,ho,hb3,hK⟩
   have HK:=hide hK.last
   clear hK
   go_wp2_with fail
   go_ret
   have e1:K=meetL ss tt:=by rw [uh HK,uh Hn]
   subst e1
   exact ⟨x,cx,rfl,owns_mono ho B2.size,B2.trans (hb3.mono B2.size)⟩

end Go.Proofs.YtedlocniojlhfaaGreatDoor

namespace Go.Proofs.YtedlocniojlhfaaGreatDoor
set_option maxHeartbeats 800000
open Go.RowKit

def minusL (ss tt:List ByteArray):List ByteArray:=if setB ss && setB tt then pick ss tt false else []

theorem minus_parts {ss:List ByteArray} (h:setB ss=true):ss.length≤64∧risB ss=true:=by
 simp [setB] at h;exact ⟨h.1,h.2.2⟩

theorem minus_sizes (ss tt:List ByteArray) (h:∀ j,j<ss.length→(nth ss j).size≤maxLen):∀ j,j<(minusL ss tt).length→(nth (minusL ss tt) j).size≤maxLen:=by
 unfold minusL
 split
 ·exact sizes_pick ss tt false h
 ·intro j hj;simp at hj

theorem minus_len (ss tt:List ByteArray):(minusL ss tt).length≤ss.length:=by
 unfold minusL
 split
 ·exact pick_len _ _ _
 ·simp

def minusAns (w:World) (ss tt:List ByteArray) (e:Ending) (w':World):Prop :=
 ∃ x cx,e=.returned (.slice x (minusL ss tt).length cx)∧w'.ownsRow w.heap.size 9 1 (.slice x (minusL ss tt).length cx) (minusL ss tt).length ((minusL ss tt).map Value.string)∧Below w.heap.size w w'

theorem minusAns_nil {w w':World} {ss tt:List ByteArray} (h:minusL ss tt=[]) (hb:Below w.heap.size w w'):minusAns w ss tt (.returned (.slice none 0 0)) w':=by
 unfold minusAns
 rw [h]
 exact ⟨none,0,rfl,World.ownsRow_nil _ _ _ _,hb⟩

theorem iMinus_any (a:Option Addr) (n c:Nat) (ss:List ByteArray) (a':Option Addr) (n' c':Nat) (tt:List ByteArray) (w:World) (h:Strs w a n c ss) (h':Strs w a' n' c' tt) :
  Calls Tryz.prog 151 #[.slice a n c,.slice a' n' c'] w fun e w'=>minusAns w ss tt e w':=by
 cases v1:setB ss
 ·have Hn:=hide (show minusL ss tt=[] by simp [minusL,v1])
  go_enter Tryz.func151,Tryz.ntmps151
  go_wp2_with fail
  refine (iIsSet_any _ _ _ _ _ h).mono ?_
  rintro e w1 ⟨rfl,hb1⟩
  rw [v1]
  go_wp2_with fail
  go_ret
  exact minusAns_nil (uh Hn) hb1
 ·cases v2:setB tt
  ·have Hn:=hide (show minusL ss tt=[] by simp [minusL,v2])
   go_enter Tryz.func151,Tryz.ntmps151
   go_wp2_with fail
   refine (iIsSet_any _ _ _ _ _ h).mono ?_
   rintro e w1 ⟨rfl,hb1⟩
   rw [v1]
   go_wp2_with fail
   refine (iIsSet_any _ _ _ _ _ (h'.below hb1 nl)).mono ?_
   rintro e w2 ⟨rfl,hb2⟩
   rw [v2]
   go_wp2_with fail
   go_ret
   exact minusAns_nil (uh Hn) (hb1.trans (hb2.mono hb1.size))
  ·obtain ⟨hn,hr⟩:=minus_parts v1
   obtain ⟨hn',hr'⟩:=minus_parts v2
   have Hr:=hide hr
   have Hr':=hide hr'
   clear hr hr'
   have Hn:=hide (show minusL ss tt=pick ss tt false by simp [minusL,v1,v2])
   go_enter Tryz.func151,Tryz.ntmps151
   go_wp2_with fail
   refine (iIsSet_any _ _ _ _ _ h).mono ?_
   rintro e w1 ⟨rfl,hb1⟩
   rw [v1]
   go_wp2_with fail
   refine (iIsSet_any _ _ _ _ _ (h'.below hb1 nl)).mono ?_
   rintro e w2 ⟨rfl,hb2⟩
   rw [v2]
   have B2:=hb1.trans (hb2.mono hb1.size)
   go_wp2_with fail
   refine (merge_KL _ _ _ _ _ _ _ _ _ (h.below B2 nl) (h'.below B2 nl) (uh Hr) (uh Hr') (by have:=h.len;omega) (by have:=h'.len;omega)).mono ?_
   rintro e w3 ⟨x,cx,K,rfl,ho,hb3,hK⟩
   have HK:=hide hK.last
   clear hK
   go_wp2_with fail
   go_ret
   have e1:K=minusL ss tt:=by rw [uh HK,uh Hn]
   subst e1
   exact ⟨x,cx,rfl,owns_mono ho B2.size,B2.trans (hb3.mono B2.size)⟩

end Go.Proofs.YtedlocniojlhfaaGreatDoor

namespace Go.Proofs.YtedlocniojlhfaaGreatDoor
set_option maxHeartbeats 800000
open Go.RowKit

def withinB (ss tt:List ByteArray):Bool:=setB ss && (setB tt && decide ((pick ss tt false).length=0))

theorem set_parts {ss:List ByteArray} (h:setB ss=true):ss.length≤64∧risB ss=true:=by
 simp [setB] at h;exact ⟨h.1,h.2.2⟩

theorem iWithin_any (a:Option Addr) (n c:Nat) (ss:List ByteArray) (a':Option Addr) (n' c':Nat) (tt:List ByteArray) (w:World) (h:Strs w a n c ss) (h':Strs w a' n' c' tt) :
  Calls Tryz.prog 152 #[.slice a n c,.slice a' n' c'] w fun e w'=>e=.returned (.bool (withinB ss tt))∧Below w.heap.size w w':=by
 cases v1:setB ss
 ·go_enter Tryz.func152,Tryz.ntmps152
  go_wp2_with fail
  refine (iIsSet_any _ _ _ _ _ h).mono ?_
  rintro e w1 ⟨rfl,hb1⟩
  go_wp2_with fail
  go_ret
  exact ⟨ret_bool (by simp [withinB,v1]),hb1⟩
 ·cases v2:setB tt
  ·go_enter Tryz.func152,Tryz.ntmps152
   go_wp2_with fail
   refine (iIsSet_any _ _ _ _ _ h).mono ?_
   rintro e w1 ⟨rfl,hb1⟩
   go_wp2_with fail
   refine (iIsSet_any _ _ _ _ _ (h'.below hb1 nl)).mono ?_
   rintro e w2 ⟨rfl,hb2⟩
   go_wp2_with fail
   go_ret
   exact ⟨ret_bool (by simp [withinB,v2]),hb1.trans (hb2.mono hb1.size)⟩
  ·obtain ⟨hn,hr⟩:=set_parts v1
   obtain ⟨hn',hr'⟩:=set_parts v2
   have Hr:=hide hr
   have Hr':=hide hr'
   clear hr hr'
   go_enter Tryz.func152,Tryz.ntmps152
   go_wp2_with fail
   refine (iIsSet_any _ _ _ _ _ h).mono ?_
   rintro e w1 ⟨rfl,hb1⟩
   go_wp2_with fail
   refine (iIsSet_any _ _ _ _ _ (h'.below hb1 nl)).mono ?_
   rintro e w2 ⟨rfl,hb2⟩
   have B2:=hb1.trans (hb2.mono hb1.size)
   go_wp2_with fail
   refine (merge_KL _ _ _ _ _ _ _ _ _ (h.below B2 nl) (h'.below B2 nl) (uh Hr) (uh Hr') (by have:=h.len;omega) (by have:=h'.len;omega)).mono ?_
   rintro e w3 ⟨x,cx,K,rfl,ho,hb3,hK⟩
   clear ho
   have HK:=hide hK.last
   clear hK
   go_wp2_with fail
   go_ret
   refine ⟨ret_bool ?_,B2.trans (hb3.mono B2.size)⟩
   rw [uh HK]
   simp only [withinB,v1,v2,Bool.true_and]
   rw [Bool.eq_iff_iff];simp

end Go.Proofs.YtedlocniojlhfaaGreatDoor

namespace Go.Proofs.YtedlocniojlhfaaGreatDoor
open Go.RowKit
set_option linter.unusedVariables false

inductive Vv where
 | bool (b:Bool)
 | int (n:Int)
 | text (s:ByteArray)
 | set (ss:List ByteArray)

def Vv.ty:Vv→Int
 | .bool _=>1
 | .int _=>2
 | .text _=>3
 | .set _=>4

inductive Ev where
 | ok (v:Vv)
 | err (c:Int)

structure Rq where
 cl:ByteArray
 us:ByteArray
 lv:Int
 nw:Int
 s1:List ByteArray
 s2:List ByteArray

open Classical in
noncomputable def unionK (ss tt:List ByteArray):List ByteArray × Int:=if h:∃ p:List ByteArray × Int,IsUnion ss tt p.1 p.2 then Classical.choose h else ([],4)

theorem unionK_of {ss tt K:List ByteArray} {c:Int} (h:IsUnion ss tt K c):unionK ss tt=(K,c):=by
 have hx:∃ p:List ByteArray × Int,IsUnion ss tt p.1 p.2:=⟨(K,c),h⟩
 rw [unionK,dif_pos hx]
 obtain ⟨e1,e2⟩:=(Classical.choose_spec hx).unique h
 exact Prod.ext e1 e2

def ofCalc (p:Int × Int):Ev:=if p.2=0 then .ok (.int p.1) else .err p.2
def ofUnion (p:List ByteArray × Int):Ev:=if p.2=0 then .ok (.set p.1) else .err p.2

def evUn (op:Int) (v:Vv):Ev:=match v with
 | .int n=>if op=8 then ofCalc (calcF 2 0 n) else .err 4
 | .bool b=>if op=9 then .ok (.bool (!b)) else .err 4
 | .set ss=>if op=10 then .ok (.int ss.length) else .err 4
 | .text _=>.err 4

open Classical in
noncomputable def sameV (v u:Vv):Bool:=decide (v=u)

open Classical in
noncomputable def evBin (op:Int) (v u:Vv):Ev :=
 if op=19 then .ok (.bool (sameV v u)) else if op=20 then .ok (.bool (!sameV v u))
 else match v,u with
  | .text s,.set ss=>if op=23 then .ok (.bool (decide (s∈ss))) else .err 4
  | .set ss,.set tt=>if op=16 then ofUnion (unionK ss tt) else if op=17 then .ok (.set (meetL ss tt)) else if op=18 then .ok (.set (minusL ss tt)) else if op=24 then .ok (.bool (withinB ss tt)) else .err 4
  | .int a,.int b=>if op=21 then .ok (.bool (decide (a<b))) else if op=22 then .ok (.bool (decide (a≤b))) else if 11≤op∧op≤15 then ofCalc (calcF (op - 10) a b) else .err 4
  | _,_=>.err 4

def dec1 (op:Int) (v:Vv):Bool:=match v with
 | .bool b=>if op=25 then !b else if op=26 then b else false
 | _=>false

def attrV (R:Rq) (n:Int):Vv:=if n<2 then (if n=1 then .text R.us else .text R.cl) else if n<4 then (if n=3 then .int R.nw else .int R.lv) else if n=4 then .set R.s1 else .set R.s2

noncomputable def evE (R:Rq) (ls:List Vv):Ex→Ev
 | .int _ n=>.ok (.int n)
 | .text _ s=>.ok (.text s)
 | .bool _ b=>.ok (.bool b)
 | .set _ _ _ _ ss=>.ok (.set ss)
 | .name ..=>.err 4
 | .attr _ n=>.ok (attrV R n)
 | .lett _ n=>match ls[n.toNat]? with
  | some v=>.ok v
  | none=>.err 4
 | .un _ op k=>match evE R ls k with
  | .ok v=>evUn op v
  | .err c=>.err c
 | .bin _ op l r=>match evE R ls l with
  | .ok v=>if dec1 op v then .ok v else match evE R ls r with
   | .ok u=>if op=25∨op=26 then .ok u else evBin op v u
   | .err c=>.err c
  | .err c=>.err c
 | .ite _ c t e=>match evE R ls c with
  | .ok (.bool b)=>if b then evE R ls t else evE R ls e
  | .ok _=>.err 4
  | .err c=>.err c

theorem attrV_ty (R:Rq) (n:Int):(attrV R n).ty=attrTy n:=by
 unfold attrV attrTy
 repeat' split <;> try rfl

theorem tyOp1_inv {op a t:Int} (h:nz (tyOp op [a])=some t):(op=8∧a=2∧t=2)∨(op=9∧a=1∧t=1)∨(op=10∧a=4∧t=2):=by
 obtain ⟨h1,h0⟩:=nz_some h
 simp only [tyOp] at h1
 by_cases c1:op=8∧a=2
 ·rw [if_pos c1] at h1;exact .inl ⟨c1.1,c1.2,h1.symm⟩
 rw [if_neg c1] at h1
 by_cases c2:op=9∧a=1
 ·rw [if_pos c2] at h1;exact .inr (.inl ⟨c2.1,c2.2,h1.symm⟩)
 rw [if_neg c2] at h1
 by_cases c3:op=10∧a=4
 ·rw [if_pos c3] at h1;exact .inr (.inr ⟨c3.1,c3.2,h1.symm⟩)
 rw [if_neg c3] at h1
 exact absurd h1.symm h0

theorem tyOp2_inv {op a b t:Int} (h:nz (tyOp op [a,b])=some t):((11≤op∧op≤15)∧a=2∧b=2∧t=2)∨((16≤op∧op≤18)∧a=4∧b=4∧t=4)∨((op=19∨op=20)∧a=b∧t=1)∨((op=21∨op=22)∧a=2∧b=2∧t=1)∨(op=23∧a=3∧b=4∧t=1)∨(op=24∧a=4∧b=4∧t=1)∨((op=25∨op=26)∧a=1∧b=1∧t=1):=by
 obtain ⟨h1,h0⟩:=nz_some h
 simp only [tyOp] at h1
 by_cases c1:(11≤op∧op≤15)∧a=2∧b=2
 ·rw [if_pos c1] at h1;exact .inl ⟨c1.1,c1.2.1,c1.2.2,h1.symm⟩
 rw [if_neg c1] at h1
 by_cases c2:(16≤op∧op≤18)∧a=4∧b=4
 ·rw [if_pos c2] at h1;exact .inr (.inl ⟨c2.1,c2.2.1,c2.2.2,h1.symm⟩)
 rw [if_neg c2] at h1
 by_cases c3:(op=19∨op=20)∧a=b
 ·rw [if_pos c3] at h1;exact .inr (.inr (.inl ⟨c3.1,c3.2,h1.symm⟩))
 rw [if_neg c3] at h1
 by_cases c4:(op=21∨op=22)∧a=2∧b=2
 ·rw [if_pos c4] at h1;exact .inr (.inr (.inr (.inl ⟨c4.1,c4.2.1,c4.2.2,h1.symm⟩)))
 rw [if_neg c4] at h1
 by_cases c5:op=23∧a=3∧b=4
 ·rw [if_pos c5] at h1;exact .inr (.inr (.inr (.inr (.inl ⟨c5.1,c5.2.1,c5.2.2,h1.symm⟩))))
 rw [if_neg c5] at h1
 by_cases c6:op=24∧a=4∧b=4
 ·rw [if_pos c6] at h1;exact .inr (.inr (.inr (.inr (.inr (.inl ⟨c6.1,c6.2.1,c6.2.2,h1.symm⟩)))))
 rw [if_neg c6] at h1
 by_cases c7:(op=25∨op=26)∧a=1∧b=1
 ·rw [if_pos c7] at h1;exact .inr (.inr (.inr (.inr (.inr (.inr ⟨c7.1,c7.2.1,c7.2.2,h1.symm⟩)))))
 rw [if_neg c7] at h1
 exact absurd h1.symm h0

theorem Vv.bool_of {v:Vv} (h:v.ty=1):∃ b,v=.bool b:=by cases v <;> first | exact ⟨_,rfl⟩ | (simp [Vv.ty] at h)
theorem Vv.int_of {v:Vv} (h:v.ty=2):∃ b,v=.int b:=by cases v <;> first | exact ⟨_,rfl⟩ | (simp [Vv.ty] at h)
theorem Vv.text_of {v:Vv} (h:v.ty=3):∃ b,v=.text b:=by cases v <;> first | exact ⟨_,rfl⟩ | (simp [Vv.ty] at h)
theorem Vv.set_of {v:Vv} (h:v.ty=4):∃ b,v=.set b:=by cases v <;> first | exact ⟨_,rfl⟩ | (simp [Vv.ty] at h)

theorem evBin_num {op a b:Int} (h:11≤op∧op≤15):evBin op (.int a) (.int b)=ofCalc (calcF (op - 10) a b):=by
 rw [evBin,if_neg (by omega),if_neg (by omega)]
 rw [if_neg (by omega),if_neg (by omega),if_pos h]
theorem evBin_less (a b:Int):evBin 21 (.int a) (.int b)=.ok (.bool (decide (a<b))):=rfl
theorem evBin_most (a b:Int):evBin 22 (.int a) (.int b)=.ok (.bool (decide (a≤b))):=rfl
theorem evBin_union (a b:List ByteArray):evBin 16 (.set a) (.set b)=ofUnion (unionK a b):=rfl
theorem evBin_meet (a b:List ByteArray):evBin 17 (.set a) (.set b)=.ok (.set (meetL a b)):=rfl
theorem evBin_minus (a b:List ByteArray):evBin 18 (.set a) (.set b)=.ok (.set (minusL a b)):=rfl
theorem evBin_within (a b:List ByteArray):evBin 24 (.set a) (.set b)=.ok (.bool (withinB a b)):=rfl
theorem evBin_eq (v u:Vv):evBin 19 v u=.ok (.bool (sameV v u)):=rfl
theorem evBin_ne (v u:Vv):evBin 20 v u=.ok (.bool (!sameV v u)):=rfl
open Classical in
theorem evBin_in (s:ByteArray) (b:List ByteArray):evBin 23 (.text s) (.set b)=.ok (.bool (decide (s∈b))):=rfl

theorem ofCalc_ty {p:Int × Int} {u:Vv} (h:ofCalc p=.ok u):u.ty=2:=by
 unfold ofCalc at h
 split at h
 ·cases h;rfl
 ·cases h
theorem ofUnion_ty {p:List ByteArray × Int} {u:Vv} (h:ofUnion p=.ok u):u.ty=4:=by
 unfold ofUnion at h
 split at h
 ·cases h;rfl
 ·cases h

theorem evUn_ty {op t:Int} {v:Vv} (h:nz (tyOp op [v.ty])=some t):∀ u,evUn op v=.ok u→u.ty=t:=by
 intro u hu
 rcases tyOp1_inv h with ⟨rfl,hv,rfl⟩ | ⟨rfl,hv,rfl⟩ | ⟨rfl,hv,rfl⟩
 ·obtain ⟨n,rfl⟩:=Vv.int_of hv
  exact ofCalc_ty hu
 ·obtain ⟨n,rfl⟩:=Vv.bool_of hv
  cases hu;rfl
 ·obtain ⟨n,rfl⟩:=Vv.set_of hv
  cases hu;rfl

theorem evBin_ty {op t:Int} {v w:Vv} (h:nz (tyOp op [v.ty,w.ty])=some t) (hc:op≠25∧op≠26):∀ u,evBin op v w=.ok u→u.ty=t:=by
 intro u hu
 rcases tyOp2_inv h with ⟨ho,hv,hw,rfl⟩ | ⟨ho,hv,hw,rfl⟩ | ⟨ho,hv,rfl⟩ | ⟨ho,hv,hw,rfl⟩ | ⟨rfl,hv,hw,rfl⟩ | ⟨rfl,hv,hw,rfl⟩ | ⟨ho,hv,hw,rfl⟩
 ·obtain ⟨a,rfl⟩:=Vv.int_of hv
  obtain ⟨b,rfl⟩:=Vv.int_of hw
  rw [evBin_num ho] at hu
  exact ofCalc_ty hu
 ·obtain ⟨a,rfl⟩:=Vv.set_of hv
  obtain ⟨b,rfl⟩:=Vv.set_of hw
  rcases (show op=16∨op=17∨op=18 by omega) with rfl | rfl | rfl
  ·exact ofUnion_ty hu
  ·cases hu;rfl
  ·cases hu;rfl
 ·rcases ho with rfl | rfl
  ·cases hu;rfl
  ·cases hu;rfl
 ·obtain ⟨a,rfl⟩:=Vv.int_of hv
  obtain ⟨b,rfl⟩:=Vv.int_of hw
  rcases ho with rfl | rfl
  ·cases hu;rfl
  ·cases hu;rfl
 ·obtain ⟨a,rfl⟩:=Vv.text_of hv
  obtain ⟨b,rfl⟩:=Vv.set_of hw
  cases hu;rfl
 ·obtain ⟨a,rfl⟩:=Vv.set_of hv
  obtain ⟨b,rfl⟩:=Vv.set_of hw
  cases hu;rfl
 ·omega

theorem evE_ty {R:Rq} {ls:List Vv} {ts:List Int} (hls:ls.map Vv.ty=ts):∀ (e:Ex) (t:Int),tyE ts e=some t→∀ v,evE R ls e=.ok v→v.ty=t
 | .int ..,t,h,v,hv=>by cases h;cases hv;rfl
 | .text ..,t,h,v,hv=>by cases h;cases hv;rfl
 | .bool ..,t,h,v,hv=>by cases h;cases hv;rfl
 | .set ..,t,h,v,hv=>by cases h;cases hv;rfl
 | .name ..,t,h,v,hv=>by cases h
 | .attr _ n,t,h,v,hv=>by cases h;cases hv;exact attrV_ty R n
 | .lett _ n,t,h,v,hv=>by
  rw [tyE] at h
  rw [evE] at hv
  split at h
  ·rw [← hls,List.getElem?_map] at h
   cases hq:ls[n.toNat]? with
   | none=>rw [hq] at h;cases h
   | some u=>rw [hq] at h hv;cases hv;exact Option.some.inj h
  ·cases h
 | .un _ op k,t,h,v,hv=>by
  rw [tyE] at h
  rw [evE] at hv
  cases hk:tyE ts k with
  | none=>rw [hk] at h;cases h
  | some a =>
   rw [hk] at h
   cases he:evE R ls k with
   | err c=>rw [he] at hv;cases hv
   | ok u =>
    rw [he] at hv
    have:=evE_ty hls k a hk u he
    subst this
    exact evUn_ty h v hv
 | .bin _ op l r,t,h,v,hv=>by
  rw [tyE] at h
  rw [evE] at hv
  cases hl:tyE ts l with
  | none=>rw [hl] at h;cases h
  | some a =>
   rw [hl] at h
   cases hr:tyE ts r with
   | none=>rw [hr] at h;cases h
   | some b =>
    rw [hr] at h
    cases he:evE R ls l with
    | err c=>rw [he] at hv;cases hv
    | ok x =>
     rw [he] at hv
     have hx:=evE_ty hls l a hl x he
     dsimp only at h hv
     by_cases hd:dec1 op x=true
     ·rw [if_pos hd] at hv
      obtain rfl:x=v:=by cases hv;rfl
      cases x with
      | bool q =>
       have ho:op=25∨op=26:=by
        simp only [dec1] at hd
        by_cases h25:op=25
        ·exact .inl h25
        ·rw [if_neg h25] at hd
         by_cases h26:op=26
         ·exact .inr h26
         ·rw [if_neg h26] at hd;cases hd
       rcases tyOp2_inv h with g | g | g | g | g | g | g
       ·omega
       ·omega
       ·omega
       ·omega
       ·omega
       ·omega
       ·rw [g.2.2.2];rfl
      | int _=>simp [dec1] at hd
      | text _=>simp [dec1] at hd
      | set _=>simp [dec1] at hd
     ·rw [if_neg hd] at hv
      cases he2:evE R ls r with
      | err c=>rw [he2] at hv;cases hv
      | ok y =>
       rw [he2] at hv
       have hy:=evE_ty hls r b hr y he2
       dsimp only at hv
       by_cases ho:op=25∨op=26
       ·rw [if_pos ho] at hv
        obtain rfl:y=v:=by cases hv;rfl
        rcases tyOp2_inv h with g | g | g | g | g | g | g
        ·omega
        ·omega
        ·omega
        ·omega
        ·omega
        ·omega
        ·omega
       ·rw [if_neg ho] at hv
        rw [← hx,← hy] at h
        exact evBin_ty h ⟨fun q=>ho (.inl q),fun q=>ho (.inr q)⟩ v hv
 | .ite _ c a b,t,h,v,hv=>by
  rw [tyE] at h
  rw [evE] at hv
  cases hc:tyE ts c with
  | none=>rw [hc] at h;cases h
  | some x =>
   rw [hc] at h
   cases ha:tyE ts a with
   | none=>rw [ha] at h;cases h
   | some y =>
    rw [ha] at h
    cases hb:tyE ts b with
    | none=>rw [hb] at h;cases h
    | some z =>
     rw [hb] at h
     dsimp only at h
     obtain ⟨h1,h0⟩:=nz_some h
     simp only [tyOp] at h1
     have hyz:y=t∧z=t:=by
      by_cases c1:x=1∧y=z
      ·rw [if_pos c1] at h1;omega
      ·rw [if_neg c1] at h1;omega
     cases he:evE R ls c with
     | err q=>rw [he] at hv;cases hv
     | ok u =>
      rw [he] at hv
      cases u with
      | bool q =>
       cases q with
       | true=>exact (evE_ty hls a y ha v hv).trans hyz.1
       | false=>exact (evE_ty hls b z hb v hv).trans hyz.2
      | int _=>cases hv
      | text _=>cases hv
      | set _=>cases hv

end Go.Proofs.YtedlocniojlhfaaGreatDoor

namespace Go.Proofs.YtedlocniojlhfaaGreatDoor
set_option maxRecDepth 100000
set_option maxHeartbeats 1600000
open Go.RowKit
set_option linter.unusedVariables false

theorem Strs.newsG {w:World} {ad:Addr} {n c:Nat} {ss:List ByteArray} (hq:Strs w (some ad) n c ss):∀ j u,(ss.map Value.string)[j]?=some u→w.cell? (ad.add j)=some u:=fun j u hu=>by
 have hj:j<ss.length:=by
  have:=(List.getElem?_eq_some_iff.1 hu).1
  simpa using this
 obtain ⟨b1,off1,ha,_,_⟩:=hq.cells j (by have:=hq.len;omega)
 cases ha
 exact Strs.news hq j u hu

theorem wpList_append_strs {ops:Array Oper} {rest:List Oper} {o:Oper} {act:Act} {Q:Exit→Act→World→Prop} {w:World} (hgd:o.guard=none) (s x:Operand) (ho:o.op=.call { callee:=.builtin .append,args:=#[s,x],argTypes:=#[27,27] }) (base:Nat) (v:Value) (k:Nat) (xs:List Value) (hs:act.eval s=v) (hown:w.ownsRow base 9 1 v k xs) (a:Option Addr) (n c:Nat) (ss:List ByteArray) (hx:act.eval x=.slice a n c) (h:Strs w a n c ss) (hc:a=none→c=0) (hk:k+n≤1048576) (hb:base≤w.heap.size)
  (hK:∀ v' w',w'.ownsRow base 9 1 v' (k+n) (xs++ss.map Value.string)→Below base w w'→wpList Tryz.prog ops Q rest (act.put o.dst v') w'):wpList Tryz.prog ops Q (o::rest) act w:=by
 obtain ⟨i,hi,hz0,hz1,hz2⟩:=info_parts infoS
 cases a with
 | none =>
  have h0:n=0:=by
   rcases Nat.eq_zero_or_pos n with q | q
   ·exact q
   ·obtain ⟨b9,o9,e9,_⟩:=h.cells 0 q;cases e9
  obtain rfl:=hc rfl
  subst h0
  obtain rfl:ss=[]:=List.eq_nil_of_length_eq_zero h.len.symm
  exact wpList_append_own_none hgd s x 27 ho base 9 i 1 Tryz.underlying27 hi v k xs hs hown hx (hK v w (by simpa using hown) (Below.refl _ _))
 | some ad =>
  refine wpList_append_own w hgd s x 27 ho base 9 i (.string ByteArray.empty) 1 16 Tryz.underlying27 hi hz0 hz1 hz2 rfl (by decide) v k xs hs hown ad n c (ss.map Value.string) hx ?_ (Strs.newsG h) ?_ ?_ ?_ hb ?_
  ·rw [List.length_map,h.len];omega
  ·intro u hu;obtain ⟨s,_,rfl⟩:=List.mem_map.1 hu;rfl
  ·unfold maxLen;omega
  ·omega
  ·intro v' w' hown' hgrow _
   exact hK v' w' hown' ((Below.refl _ _).grown hgrow hb (fun q hq=>(hown.lt q hq).1))

theorem sUnionG_any (a:Option Addr) (n c:Nat) (ss:List ByteArray) (a':Option Addr) (n' c':Nat) (tt:List ByteArray) (w:World) (h:Strs w a n c ss) (h':Strs w a' n' c' tt) (k1:a=none→c=0) (k2:a'=none→c'=0) :
  Calls Tryz.prog 101 #[.slice a n c,.slice a' n' c'] w fun e w'=>UnAns w ss tt e w':=by
 cases v1:setB ss
 ·have Hn:=hide (IsUnion.of_bad (ss:=ss) (tt:=tt) (by rw [v1];rfl))
  go_enter Tryz.func101,Tryz.ntmps101
  go_wp2_with fail
  refine (sIsSet_any _ _ _ _ _ h).mono ?_
  rintro e w1 ⟨rfl,rfl⟩
  rw [v1]
  go_wp2
  go_ret2
  exact UnAns.nil (uh Hn) (Below.refl _ _)
 ·cases v2:setB tt
  ·have Hn:=hide (IsUnion.of_bad (ss:=ss) (tt:=tt) (by rw [v1,v2];rfl))
   go_enter Tryz.func101,Tryz.ntmps101
   go_wp2_with fail
   refine (sIsSet_any _ _ _ _ _ h).mono ?_
   rintro e w1 ⟨rfl,rfl⟩
   rw [v1]
   go_wp2_with fail
   refine (sIsSet_any _ _ _ _ _ h').mono ?_
   rintro e w1 ⟨rfl,rfl⟩
   rw [v2]
   go_wp2
   go_ret2
   exact UnAns.nil (uh Hn) (Below.refl _ _)
  ·have hn:=(un_parts v1).1
   have hn':=(un_parts v2).1
   have Hl:=hide h.len
   have Hl':=hide h'.len
   have Hv:=hide (show (setB ss && setB tt)=true by rw [v1,v2];rfl)
   obtain ⟨i,hi,hz0,hz1,hz2⟩:=info_parts infoS
   go_enter Tryz.func101,Tryz.ntmps101
   go_wp2_with fail
   refine (sIsSet_any _ _ _ _ _ h).mono ?_
   rintro e w1 ⟨rfl,hw1⟩
   rw [v1,hw1]
   clear hw1
   go_wp2_with fail
   refine (sIsSet_any _ _ _ _ _ h').mono ?_
   rintro e w1 ⟨rfl,hw1⟩
   rw [v2,hw1]
   clear hw1
   have hnn:n≤64:=by have:=uh Hl;omega
   have hnn':n'≤64:=by have:=uh Hl';omega
   go_wp2_with (at_builtin;refine wpList_append_strs rfl _ _ rfl w.heap.size _ 0 [] rfl (World.ownsRow_nil _ _ _ _) a n c ss rfl h k1 (by omega) nl ?_)
   intro v1' w1 hown1 hb1
   obtain ⟨x1,cx1,hf1⟩:=owns_form hown1
   rw [hf1] at hown1 ⊢
   clear hf1
   go_wp2_with (at_builtin;refine wpList_append_strs rfl _ _ rfl w.heap.size _ n _ rfl hown1 a' n' c' tt rfl (h'.below hb1 nl) k2 (by omega) hb1.size ?_)
   intro v2' w2 hown2 hb12
   have hb2:=hb1.trans hb12
   obtain ⟨x2,cx2,hf2⟩:=owns_form hown2
   rw [hf2] at hown2 ⊢
   clear hf2 hown1 hb1 hb12
   rw [← List.map_append] at hown2
   have hst:Strs w2 x2 (n+n') cx2 (ss++tt):=Strs.of_owns hown2 (by
    intro j hj
    exact sizes_app (by rw [← uh Hl];exact h.sizes) (by rw [← uh Hl'];exact h'.sizes) j (by have:=uh Hl;have:=uh Hl';simp;omega))
   clear hown2
   go_wp2_with fail
   refine (l1sorted_any _ _ _ _ _ hst (by have:=uh Hl;have:=uh Hl';omega)).mono ?_
   rintro e w3 ⟨x,cx,K,rfl,ho,hb3,hK⟩
   have HK:=hide hK
   clear hK
   have B3:=hb2.trans (hb3.mono hb2.size)
   have ho':=owns_mono ho hb2.size
   clear ho hb3 hb2 hst v1 v2 hn hn' hi hz0 hz1 hz2
   by_cases hl:64<K.length
   ·have il:(64:Int)<(K.length:Int):=by omega
    go_wp2
    go_ret2
    exact UnAns.nil (IsUnion.of_wide (uh Hv) (uh HK) hl) B3
   ·have il:(K.length:Int)≤64:=by omega
    go_wp2
    go_ret2
    have hu:=IsUnion.of_good (uh Hv) (uh HK) (by omega)
    exact ⟨x,cx,K,0,rfl,ho',B3,hu⟩

end Go.Proofs.YtedlocniojlhfaaGreatDoor

namespace Go.Proofs.YtedlocniojlhfaaGreatDoor
set_option maxHeartbeats 800000
open Go.RowKit

theorem sWithin_any (a:Option Addr) (n c:Nat) (ss:List ByteArray) (a':Option Addr) (n' c':Nat) (tt:List ByteArray) (w:World) (h:Strs w a n c ss) (h':Strs w a' n' c' tt) :
  Calls Tryz.prog 107 #[.slice a n c,.slice a' n' c'] w fun e w'=>e=.returned (.bool (withinB ss tt))∧Below w.heap.size w w':=by
 cases v1:setB ss
 ·go_enter Tryz.func107,Tryz.ntmps107
  go_wp2_with fail
  refine (sIsSet_any _ _ _ _ _ h).mono ?_
  rintro e w1 ⟨rfl,rfl⟩
  go_wp2_with fail
  go_ret
  exact ⟨ret_bool (by simp [withinB,v1]),Below.refl _ _⟩
 ·cases v2:setB tt
  ·go_enter Tryz.func107,Tryz.ntmps107
   go_wp2_with fail
   refine (sIsSet_any _ _ _ _ _ h).mono ?_
   rintro e w1 ⟨rfl,rfl⟩
   go_wp2_with fail
   refine (sIsSet_any _ _ _ _ _ h').mono ?_
   rintro e w1 ⟨rfl,rfl⟩
   go_wp2_with fail
   go_ret
   exact ⟨ret_bool (by simp [withinB,v2]),Below.refl _ _⟩
  ·have hn:=(set_parts v1).1
   go_enter Tryz.func107,Tryz.ntmps107
   go_wp2_with fail
   refine (sIsSet_any _ _ _ _ _ h).mono ?_
   rintro e w1 ⟨rfl,rfl⟩
   go_wp2_with fail
   refine (sIsSet_any _ _ _ _ _ h').mono ?_
   rintro e w1 ⟨rfl,rfl⟩
   go_wp2_with fail
   refine (l1pick_any _ _ _ _ _ _ _ _ _ _ h h' (by have:=h.len;omega)).mono ?_
   rintro e w1 ⟨x,cx,rfl,ho,hb⟩
   clear ho
   go_wp2_with fail
   go_ret
   refine ⟨ret_bool ?_,hb⟩
   simp only [withinB,v1,v2,Bool.true_and]
   rw [Bool.eq_iff_iff];simp

end Go.Proofs.YtedlocniojlhfaaGreatDoor

namespace Go.Proofs.YtedlocniojlhfaaGreatDoor
set_option maxHeartbeats 800000
open Go.RowKit

theorem sMeet_any (a:Option Addr) (n c:Nat) (ss:List ByteArray) (a':Option Addr) (n' c':Nat) (tt:List ByteArray) (w:World) (h:Strs w a n c ss) (h':Strs w a' n' c' tt) :
  Calls Tryz.prog 102 #[.slice a n c,.slice a' n' c'] w fun e w'=>meetAns w ss tt e w':=by
 cases v1:setB ss
 ·have Hn:=hide (show meetL ss tt=[] by simp [meetL,v1])
  go_enter Tryz.func102,Tryz.ntmps102
  go_wp2_with fail
  refine (sIsSet_any _ _ _ _ _ h).mono ?_
  rintro e w1 ⟨rfl,rfl⟩
  rw [v1]
  go_wp2_with fail
  go_ret
  exact meetAns_nil (uh Hn) (Below.refl _ _)
 ·cases v2:setB tt
  ·have Hn:=hide (show meetL ss tt=[] by simp [meetL,v2])
   go_enter Tryz.func102,Tryz.ntmps102
   go_wp2_with fail
   refine (sIsSet_any _ _ _ _ _ h).mono ?_
   rintro e w1 ⟨rfl,rfl⟩
   rw [v1]
   go_wp2_with fail
   refine (sIsSet_any _ _ _ _ _ h').mono ?_
   rintro e w1 ⟨rfl,rfl⟩
   rw [v2]
   go_wp2_with fail
   go_ret
   exact meetAns_nil (uh Hn) (Below.refl _ _)
  ·have hn:=(meet_parts v1).1
   have Hn:=hide (show meetL ss tt=pick ss tt true by simp [meetL,v1,v2])
   go_enter Tryz.func102,Tryz.ntmps102
   go_wp2_with fail
   refine (sIsSet_any _ _ _ _ _ h).mono ?_
   rintro e w1 ⟨rfl,rfl⟩
   rw [v1]
   go_wp2_with fail
   refine (sIsSet_any _ _ _ _ _ h').mono ?_
   rintro e w1 ⟨rfl,rfl⟩
   rw [v2]
   go_wp2_with fail
   refine (l1pick_any _ _ _ _ _ _ _ _ _ _ h h' (by have:=h.len;omega)).mono ?_
   rintro e w1 ⟨x,cx,rfl,ho,hb⟩
   go_wp2_with fail
   go_ret
   unfold meetAns
   rw [uh Hn]
   exact ⟨x,cx,rfl,ho,hb⟩

end Go.Proofs.YtedlocniojlhfaaGreatDoor

namespace Go.Proofs.YtedlocniojlhfaaGreatDoor
set_option maxHeartbeats 800000
open Go.RowKit

theorem sMinus_any (a:Option Addr) (n c:Nat) (ss:List ByteArray) (a':Option Addr) (n' c':Nat) (tt:List ByteArray) (w:World) (h:Strs w a n c ss) (h':Strs w a' n' c' tt) :
  Calls Tryz.prog 103 #[.slice a n c,.slice a' n' c'] w fun e w'=>minusAns w ss tt e w':=by
 cases v1:setB ss
 ·have Hn:=hide (show minusL ss tt=[] by simp [minusL,v1])
  go_enter Tryz.func103,Tryz.ntmps103
  go_wp2_with fail
  refine (sIsSet_any _ _ _ _ _ h).mono ?_
  rintro e w1 ⟨rfl,rfl⟩
  rw [v1]
  go_wp2_with fail
  go_ret
  exact minusAns_nil (uh Hn) (Below.refl _ _)
 ·cases v2:setB tt
  ·have Hn:=hide (show minusL ss tt=[] by simp [minusL,v2])
   go_enter Tryz.func103,Tryz.ntmps103
   go_wp2_with fail
   refine (sIsSet_any _ _ _ _ _ h).mono ?_
   rintro e w1 ⟨rfl,rfl⟩
   rw [v1]
   go_wp2_with fail
   refine (sIsSet_any _ _ _ _ _ h').mono ?_
   rintro e w1 ⟨rfl,rfl⟩
   rw [v2]
   go_wp2_with fail
   go_ret
   exact minusAns_nil (uh Hn) (Below.refl _ _)
  ·have hn:=(minus_parts v1).1
   have Hn:=hide (show minusL ss tt=pick ss tt false by simp [minusL,v1,v2])
   go_enter Tryz.func103,Tryz.ntmps103
   go_wp2_with fail
   refine (sIsSet_any _ _ _ _ _ h).mono ?_
   rintro e w1 ⟨rfl,rfl⟩
   rw [v1]
   go_wp2_with fail
   refine (sIsSet_any _ _ _ _ _ h').mono ?_
   rintro e w1 ⟨rfl,rfl⟩
   rw [v2]
   go_wp2_with fail
   refine (l1pick_any _ _ _ _ _ _ _ _ _ _ h h' (by have:=h.len;omega)).mono ?_
   rintro e w1 ⟨x,cx,rfl,ho,hb⟩
   go_wp2_with fail
   go_ret
   unfold minusAns
   rw [uh Hn]
   exact ⟨x,cx,rfl,ho,hb⟩

end Go.Proofs.YtedlocniojlhfaaGreatDoor

namespace Go.Proofs.YtedlocniojlhfaaGreatDoor
set_option maxRecDepth 100000
set_option maxHeartbeats 1600000
open Go.RowKit
set_option linter.unusedVariables false

theorem l3attrType_any (n:Int) (w:World):Calls Tryz.prog 118 #[.int .i64 n] w fun r w'=>r=.returned (.int .i64 (attrTy n))∧w'=w:=by
 by_cases h1:n<2
 ·have HX:=hide (show attrTy n=3 by rw [attrTy,if_pos h1])
  go_enter Tryz.func118,Tryz.ntmps118
  go_wp2_with fail
  go_ret
  exact ⟨by rw [uh HX];rfl,rfl⟩
 by_cases h2:n<4
 ·have HX:=hide (show attrTy n=2 by rw [attrTy,if_neg h1,if_pos h2])
  go_enter Tryz.func118,Tryz.ntmps118
  go_wp2_with fail
  go_ret
  exact ⟨by rw [uh HX];rfl,rfl⟩
 ·have HX:=hide (show attrTy n=4 by rw [attrTy,if_neg h1,if_neg h2])
  go_enter Tryz.func118,Tryz.ntmps118
  go_wp2_with fail
  go_ret
  exact ⟨by rw [uh HX];rfl,rfl⟩

def fitL:Int→List Int→List Int→Option Int
 | any,[],_=>some any
 | any,w::ws,ks=>match ks with
  | []=>none
  | k::ks=>if w=0 then (if any=0 then fitL k ws ks else if k=any then fitL any ws ks else none) else if k=w then fitL any ws ks else none

def typeL (op:Int) (K:List Int):Int:=match fitL 0 (rowL op).1 K with
 | none=>0
 | some any=>if (rowL op).2=0 then any else (rowL op).2

theorem fitL_at {any:Int} {W K:List Int} {k:Nat} (h1:k<W.length) (h2:k<K.length):fitL any (W.drop k) (K.drop k) =
  if W[k]=0 then (if any=0 then fitL K[k] (W.drop (k+1)) (K.drop (k+1)) else if K[k]=any then fitL any (W.drop (k+1)) (K.drop (k+1)) else none) else if K[k]=W[k] then fitL any (W.drop (k+1)) (K.drop (k+1)) else none:=by
 rw [List.drop_eq_getElem_cons h1,List.drop_eq_getElem_cons h2,fitL]

theorem l3type_any (op:Int) (h:opOK op) (a:Option Addr) (n c:Nat) (K:List Int) (w:World) (hK:Ints w a n c K) (hl:(rowL op).1.length≤n) :
  Calls Tryz.prog 119 #[.int .i64 op,.slice a n c] w fun r w'=>r=.returned (.int .i64 (typeL op K))∧Below w.heap.size w w':=by
 have HR:=hide (l3row_any op h w)
 obtain ⟨W,hW⟩:∃ W,W=(rowL op).1:=⟨_,rfl⟩
 obtain ⟨o,ho⟩:∃ o,o=(rowL op).2:=⟨_,rfl⟩
 have HT:=hide (show typeL op K=match fitL 0 W K with | none=>0 | some any=>if o=0 then any else o by rw [hW,ho];rfl)
 unfold RwAns at HR
 rw [← hW,← ho] at HR
 rw [← hW] at hl
 have HL:=hide hl
 have HKl:=hide hK.len
 have hn:=hK.small
 clear hW ho hl h
 go_enter Tryz.func119,Tryz.ntmps119
 go_wp2_with fail
 refine (uh HR).mono ?_
 rintro r w1 ⟨⟨x,m,c1,rfl,I1⟩,hb1⟩
 have HM:=hide I1.len
 have K1:=hK.below hb1 nl
 have hm:=I1.small
 dsimp only
 go_wp2_with fail
 go_loopw [7,17] (fun v i wr=>∃ (k:Nat) (any:Int),k≤m∧v=.int .i64 any∧i=.int .i64 k∧Below w1.heap.size w1 wr∧Hid (fitL 0 W K=fitL any (W.drop k) (K.drop k))) (fun _ i _=>m - (intOf i).toNat)
 case atStart=>exact ⟨0,0,by omega,rfl,rfl,Below.refl _ _,hide rfl⟩
 case round =>
  obtain ⟨k,any,hk,rfl,rfl,D1,HF⟩:=hrel
  by_cases hlt:k<m
  ·have ilt:(k:Int)<(m:Int):=by omega
   have h1:k<W.length:=by rw [uh HM];exact hlt
   have h2:k<K.length:=by have:=uh HL;rw [uh HKl];omega
   have i2:(k:Int)<(n:Int):=by have:=uh HKl;omega
   obtain ⟨b1,o1,rfl,hb,c0⟩:=(I1.below D1 nl).cells k h1
   obtain ⟨b2,o2,rfl,hb',c2⟩:=(K1.below D1 nl).cells k h2
   have HG:=hide ((uh HF).trans (fitL_at h1 h2))
   have HX:=hide (show (if W[k]=0 then (if any=0 then fitL K[k] (W.drop (k+1)) (K.drop (k+1)) else if K[k]=any then fitL any (W.drop (k+1)) (K.drop (k+1)) else none) else if K[k]=W[k] then fitL any (W.drop (k+1)) (K.drop (k+1)) else none)=none→typeL op K=0 from fun e=>by rw [uh HT,uh HF,fitL_at h1 h2,e])
   have Hlt:=hide hlt
   generalize fitL 0 W K=F at HG HT
   generalize W[k]=u at c0 HG HX
   generalize K[k]=v at c2 HG HX
   clear hlt h1 h2
   by_cases hu:u=0
   ·subst hu
    have z0:((0:Int) == 0)=true:=rfl
    by_cases ha:any=0
    ·subst ha
     have vv:(v != v)=false:=by simp
     have HN:=hide ((uh HG).trans (by rw [if_pos rfl,if_pos rfl]))
     clear HG HX
     go_wp2_with fail
     go_roundw
     case rel=>exact ⟨k+1,v,uh Hlt,rfl,by go_num,D1,HN⟩
     case measure=>have:=uh Hlt;simp [intOf];omega
    ·have ea:(any == 0)=false:=beq_eq_false_iff_ne.2 ha
     by_cases hv:v=any
     ·have ev:(v != any)=false:=by simp [hv]
      have HN:=hide ((uh HG).trans (by rw [if_pos rfl,if_neg ha,if_pos hv]))
      clear HG HX ha hv
      go_wp2_with fail
      go_roundw
      case rel=>exact ⟨k+1,any,uh Hlt,rfl,by go_num,D1,HN⟩
      case measure=>have:=uh Hlt;simp [intOf];omega
     ·have ev:(v != any)=true:=bne_iff_ne.2 hv
      have HN:=hide (uh HX (by rw [if_pos rfl,if_neg ha,if_neg hv]))
      clear HG HX ha hv
      go_wp2_with fail
      go_ret
      exact ⟨by rw [uh HN];rfl,hb1.trans (D1.mono hb1.size)⟩
   ·have eu:(u == 0)=false:=beq_eq_false_iff_ne.2 hu
    by_cases hv:v=u
    ·have ev:(v != u)=false:=by simp [hv]
     have HN:=hide ((uh HG).trans (by rw [if_neg hu,if_pos hv]))
     clear HG HX hu hv
     go_wp2_with fail
     go_roundw
     case rel=>exact ⟨k+1,any,uh Hlt,rfl,by go_num,D1,HN⟩
     case measure=>have:=uh Hlt;simp [intOf];omega
    ·have ev:(v != u)=true:=bne_iff_ne.2 hv
     have HN:=hide (uh HX (by rw [if_neg hu,if_neg hv]))
     clear HG HX hu hv
     go_wp2_with fail
     go_ret
     exact ⟨by rw [uh HN];rfl,hb1.trans (D1.mono hb1.size)⟩
  ·have e:k=m:=by omega
   subst e
   have HN:=hide (show typeL op K=if o=0 then any else o by
    rw [uh HT,uh HF,List.drop_of_length_le (by rw [uh HM];omega)]
    rfl)
   by_cases h0:o=0
   ·subst h0
    have HN:=hide ((uh HN).trans (if_pos rfl))
    go_wp2_with fail
    go_ret
    exact ⟨by rw [uh HN];rfl,hb1.trans (D1.mono hb1.size)⟩
   ·have e0:(o == 0)=false:=beq_eq_false_iff_ne.2 h0
    have H0:=hide h0
    clear h0
    go_wp2_with fail
    go_ret
    exact ⟨by rw [uh HN,if_neg (uh H0)];rfl,hb1.trans (D1.mono hb1.size)⟩

end Go.Proofs.YtedlocniojlhfaaGreatDoor

namespace Go.Proofs.YtedlocniojlhfaaGreatDoor
open Go.RowKit
set_option linter.unusedVariables false

theorem typeL_un (op a:Int) (h:8≤op∧op≤10):typeL op [a]=tyOp op [a]:=by
 have:op=8∨op=9∨op=10:=by omega
 rcases this with rfl | rfl | rfl
 ·by_cases h:a=2 <;> simp [typeL,rowL,tyOp,fitL,h]
 ·by_cases h:a=1 <;> simp [typeL,rowL,tyOp,fitL,h]
 ·by_cases h:a=4 <;> simp [typeL,rowL,tyOp,fitL,h]

theorem typeL_bin (op a b:Int) (h:11≤op∧op≤26) (ha:a≠0):typeL op [a,b]=tyOp op [a,b]:=by
 have:op=11∨op=12∨op=13∨op=14∨op=15∨op=16∨op=17∨op=18∨op=19∨op=20∨op=21∨op=22∨op=23∨op=24∨op=25∨op=26:=by omega
 rcases this with rfl | rfl | rfl | rfl | rfl | rfl | rfl | rfl | rfl | rfl | rfl | rfl | rfl | rfl | rfl | rfl
 all_goals
  first
   | (by_cases e:b=a
      ·subst e;simp [typeL,rowL,tyOp,fitL,ha];done
      ·have e2:a≠b:=fun k=>e k.symm
       simp [typeL,rowL,tyOp,fitL,ha,e,e2];done)
   | (by_cases k1:a=1 <;> by_cases k2:b=1 <;> simp [typeL,rowL,tyOp,fitL,k1,k2];done)
   | (by_cases k1:a=2 <;> by_cases k2:b=2 <;> simp [typeL,rowL,tyOp,fitL,k1,k2];done)
   | (by_cases k1:a=4 <;> by_cases k2:b=4 <;> simp [typeL,rowL,tyOp,fitL,k1,k2];done)
   | (by_cases k1:a=3 <;> by_cases k2:b=4 <;> simp [typeL,rowL,tyOp,fitL,k1,k2];done)

theorem typeL_ite (a b c:Int) (hb:b≠0):typeL 27 [a,b,c]=tyOp 27 [a,b,c]:=by
 simp [typeL,rowL,tyOp,fitL,hb]
 by_cases h1:a=1 <;> by_cases h2:c=b <;> simp_all <;> omega

end Go.Proofs.YtedlocniojlhfaaGreatDoor

namespace Go.Proofs.YtedlocniojlhfaaGreatDoor
open Go.RowKit
set_option linter.unusedVariables false

def tfB (x:Nd):Bool :=
 if x.op=5 then false
 else if x.op=6 then decide (0≤x.num∧x.num<6) && decide (x.text.size=0) && decide (x.names.length=0)
 else if x.op=7∨x.op=1 then decide (x.text.size=0) && decide (x.names.length=0)
 else wfB x

def fieldsT (x:Nd):Bool:=decide ((x.kids.length:Int)=kidN x.op) && tfB x

def fieldsU (x:Nd):Bool :=
 decide ((x.kids.length:Int)=kidN x.op) &&
 (if x.op=1 then decide (x.text.size=0) && decide (x.names.length=0)
   else if x.op=2 then quotedB x.text && decide (x.num=0) && decide (x.names.length=0)
   else if x.op=3 then decide (x.num=0∨x.num=1) && decide (x.text.size=0) && decide (x.names.length=0)
   else if x.op=4 then setB x.names && decide (x.num=0) && decide (x.text.size=0)
   else if x.op=5 then false
   else if x.op=6 then decide (0≤x.num∧x.num≤5) && decide (x.text.size=0) && decide (x.names.length=0)
   else if x.op=7 then decide (0≤x.num∧x.num<600) && decide (x.text.size=0) && decide (x.names.length=0)
   else decide (x.num=0) && decide (x.text.size=0) && decide (x.names.length=0))

theorem fieldsU_iff (x:Nd):fieldsU x=true↔fieldsT x=true∧(x.op=7→0≤x.num∧x.num<600):=by
 unfold fieldsU fieldsT tfB wfB
 by_cases h1:x.op=1
 ·simp [h1]
 by_cases h2:x.op=2
 ·simp [h2]
 by_cases h3:x.op=3
 ·simp [h3]
 by_cases h4:x.op=4
 ·simp [h4]
 by_cases h5:x.op=5
 ·simp [h5]
 by_cases h6:x.op=6
 ·simp only [h6]
  simp
  omega
 by_cases h7:x.op=7
 ·simp only [h7]
  simp
  constructor
  ·rintro ⟨a,⟨⟨b,c⟩,d⟩,e⟩;exact ⟨⟨a,d,e⟩,b,c⟩
  ·rintro ⟨⟨a,d,e⟩,b,c⟩;exact ⟨a,⟨⟨b,c⟩,d⟩,e⟩
 ·simp [h1,h2,h3,h4,h5,h6,h7]

end Go.Proofs.YtedlocniojlhfaaGreatDoor

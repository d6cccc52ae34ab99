/-
  Meet, twice, and its law. Own work.
-/
import Derived.Test.YtajfgmlbeaogkacDoorSlices
import Derived.Test.YtajfgmlbeaogkacDoorOwn
import Derived.Test.YtajfgmlbeaogkacDoorMB
namespace Go.Proofs.YtajfgmlbeaogkacDoor
open Go.RowKit

def meetL (ss tt : List ByteArray) : List ByteArray := if setB ss && setB tt then pick ss tt true else []

theorem meet_parts {ss : List ByteArray} (h : setB ss = true) : ss.length ≤ 64 ∧ risB ss = true := by
  simp [setB] at h; exact ⟨h.1, h.2.2⟩

theorem meet_sizes (ss tt : List ByteArray) (h : ∀ j, j < ss.length → (nth ss j).size ≤ maxLen) : ∀ j, j < (meetL ss tt).length → (nth (meetL ss tt) j).size ≤ maxLen := by
  unfold meetL
  split
  · exact sizes_pick ss tt true h
  · intro j hj; simp at hj

theorem meet_len (ss tt : List ByteArray) : (meetL ss tt).length ≤ ss.length := by
  unfold meetL
  split
  · exact pick_len _ _ _
  · simp

/-- what the two answer -/
def meetAns (w : World) (ss tt : List ByteArray) (e : Ending) (w' : World) : Prop :=
  ∃ x cx, e = .returned (.slice x (meetL ss tt).length cx) ∧ w'.ownsRow w.heap.size 9 1 (.slice x (meetL ss tt).length cx) (meetL ss tt).length ((meetL ss tt).map Value.string) ∧ Below w.heap.size w w'

theorem meetAns_nil {w w' : World} {ss tt : List ByteArray} (h : meetL ss tt = []) (hb : Below w.heap.size w w') : meetAns w ss tt (.returned (.slice none 0 0)) w' := by
  unfold meetAns
  rw [h]
  exact ⟨none, 0, rfl, World.ownsRow_nil _ _ _ _, hb⟩

set_option maxHeartbeats 800000 in
theorem iMeet_any (a : Option Addr) (n c : Nat) (ss : List ByteArray) (a' : Option Addr) (n' c' : Nat) (tt : List ByteArray) (w : World) (h : Strs w a n c ss) (h' : Strs w a' n' c' tt) :
    Calls Tryd.prog 21 #[.slice a n c, .slice a' n' c'] w fun e w' => meetAns w ss tt e w' := by
  cases v1 : setB ss
  · have Hn := hide (show meetL ss tt = [] by simp [meetL, v1])
    go_enter Tryd.func21, Tryd.ntmps21
    go_wp2_with fail
    refine (iIsSet_any _ _ _ _ _ h).mono ?_
    rintro e w1 ⟨rfl, hb1⟩
    rw [v1]
    go_wp2_with fail
    go_ret
    exact meetAns_nil (unhide Hn) hb1
  · cases v2 : setB tt
    · have Hn := hide (show meetL ss tt = [] by simp [meetL, v2])
      go_enter Tryd.func21, Tryd.ntmps21
      go_wp2_with fail
      refine (iIsSet_any _ _ _ _ _ h).mono ?_
      rintro e w1 ⟨rfl, hb1⟩
      rw [v1]
      go_wp2_with fail
      refine (iIsSet_any _ _ _ _ _ (h'.below hb1 (Nat.le_refl _))).mono ?_
      rintro e w2 ⟨rfl, hb2⟩
      rw [v2]
      go_wp2_with fail
      go_ret
      exact meetAns_nil (unhide Hn) (hb1.trans (hb2.mono hb1.size))
    · obtain ⟨hn, hr⟩ := meet_parts v1
      obtain ⟨hn', hr'⟩ := meet_parts v2
      have Hr := hide hr
      have Hr' := hide hr'
      clear hr hr'
      have Hn := hide (show meetL ss tt = pick ss tt true by simp [meetL, v1, v2])
      go_enter Tryd.func21, Tryd.ntmps21
      go_wp2_with fail
      refine (iIsSet_any _ _ _ _ _ h).mono ?_
      rintro e w1 ⟨rfl, hb1⟩
      rw [v1]
      go_wp2_with fail
      refine (iIsSet_any _ _ _ _ _ (h'.below hb1 (Nat.le_refl _))).mono ?_
      rintro e w2 ⟨rfl, hb2⟩
      rw [v2]
      have B2 := hb1.trans (hb2.mono hb1.size)
      go_wp2_with fail
      refine (merge_KB _ _ _ _ _ _ _ _ _ (h.below B2 (Nat.le_refl _)) (h'.below B2 (Nat.le_refl _)) (unhide Hr) (unhide Hr') (by have := h.len; omega) (by have := h'.len; omega)).mono ?_
      rintro e w3 ⟨x, cx, K, rfl, ho, hb3, hK⟩
      have HK := hide hK.last
      clear hK
      go_wp2_with fail
      go_ret
      have e1 : K = meetL ss tt := by rw [unhide HK, unhide Hn]
      subst e1
      exact ⟨x, cx, rfl, owns_mono ho B2.size, B2.trans (hb3.mono B2.size)⟩

end Go.Proofs.YtajfgmlbeaogkacDoor

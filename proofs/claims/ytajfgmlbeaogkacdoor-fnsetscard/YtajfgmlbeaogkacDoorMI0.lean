/-
  Minus, twice, and its law. Own work.
-/
import Derived.Test.YtajfgmlbeaogkacDoorSlices
import Derived.Test.YtajfgmlbeaogkacDoorOwn
import Derived.Test.YtajfgmlbeaogkacDoorML
namespace Go.Proofs.YtajfgmlbeaogkacDoor
open Go.RowKit

def minusL (ss tt : List ByteArray) : List ByteArray := if setB ss && setB tt then pick ss tt false else []

theorem minus_parts {ss : List ByteArray} (h : setB ss = true) : ss.length ≤ 64 ∧ risB ss = true := by
  simp [setB] at h; exact ⟨h.1, h.2.2⟩

theorem minus_sizes (ss tt : List ByteArray) (h : ∀ j, j < ss.length → (nth ss j).size ≤ maxLen) : ∀ j, j < (minusL ss tt).length → (nth (minusL ss tt) j).size ≤ maxLen := by
  unfold minusL
  split
  · exact sizes_pick ss tt false h
  · intro j hj; simp at hj

theorem minus_len (ss tt : List ByteArray) : (minusL ss tt).length ≤ ss.length := by
  unfold minusL
  split
  · exact pick_len _ _ _
  · simp

/-- what the two answer -/
def minusAns (w : World) (ss tt : List ByteArray) (e : Ending) (w' : World) : Prop :=
  ∃ x cx, e = .returned (.slice x (minusL ss tt).length cx) ∧ w'.ownsRow w.heap.size 9 1 (.slice x (minusL ss tt).length cx) (minusL ss tt).length ((minusL ss tt).map Value.string) ∧ Below w.heap.size w w'

theorem minusAns_nil {w w' : World} {ss tt : List ByteArray} (h : minusL ss tt = []) (hb : Below w.heap.size w w') : minusAns w ss tt (.returned (.slice none 0 0)) w' := by
  unfold minusAns
  rw [h]
  exact ⟨none, 0, rfl, World.ownsRow_nil _ _ _ _, hb⟩

set_option maxHeartbeats 800000 in
theorem iMinus_any (a : Option Addr) (n c : Nat) (ss : List ByteArray) (a' : Option Addr) (n' c' : Nat) (tt : List ByteArray) (w : World) (h : Strs w a n c ss) (h' : Strs w a' n' c' tt) :
    Calls Tryd.prog 22 #[.slice a n c, .slice a' n' c'] w fun e w' => minusAns w ss tt e w' := by
  cases v1 : setB ss
  · have Hn := hide (show minusL ss tt = [] by simp [minusL, v1])
    go_enter Tryd.func22, Tryd.ntmps22
    go_wp2_with fail
    refine (iIsSet_any _ _ _ _ _ h).mono ?_
    rintro e w1 ⟨rfl, hb1⟩
    rw [v1]
    go_wp2_with fail
    go_ret
    exact minusAns_nil (unhide Hn) hb1
  · cases v2 : setB tt
    · have Hn := hide (show minusL ss tt = [] by simp [minusL, v2])
      go_enter Tryd.func22, Tryd.ntmps22
      go_wp2_with fail
      refine (iIsSet_any _ _ _ _ _ h).mono ?_
      rintro e w1 ⟨rfl, hb1⟩
      rw [v1]
      go_wp2_with fail
      refine (iIsSet_any _ _ _ _ _ (h'.below hb1 (Nat.le_refl _))).mono ?_
      rintro e w2 ⟨rfl, hb2⟩
      rw [v2]
      go_wp2_with fail
      go_ret
      exact minusAns_nil (unhide Hn) (hb1.trans (hb2.mono hb1.size))
    · obtain ⟨hn, hr⟩ := minus_parts v1
      obtain ⟨hn', hr'⟩ := minus_parts v2
      have Hr := hide hr
      have Hr' := hide hr'
      clear hr hr'
      have Hn := hide (show minusL ss tt = pick ss tt false by simp [minusL, v1, v2])
      go_enter Tryd.func22, Tryd.ntmps22
      go_wp2_with fail
      refine (iIsSet_any _ _ _ _ _ h).mono ?_
      rintro e w1 ⟨rfl, hb1⟩
      rw [v1]
      go_wp2_with fail
      refine (iIsSet_any _ _ _ _ _ (h'.below hb1 (Nat.le_refl _))).mono ?_
      rintro e w2 ⟨rfl, hb2⟩
      rw [v2]
      have B2 := hb1.trans (hb2.mono hb1.size)
      go_wp2_with fail
      refine (merge_KL _ _ _ _ _ _ _ _ _ (h.below B2 (Nat.le_refl _)) (h'.below B2 (Nat.le_refl _)) (unhide Hr) (unhide Hr') (by have := h.len; omega) (by have := h'.len; omega)).mono ?_
      rintro e w3 ⟨x, cx, K, rfl, ho, hb3, hK⟩
      have HK := hide hK.last
      clear hK
      go_wp2_with fail
      go_ret
      have e1 : K = minusL ss tt := by rw [unhide HK, unhide Hn]
      subst e1
      exact ⟨x, cx, rfl, owns_mono ho B2.size, B2.trans (hb3.mono B2.size)⟩

end Go.Proofs.YtajfgmlbeaogkacDoor

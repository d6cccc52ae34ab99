/-
  Within. Own work.
-/
import Derived.Test.YtajfgmlbeaogkacDoorML
import Derived.Test.YtajfgmlbeaogkacDoorPickP
import Derived.WalkKit
import Derived.Below
namespace Go.Proofs.YtajfgmlbeaogkacDoor
open Go.RowKit

def withinB (ss tt : List ByteArray) : Bool := setB ss && (setB tt && decide ((pick ss tt false).length = 0))

theorem set_parts {ss : List ByteArray} (h : setB ss = true) : ss.length ≤ 64 ∧ risB ss = true := by
  simp [setB] at h; exact ⟨h.1, h.2.2⟩

set_option maxHeartbeats 800000 in
theorem iWithin_any (a : Option Addr) (n c : Nat) (ss : List ByteArray) (a' : Option Addr) (n' c' : Nat) (tt : List ByteArray) (w : World) (h : Strs w a n c ss) (h' : Strs w a' n' c' tt) :
    Calls Tryd.prog 23 #[.slice a n c, .slice a' n' c'] w fun e w' => e = .returned (.bool (withinB ss tt)) ∧ Below w.heap.size w w' := by
  cases v1 : setB ss
  · go_enter Tryd.func23, Tryd.ntmps23
    go_wp2_with fail
    refine (iIsSet_any _ _ _ _ _ h).mono ?_
    rintro e w1 ⟨rfl, hb1⟩
    go_wp2_with fail
    go_ret
    exact ⟨ret_bool (by simp [withinB, v1]), hb1⟩
  · cases v2 : setB tt
    · go_enter Tryd.func23, Tryd.ntmps23
      go_wp2_with fail
      refine (iIsSet_any _ _ _ _ _ h).mono ?_
      rintro e w1 ⟨rfl, hb1⟩
      go_wp2_with fail
      refine (iIsSet_any _ _ _ _ _ (h'.below hb1 (Nat.le_refl _))).mono ?_
      rintro e w2 ⟨rfl, hb2⟩
      go_wp2_with fail
      go_ret
      exact ⟨ret_bool (by simp [withinB, v2]), hb1.trans (hb2.mono hb1.size)⟩
    · obtain ⟨hn, hr⟩ := set_parts v1
      obtain ⟨hn', hr'⟩ := set_parts v2
      have Hr := hide hr
      have Hr' := hide hr'
      clear hr hr'
      go_enter Tryd.func23, Tryd.ntmps23
      go_wp2_with fail
      refine (iIsSet_any _ _ _ _ _ h).mono ?_
      rintro e w1 ⟨rfl, hb1⟩
      go_wp2_with fail
      refine (iIsSet_any _ _ _ _ _ (h'.below hb1 (Nat.le_refl _))).mono ?_
      rintro e w2 ⟨rfl, hb2⟩
      have B2 := hb1.trans (hb2.mono hb1.size)
      go_wp2_with fail
      refine (merge_KL _ _ _ _ _ _ _ _ _ (h.below B2 (Nat.le_refl _)) (h'.below B2 (Nat.le_refl _)) (unhide Hr) (unhide Hr') (by have := h.len; omega) (by have := h'.len; omega)).mono ?_
      rintro e w3 ⟨x, cx, K, rfl, ho, hb3, hK⟩
      clear ho
      have HK := hide hK.last
      clear hK
      go_wp2_with fail
      go_ret
      refine ⟨ret_bool ?_, B2.trans (hb3.mono B2.size)⟩
      rw [unhide HK]
      simp only [withinB, v1, v2, Bool.true_and]
      rw [Bool.eq_iff_iff]; simp

end Go.Proofs.YtajfgmlbeaogkacDoor

/-
  The walks over slices of names: allNames. Own work.
-/
import Derived.Test.YtbdplgelkgngmaaGreatDoorNames
import Derived.Test.YtbdplgelkgngmaaGreatDoorMHA
import Derived.RegionTactic
import Derived.ChangeAlike
import Derived.Deep.QuietTactic
import Derived.BigQuiet
namespace Go.Proofs.YtbdplgelkgngmaaGreatDoor
open Go.RowKit

set_option maxHeartbeats 800000 in
theorem allNames_any (a : Option Addr) (n c : Nat) (ss : List ByteArray) (w : World) (h : Strs w a n c ss) :
    Calls Tryz.prog 78 #[.slice a n c] w fun e w' => e = .returned (.bool (allB ss)) ∧ w' = w := by
  have hn : n ≤ 9223372036854775807 := by have := h.cap; have := h.small; unfold maxLen at this; omega
  go_enter Tryz.func78, Tryz.ntmps78
  go_wp2
  go_loop [4, 7] (fun _ i => ∃ k : Nat, k ≤ n ∧ i = .int .i64 k ∧ ∀ j, j < k → vnB (nth ss j) = true) (fun _ i => n - (intOf i).toNat)
  case atStart => exact ⟨0, Nat.zero_le _, rfl, fun j hj => by omega⟩
  case round =>
    obtain ⟨k, hk, rfl, ha⟩ := hrel
    have Ha := hide ha
    clear ha
    by_cases hlt : k < n
    · obtain ⟨b, off, ha', _, hc⟩ := h.cells k hlt
      have hsz := h.sizes k hlt
      subst ha'
      cases hv : vnB (nth ss k)
      · have Hv := hide hv
        have Hf := hide (allB_not ss k (by have := h.len; omega) hv)
        clear hv
        go_wp2_with (go_at_call 88; refine (iValidName_any _ _ hsz).mono ?_; rintro e w' ⟨rfl, rfl⟩; rw [unhide Hv])
        go_ret
        exact ⟨ret_bool (unhide Hf).symm, rfl⟩
      · have Hv := hide hv
        clear hv
        go_wp2_with (go_at_call 88; refine (iValidName_any _ _ hsz).mono ?_; rintro e w' ⟨rfl, rfl⟩; rw [unhide Hv])
        go_round
        case rel =>
          refine ⟨k + 1, by omega, by go_num, fun j hj => ?_⟩
          by_cases e : j = k
          · subst e; exact unhide Hv
          · exact unhide Ha j (by omega)
        case measure => simp [intOf]; omega
    · go_wp2
      go_ret
      exact ⟨ret_bool (allB_of ss fun j hj => unhide Ha j (by have := h.len; omega)).symm, rfl⟩

end Go.Proofs.YtbdplgelkgngmaaGreatDoor

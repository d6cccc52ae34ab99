/-
  The walks over names: ValidName, its parts. Own work.
-/
import Derived.Test.YtcehablmloleaaaGreatDoorMXAA
import Derived.WalkKit
import Derived.WalkSpells
import Derived.WalkLawsBesides
namespace Go.Proofs.YtcehablmloleaaaGreatDoor
open Go.RowKit

set_option maxHeartbeats 800000 in
theorem l1nameByte_any (c : Int) (w : World) :
    Calls Tryz.prog 50 #[.int .u8 c] w fun e w' => e = .returned (.bool (nmI c)) ∧ w' = w := by
  go_enter Tryz.func50, Tryz.ntmps50
  go_wp2
  all_goals
    go_ret
    refine ⟨ret_bool ?_, rfl⟩
    rw [Bool.eq_iff_iff]
    simp_all [nmI]
    try omega

set_option maxHeartbeats 800000 in
theorem nameByte_any (c : Int) (w : World) :
    Calls Tryz.prog 93 #[.int .u8 c] w fun e w' => e = .returned (.bool (nmI c)) ∧ w' = w := by
  go_enter Tryz.func93, Tryz.ntmps93
  go_wp2_with (go_at_call 73; refine (isDigit_any _ _).mono ?_; rintro e w' ⟨rfl, rfl⟩)
  all_goals
    go_ret
    refine ⟨ret_bool ?_, rfl⟩
    rw [Bool.eq_iff_iff]
    simp_all [nmI, dgI]
    try omega

end Go.Proofs.YtcehablmloleaaaGreatDoor

/-
  The walk over isDigit. Own work.
-/
import Derived.Test.YtecfjbdeiemclaaDoorTL
import Derived.WalkKit
import Derived.WalkSpells
import Derived.WalkLawsBesides
namespace Go.Proofs.YtecfjbdeiemclaaDoor
open Go.RowKit

set_option maxHeartbeats 400000 in
theorem isDigit_any (c : Int) (w : World) :
    Calls Tryd.prog 34 #[.int .u8 c] w fun e w' => e = .returned (.bool (dgI c)) ∧ w' = w := by
  go_enter Tryd.func34, Tryd.ntmps34
  go_wp2
  all_goals
    go_ret
    refine ⟨ret_bool ?_, rfl⟩
    rw [Bool.eq_iff_iff]
    simp_all [dgI]
    try omega

end Go.Proofs.YtecfjbdeiemclaaDoor

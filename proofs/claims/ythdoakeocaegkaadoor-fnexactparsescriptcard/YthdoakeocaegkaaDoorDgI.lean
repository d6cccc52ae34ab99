/-
  The walk over isDigit. Own work.
-/
import Derived.Test.YthdoakeocaegkaaDoorTL
import Derived.WalkKit
import Derived.WalkSpells
import Derived.WalkLawsBesides
namespace Go.Proofs.YthdoakeocaegkaaDoor
open Go.RowKit

set_option maxHeartbeats 400000 in
theorem isDigit_any (c : Int) (w : World) :
    Calls Tryd.prog 27 #[.int .u8 c] w fun e w' => e = .returned (.bool (dgI c)) ∧ w' = w := by
  go_enter Tryd.func27, Tryd.ntmps27
  go_wp2
  all_goals
    go_ret
    refine ⟨ret_bool ?_, rfl⟩
    rw [Bool.eq_iff_iff]
    simp_all [dgI]
    try omega

end Go.Proofs.YthdoakeocaegkaaDoor

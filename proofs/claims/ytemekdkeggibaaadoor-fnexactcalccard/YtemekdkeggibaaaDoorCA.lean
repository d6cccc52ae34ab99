/-
  FnExactCalc: the law, its row, its card. Own work.
-/
import Derived.Test.YtemekdkeggibaaaDoorCalc2
import Derived.Test.YtemekdkeggibaaaDoorCalc6
import Derived.Test.YtemekdkeggibaaaDoorSent4
namespace Go.Proofs.YtemekdkeggibaaaDoor
open Go.ChangeShapes Go.WideShapes Go.ChangeAt Go.RowKit

set_option maxHeartbeats 800000 in
theorem fnExactCalc_walk {aS aO aZ aW : Addr} (op a b : Int) (w : World) (hs : Sent w aS aO aZ aW) (ha : I64 a) (hb : I64 b) :
    Calls Tryd.prog 3 #[.int .i64 op, .int .i64 a, .int .i64 b] w fun e w' => e = .returned (.bool true) ∧ Below w.heap.size w w' := by
  go_enter Tryd.func3, Tryd.ntmps3
  go_wp2_with fail
  refine (sCalc_any op ha hb).mono ?_
  rintro e w1 ⟨rfl, hb1⟩
  generalize hc : calcF op a b = c
  have Hc := hide hc
  clear hc
  go_wp2_with fail
  refine (iCalc_any op a b w1 (hs.below hb1 (Nat.le_refl _)) ha hb).mono ?_
  rintro e w2 ⟨rfl, hb2⟩
  rw [unhide Hc]
  clear Hc
  go_wp2
  go_ret
  exact ⟨rfl, hb1.trans (hb2.mono hb1.size)⟩

end Go.Proofs.YtemekdkeggibaaaDoor

/-
  DERIVED. GIVEN WITH THE SEED: THE PROGRAM's TIES (one call each: nine closed facts by the kernel) AND EACH ROW's TIE, after the 31st guide's Derived/Test/Toyas{Tie, Card}.lean. No idea stands in it: it is a product of the set-up. Laid BY PROGRAM, IN A SANDBOX (cutbox-door.mjs). By AI agents, Wed Nov 11 2026. No macro, syntax, notation, axiom, sorry.
-/
import Derived.Test.YtemekdkeggibaaaDoorRows
import Derived.LaidByTextLater
import Derived.SevenTiedAt
import Derived.LaidSub
import Derived.LaidOnce
namespace Go.Proofs.YtemekdkeggibaaaDoor
open Go
set_option maxRecDepth 100000
theorem seatTie1 : Tryd.prog.laidByTextLater [("loop.example/s01308/impl.errOverflow", Rows.laid_loop_example_s01308_impl_errOverflow), ("loop.example/s01308/impl.errZero", Rows.laid_loop_example_s01308_impl_errZero), ("loop.example/s01308/impl.errWidth", Rows.laid_loop_example_s01308_impl_errWidth), ("loop.example/s01308/impl.errShape", Rows.laid_loop_example_s01308_impl_errShape)] [.sentinel, .sentinel, .sentinel, .sentinel] true :=
  Program.laidByTextLater_by_one 85 8 2 (by kernel_rfl) (by kernel_rfl) (by kernel_rfl) (by kernel_rfl) (by kernel_rfl) (by kernel_rfl) (fun _ _ => by kernel_rfl)
theorem noOwnUnsafe : Tryd.pinned.checked.prog.headLifts.contains "ownunsafe" = false := by kernel_rfl
theorem tie : Tryd.prog.laidByTextLater [("loop.example/s01308/impl.errOverflow", Rows.laid_loop_example_s01308_impl_errOverflow), ("loop.example/s01308/impl.errZero", Rows.laid_loop_example_s01308_impl_errZero), ("loop.example/s01308/impl.errWidth", Rows.laid_loop_example_s01308_impl_errWidth), ("loop.example/s01308/impl.errShape", Rows.laid_loop_example_s01308_impl_errShape)] [.sentinel, .sentinel, .sentinel, .sentinel] true :=
  Program.laidByTextLater.sub seatTie1 ["loop.example/s01308/impl.errOverflow", "loop.example/s01308/impl.errZero", "loop.example/s01308/impl.errWidth", "loop.example/s01308/impl.errShape"] (by kernel_rfl) (by kernel_rfl)
theorem fnExactCalc_row_tie : Rows.fnExactCalcRow.laidByTextAt .later Tryd.pinned [.sentinel, .sentinel, .sentinel, .sentinel] true :=
  OpenClaim.laidByTextAt_later rfl rfl tie noOwnUnsafe
theorem fnNumbers_row_tie : Rows.fnNumbersRow.laidByTextAt .later Tryd.pinned [.sentinel, .sentinel, .sentinel, .sentinel] true :=
  OpenClaim.laidByTextAt_later rfl rfl tie noOwnUnsafe
theorem fnExactCalcUpto_row_tie : Rows.fnExactCalcUptoRow.laidByTextAt .later Tryd.pinned [.sentinel, .sentinel, .sentinel, .sentinel] true :=
  OpenClaim.laidByTextAt_later rfl rfl tie noOwnUnsafe
theorem fnNumbersUpto_row_tie : Rows.fnNumbersUptoRow.laidByTextAt .later Tryd.pinned [.sentinel, .sentinel, .sentinel, .sentinel] true :=
  OpenClaim.laidByTextAt_later rfl rfl tie noOwnUnsafe
end Go.Proofs.YtemekdkeggibaaaDoor

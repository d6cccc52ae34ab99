/-
  DERIVED. GIVEN WITH THE SEED: THE PROGRAM's TIES (one call each: nine closed facts by the kernel) AND EACH ROW's TIE, after the 31st guide's Derived/Test/Toyas{Tie, Card}.lean. No idea stands in it: it is a product of the set-up. Laid BY PROGRAM, IN A SANDBOX (cutbox-door.mjs). By AI agents, Wed Nov 11 2026. No macro, syntax, notation, axiom, sorry.
-/
import Derived.Test.YtlcfoihgfcmfeaaGreatDoorRows
import Derived.LaidByTextLater
import Derived.SevenTiedAt
import Derived.LaidSub
import Derived.LaidOnce
namespace Go.Proofs.YtlcfoihgfcmfeaaGreatDoor
open Go
set_option maxRecDepth 100000
theorem seatTie1 : Tryz.prog.laidByTextLater [("loop.example/s01308/impl.errOverflow", Rows.laid_loop_example_s01308_impl_errOverflow), ("loop.example/s01308/impl.errZero", Rows.laid_loop_example_s01308_impl_errZero), ("loop.example/s01308/impl.errWidth", Rows.laid_loop_example_s01308_impl_errWidth), ("loop.example/s01308/impl.errShape", Rows.laid_loop_example_s01308_impl_errShape), ("loop.example/s01308/impl.errName", Rows.laid_loop_example_s01308_impl_errName), ("loop.example/s01308/impl.errAgain", Rows.laid_loop_example_s01308_impl_errAgain), ("loop.example/s01308/impl.errType", Rows.laid_loop_example_s01308_impl_errType), ("loop.example/s01308/impl.binaryOperators", Rows.laid_loop_example_s01308_impl_binaryOperators), ("loop.example/s01308/impl.attributes", Rows.laid_loop_example_s01308_impl_attributes), ("loop.example/s01308/impl.signatures", Rows.laid_loop_example_s01308_impl_signatures)] [.sentinel, .sentinel, .sentinel, .sentinel, .sentinel, .sentinel, .sentinel, .data, .data, .data] true :=
  Program.laidByTextLater_by_one 196 8 69 (by kernel_rfl) (by kernel_rfl) (by kernel_rfl) (by kernel_rfl) (by kernel_rfl) (by kernel_rfl) (fun _ _ => by kernel_rfl)
theorem noOwnUnsafe : Tryz.pinned.checked.prog.headLifts.contains "ownunsafe" = false := by kernel_rfl
theorem tie : Tryz.prog.laidByTextLater [("loop.example/s01308/impl.errOverflow", Rows.laid_loop_example_s01308_impl_errOverflow), ("loop.example/s01308/impl.errZero", Rows.laid_loop_example_s01308_impl_errZero), ("loop.example/s01308/impl.errWidth", Rows.laid_loop_example_s01308_impl_errWidth), ("loop.example/s01308/impl.errShape", Rows.laid_loop_example_s01308_impl_errShape), ("loop.example/s01308/impl.errName", Rows.laid_loop_example_s01308_impl_errName), ("loop.example/s01308/impl.errAgain", Rows.laid_loop_example_s01308_impl_errAgain), ("loop.example/s01308/impl.errType", Rows.laid_loop_example_s01308_impl_errType), ("loop.example/s01308/impl.binaryOperators", Rows.laid_loop_example_s01308_impl_binaryOperators), ("loop.example/s01308/impl.attributes", Rows.laid_loop_example_s01308_impl_attributes), ("loop.example/s01308/impl.signatures", Rows.laid_loop_example_s01308_impl_signatures)] [.sentinel, .sentinel, .sentinel, .sentinel, .sentinel, .sentinel, .sentinel, .data, .data, .data] true :=
  Program.laidByTextLater.sub seatTie1 ["loop.example/s01308/impl.errOverflow", "loop.example/s01308/impl.errZero", "loop.example/s01308/impl.errWidth", "loop.example/s01308/impl.errShape", "loop.example/s01308/impl.errName", "loop.example/s01308/impl.errAgain", "loop.example/s01308/impl.errType", "loop.example/s01308/impl.binaryOperators", "loop.example/s01308/impl.attributes", "loop.example/s01308/impl.signatures"] (by kernel_rfl) (by kernel_rfl)
theorem fnOptimized_row_tie : Rows.fnOptimizedRow.laidByTextAt .later Tryz.pinned [.sentinel, .sentinel, .sentinel, .sentinel, .sentinel, .sentinel, .sentinel, .data, .data, .data] true :=
  OpenClaim.laidByTextAt_later rfl rfl tie noOwnUnsafe
theorem fnOptimizedUpto_row_tie : Rows.fnOptimizedUptoRow.laidByTextAt .later Tryz.pinned [.sentinel, .sentinel, .sentinel, .sentinel, .sentinel, .sentinel, .sentinel, .data, .data, .data] true :=
  OpenClaim.laidByTextAt_later rfl rfl tie noOwnUnsafe
end Go.Proofs.YtlcfoihgfcmfeaaGreatDoor

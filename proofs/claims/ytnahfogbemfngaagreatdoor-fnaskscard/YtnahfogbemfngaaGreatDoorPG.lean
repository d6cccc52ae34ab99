/-
  A struct of four cells, written over. Own work.
-/
import Derived.Test.YtnahfogbemfngaaGreatDoorPC
namespace Go.Proofs.YtnahfogbemfngaaGreatDoor
open Go.RowKit
set_option linter.unusedVariables false

theorem put4_owns {W : World} {b lo n c : Nat} {a : Option Addr} {xs : List Value} (h : W.ownsRow lo 9 1 (.slice a n c) n xs) (hb : b < lo) (v0 v1 v2 v3 : Value) : (put4 W b v0 v1 v2 v3).ownsRow lo 9 1 (.slice a n c) n xs :=
  owns_of_block h (fun x hx => put4_block W b _ v0 v1 v2 v3 (by
    have : lo ≤ x.block := by subst hx; exact (h.lt _ rfl).1
    omega))

end Go.Proofs.YtnahfogbemfngaaGreatDoor

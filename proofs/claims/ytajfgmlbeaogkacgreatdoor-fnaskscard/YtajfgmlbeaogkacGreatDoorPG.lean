/-
  A struct of four cells, written over. Own work.
-/
import Derived.Test.YtajfgmlbeaogkacGreatDoorPC
namespace Go.Proofs.YtajfgmlbeaogkacGreatDoor
open Go.RowKit
set_option linter.unusedVariables false

/-- four cells of a block, written over -/
def put4 (W : World) (b : Nat) (v0 v1 v2 v3 : Value) : World := (((W.setCell ⟨b, 0, none⟩ v0).setCell ⟨b, 1, none⟩ v1).setCell ⟨b, 2, none⟩ v2).setCell ⟨b, 3, none⟩ v3

theorem put4_block (W : World) (b k : Nat) (v0 v1 v2 v3 : Value) (h : k ≠ b) : (put4 W b v0 v1 v2 v3).heap[k]? = W.heap[k]? := by
  unfold put4
  rw [heap_setCell_other _ _ _ _ h, heap_setCell_other _ _ _ _ h, heap_setCell_other _ _ _ _ h, heap_setCell_other _ _ _ _ h]

theorem put4_size (W : World) (b : Nat) (v0 v1 v2 v3 : Value) : (put4 W b v0 v1 v2 v3).heap.size = W.heap.size := by simp [put4]

theorem put4_row {W : World} {b : Nat} {u0 u1 u2 u3 : Value} {t : TypeId} (h : Row W b #[u0, u1, u2, u3] t) (v0 v1 v2 v3 : Value) : Row (put4 W b v0 v1 v2 v3) b #[v0, v1, v2, v3] t := by
  have e : ((((#[u0, u1, u2, u3].setIfInBounds 0 v0).setIfInBounds 1 v1).setIfInBounds 2 v2).setIfInBounds 3 v3) = #[v0, v1, v2, v3] := rfl
  have := (((h.set 0 v0).set 1 v1).set 2 v2).set 3 v3
  rw [e] at this
  exact this

theorem put4_below {B : Nat} {w W : World} {b : Nat} (h : Below B w W) (hb : B ≤ b) (v0 v1 v2 v3 : Value) : Below B w (put4 W b v0 v1 v2 v3) :=
  (((h.setCell (p := ⟨b, 0, none⟩) hb v0).setCell (p := ⟨b, 1, none⟩) hb v1).setCell (p := ⟨b, 2, none⟩) hb v2).setCell (p := ⟨b, 3, none⟩) hb v3

theorem put4_owns {W : World} {b lo n c : Nat} {a : Option Addr} {xs : List Value} (h : W.ownsRow lo 9 1 (.slice a n c) n xs) (hb : b < lo) (v0 v1 v2 v3 : Value) : (put4 W b v0 v1 v2 v3).ownsRow lo 9 1 (.slice a n c) n xs :=
  owns_of_block h (fun x hx => put4_block W b _ v0 v1 v2 v3 (by
    have : lo ≤ x.block := by subst hx; exact (h.lt _ rfl).1
    omega))

end Go.Proofs.YtajfgmlbeaogkacGreatDoor

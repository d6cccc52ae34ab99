/-
  The walks over the fields of a node. Own work.
-/
import Derived.Test.YtpbopjgmiaoomaaGreatDoorMXAG
import Derived.Test.YtpbopjgmiaoomaaGreatDoorMXAE
import Derived.Deep.RegionHeld3
namespace Go.Proofs.YtpbopjgmiaoomaaGreatDoor
open Go.RowKit
set_option linter.unusedVariables false

theorem row5 {w : World} {b : Nat} {v0 v1 v2 v3 v4 : Value} {t : TypeId} (R : Row w b #[v0, v1, v2, v3, v4] t) : w.cell? ⟨b, 0, none⟩ = some v0 ∧ w.cell? ⟨b, 1, none⟩ = some v1 ∧ w.cell? ⟨b, 2, none⟩ = some v2 ∧ w.cell? ⟨b, 3, none⟩ = some v3 ∧ w.cell? ⟨b, 4, none⟩ = some v4 ∧ ∀ j, w.frozen? ⟨b, j, none⟩ = false :=
  ⟨by simpa using R.cell 0, by simpa using R.cell 1, by simpa using R.cell 2, by simpa using R.cell 3, by simpa using R.cell 4, fun j => R.frozen j⟩

theorem Strs.drew' {w : World} {a : Option Addr} {n c : Nat} {ss : List ByteArray} (h : Strs w a n c ss) : Strs w.drew a n c ss := ⟨h.len, h.cap, h.small, h.sizes, h.cells⟩

theorem tl_nil (s : ByteArray) : s.toList = [] ↔ s.size = 0 := by
  rw [ByteArray.toList_eq, ← List.length_eq_zero_iff]
  have : s.data.toList.length = s.size := by simp
  rw [this]

/-- a node by its value -/
def ndV (op num : Int) (text : ByteArray) (an : Option Addr) (nn cn : Nat) (ak : Option Addr) (nk ck : Nat) : Value := .agg #[.int .i64 op, .int .i64 num, .string text, .slice an nn cn, .slice ak nk ck]

end Go.Proofs.YtpbopjgmiaoomaaGreatDoor

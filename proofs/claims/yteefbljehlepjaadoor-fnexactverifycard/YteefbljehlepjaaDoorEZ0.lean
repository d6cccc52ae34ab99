/-
  A code of any size in memory. Own work.
-/
import Derived.Test.YteefbljehlepjaaDoorEM
namespace Go.Proofs.YteefbljehlepjaaDoor
open Go.RowKit
set_option linter.unusedVariables false


def VlAtR (w : World) (b o : Nat) (x : Vl) : Prop := VlAt w b o x

structure VlsR (w : World) (a : Option Addr) (n c : Nat) (L : List Vl) : Prop where
  len : L.length = n
  cap : n ≤ c
  small : c ≤ maxLen
  sizes : ∀ x ∈ L, x.text.size ≤ maxLen
  cells : ∀ j, (h : j < L.length) → ∃ b off, a = some ⟨b, off, none⟩ ∧ b < w.heap.size ∧ VlAt w b (off + j * 4) L[j]

structure IssR (w : World) (a : Option Addr) (n c : Nat) (L : List Is1) : Prop where
  len : L.length = n
  cap : n ≤ c
  small : c ≤ maxLen
  cells : ∀ j, (h : j < L.length) → ∃ b off, a = some ⟨b, off, none⟩ ∧ b < w.heap.size ∧ w.cell? ⟨b, off + j * 2, none⟩ = some (.int .i64 L[j].op) ∧ w.cell? ⟨b, off + j * 2 + 1, none⟩ = some (.int .i64 L[j].arg)

theorem VlsR.below {w w' : World} {B : Nat} {a : Option Addr} {n c : Nat} {L : List Vl} (h : VlsR w a n c L) (hb : Below B w w') (hB : w.heap.size ≤ B) : VlsR w' a n c L :=
  ⟨h.len, h.cap, h.small, h.sizes, fun j hj => by
    obtain ⟨b, off, ha, hl, hc⟩ := h.cells j hj
    exact ⟨b, off, ha, Nat.lt_of_lt_of_le hl hb.size, hc.below hl hb hB⟩⟩

theorem IssR.below {w w' : World} {B : Nat} {a : Option Addr} {n c : Nat} {L : List Is1} (h : IssR w a n c L) (hb : Below B w w') (hB : w.heap.size ≤ B) : IssR w' a n c L :=
  ⟨h.len, h.cap, h.small, fun j hj => by
    obtain ⟨b, off, ha, hl, c0, c1⟩ := h.cells j hj
    have hl' : b < B := by omega
    exact ⟨b, off, ha, Nat.lt_of_lt_of_le hl hb.size, (hb.cell (p := ⟨b, off + j * 2, none⟩) hl').trans c0, (hb.cell (p := ⟨b, off + j * 2 + 1, none⟩) hl').trans c1⟩⟩

/-- a value that the law lets by -/
def smallVl (x : Vl) : Prop := x.text.size ≤ 1048576 ∧ x.names.length ≤ 1048576 ∧ tot x.names ≤ 1048576

/-- what a look at a size leaves -/
def LeftE (L : Int) (P : Prop) (e : Ending) : Prop := ∃ r : Int, e = .returned (.int .i64 r) ∧ (r = -1 ∨ 0 ≤ r ∧ r ≤ L ∧ P)

/-- all names of a pool -/
def sumN (N : List Vl) : Nat := (N.map fun x => x.names.length).sum

theorem sumN_succ (N : List Vl) (k : Nat) (h : k < N.length) : sumN (N.take (k + 1)) = sumN (N.take k) + N[k].names.length := by
  rw [sumN, sumN, List.take_succ_eq_append_getElem h, List.map_append, List.sum_append]
  simp

theorem leftE_no (L : Int) (P : Prop) : LeftE L P (.returned (.int .i64 (-1))) := ⟨_, rfl, .inl rfl⟩

/-- a code that the law lets by -/
def smallC (n m : Nat) (N : List Vl) : Prop := (n ≤ 1048576 ∧ (∀ x ∈ N, smallVl x) ∧ sumN N ≤ 1048576) ∧ m ≤ 1048576

end Go.Proofs.YteefbljehlepjaaDoor

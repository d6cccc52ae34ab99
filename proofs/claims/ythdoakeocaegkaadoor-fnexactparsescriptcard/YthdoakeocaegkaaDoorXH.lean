/-
  Operations in memory. Own work.
-/
import Derived.Test.YthdoakeocaegkaaDoorXG
import Derived.Test.YthdoakeocaegkaaDoorOwn0
namespace Go.Proofs.YthdoakeocaegkaaDoor
open Go.RowKit
set_option linter.unusedVariables false

theorem opC_len : ∀ (T : List Op1), (opC T).length = T.length * 5
  | [] => rfl
  | t :: T => by
    have := opC_len T
    simp only [opC, List.flatMap_cons, List.length_append, List.length_cons] at this ⊢
    simp only [op5, List.length_cons, List.length_nil]
    omega

/-- the cells of the operation at a place -/
theorem opC_at : ∀ (T : List Op1) (j : Nat) (h : j < T.length), (opC T)[j * 5]? = some (.int .i64 T[j].kind) ∧ (opC T)[j * 5 + 1]? = some (.string T[j].name) ∧ (opC T)[j * 5 + 2]? = some (.string T[j].other) ∧ (opC T)[j * 5 + 3]? = some (.string T[j].text) ∧ (opC T)[j * 5 + 4]? = some (.int .i64 T[j].num)
  | t :: T, 0, _ => ⟨rfl, rfl, rfl, rfl, rfl⟩
  | t :: T, j + 1, h => by
    have ih := opC_at T j (by simpa using h)
    have e : opC (t :: T) = op5 t ++ opC T := rfl
    have e1 : ∀ i, (op5 t ++ opC T)[(j + 1) * 5 + i]? = (opC T)[j * 5 + i]? := fun i => by
      rw [List.getElem?_append_right (by simp [op5]; omega)]
      congr 1
      simp [op5]; omega
    have e0 := e1 0
    rw [Nat.add_zero, Nat.add_zero] at e0
    rw [e, e0, e1 1, e1 2, e1 3, e1 4]
    simpa using ih

/-- the operation at a place set anew, cell by cell -/
theorem opC_set : ∀ (T : List Op1) (j : Nat) (h : j < T.length) (t : Op1), (((((opC T).set (j * 5) (.int .i64 t.kind)).set (j * 5 + 1) (.string t.name)).set (j * 5 + 2) (.string t.other)).set (j * 5 + 3) (.string t.text)).set (j * 5 + 4) (.int .i64 t.num) = opC (T.set j t)
  | u :: T, 0, _, t => rfl
  | u :: T, j + 1, h, t => by
    have ih := opC_set T j (by simpa using h) t
    have e : opC (u :: T) = op5 u ++ opC T := rfl
    have e1 : ∀ (l : List Value) (i : Nat) (v : Value), (op5 u ++ l).set ((j + 1) * 5 + i) v = op5 u ++ l.set (j * 5 + i) v := fun l i v => by
      rw [List.set_append_right _ _ (by simp [op5]; omega)]
      congr 1
      simp [op5]
      congr 1
      omega
    have e0 := fun l v => e1 l 0 v
    simp only [Nat.add_zero] at e0
    rw [e, e0, e1, e1, e1, e1, ih]
    rfl

/-- all texts of a length that a machine holds -/
def okO (T : List Op1) : Prop := ∀ t ∈ T, t.name.size ≤ maxLen ∧ t.other.size ≤ maxLen ∧ t.text.size ≤ maxLen

/-- A slice of operations of the call's own, in the blocks lo .. hi - 1. -/
structure OwnO (w : World) (lo hi : Nat) (a : Option Addr) (n c : Nat) (T : List Op1) : Prop where
  own : w.ownsRow lo 31 5 (.slice a n c) n (opC T)
  lt : ∀ x, a = some x → x.block < hi
  sizes : okO T
  top : hi ≤ w.heap.size

theorem OwnO.len {w : World} {lo hi n c : Nat} {a : Option Addr} {T : List Op1} (h : OwnO w lo hi a n c T) : T.length = n := by
  have := h.own.1
  rw [opC_len] at this
  omega

theorem ownsO_of_block {w w' : World} {lo n c : Nat} {a : Option Addr} {xs : List Value} (h : w.ownsRow lo 31 5 (.slice a n c) n xs) (hb : ∀ x, a = some x → w'.heap[x.block]? = w.heap[x.block]?) : w'.ownsRow lo 31 5 (.slice a n c) n xs := by
  refine ⟨h.1, ?_⟩
  rcases h.2 with h2 | ⟨g, cap, cur, hv, h3, hg, h4⟩
  · exact .inl h2
  · refine .inr ⟨g, cap, cur, hv, h3, ?_, h4⟩
    simp only [Value.slice.injEq] at hv
    rw [← hg]
    exact hb ⟨g, 0, none⟩ hv.1

theorem OwnO.below {w w' : World} {lo hi n c B : Nat} {a : Option Addr} {T : List Op1} (h : OwnO w lo hi a n c T) (hb : Below B w w') (hB : hi ≤ B) : OwnO w' lo hi a n c T :=
  ⟨ownsO_of_block h.own (fun x hx => hb.block _ (by have := h.lt x hx; omega)), h.lt, h.sizes, Nat.le_trans h.top hb.size⟩

theorem OwnO.touch {w w' : World} {lo hi n c lo' hi' : Nat} {a : Option Addr} {T : List Op1} (h : OwnO w lo hi a n c T) (t : Touch lo' hi' w w') (hd : hi ≤ lo' ∨ hi' ≤ lo) : OwnO w' lo hi a n c T :=
  ⟨ownsO_of_block h.own (fun x hx => t.block _ (by have := h.lt x hx; have := h.top; omega) (by
    have h1 := h.lt x hx
    have h2 : lo ≤ x.block := by subst hx; exact (h.own.lt _ rfl).1
    omega)), h.lt, h.sizes, Nat.le_trans h.top t.size⟩

/-- the slice's form where there is one -/
theorem OwnO.form {w : World} {lo hi n c : Nat} {a : Option Addr} {T : List Op1} (h : OwnO w lo hi a n c T) (hn : 0 < n) : ∃ g, a = some ⟨g, 0, none⟩ ∧ lo ≤ g ∧ g < hi ∧ g < w.heap.size := by
  rcases h.own.2 with ⟨_, h0⟩ | ⟨g, cap, cur, hv, h3, hg, _⟩
  · omega
  · simp only [Value.slice.injEq] at hv
    exact ⟨g, hv.1, h3, h.lt _ hv.1, (Array.getElem?_eq_some_iff.1 hg).1⟩

theorem OwnO.small {w : World} {lo hi n c : Nat} {a : Option Addr} {T : List Op1} (h : OwnO w lo hi a n c T) : n ≤ 9223372036854775807 := by
  rcases h.own.2 with ⟨_, h0⟩ | ⟨g, cap, cur, hv, h3, hg, h4, h5, _⟩
  · omega
  · unfold maxLen at h5; omega

/-- the cells of one operation in memory -/
theorem OwnO.cells {w : World} {lo hi n c g : Nat} {T : List Op1} (h : OwnO w lo hi (some ⟨g, 0, none⟩) n c T) (j : Nat) (hj : j < T.length) :
    w.cell? ⟨g, j * 5, none⟩ = some (.int .i64 T[j].kind) ∧ w.cell? ⟨g, j * 5 + 1, none⟩ = some (.string T[j].name) ∧ w.cell? ⟨g, j * 5 + 2, none⟩ = some (.string T[j].other) ∧ w.cell? ⟨g, j * 5 + 3, none⟩ = some (.string T[j].text) ∧ w.cell? ⟨g, j * 5 + 4, none⟩ = some (.int .i64 T[j].num) := by
  obtain ⟨e0, e1, e2, e3, e4⟩ := opC_at T j hj
  have hl := h.len
  exact ⟨(h.own.cellAt _ (by omega)).trans e0, (h.own.cellAt _ (by omega)).trans e1, (h.own.cellAt _ (by omega)).trans e2, (h.own.cellAt _ (by omega)).trans e3, (h.own.cellAt _ (by omega)).trans e4⟩

theorem OwnO.of {w : World} {lo n c : Nat} {a : Option Addr} {T : List Op1} (h : w.ownsRow lo 31 5 (.slice a n c) n (opC T)) (hs : okO T) : OwnO w lo w.heap.size a n c T :=
  ⟨h, fun x hx => by subst hx; exact (h.lt _ rfl).2, hs, Nat.le_refl _⟩

end Go.Proofs.YthdoakeocaegkaaDoor

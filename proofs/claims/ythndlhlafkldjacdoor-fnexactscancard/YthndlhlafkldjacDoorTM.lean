/-
  Tokens in memory: four cells each. Own work.
-/
import Derived.Test.YthndlhlafkldjacDoorTK
import Derived.Test.YthndlhlafkldjacDoorOwn0
namespace Go.Proofs.YthndlhlafkldjacDoor
open Go.RowKit
set_option linter.unusedVariables false

/-- the cells of a token -/
def tok4 (t : Tok) : List Value := [.int .i64 t.kind, .int .i64 t.num, .string t.text, .int .i64 (t.at_ : Int)]

/-- the cells of tokens -/
def tokC (T : List Tok) : List Value := T.flatMap tok4

theorem tokC_len : ∀ (T : List Tok), (tokC T).length = T.length * 4
  | [] => rfl
  | t :: T => by
    have := tokC_len T
    simp only [tokC, List.flatMap_cons, List.length_append, List.length_cons] at this ⊢
    simp only [tok4, List.length_cons, List.length_nil]
    omega

theorem tokC_snoc (T : List Tok) (t : Tok) : tokC (T ++ [t]) = tokC T ++ tok4 t := by simp [tokC]

/-- the cells of the token at a place -/
theorem tokC_at : ∀ (T : List Tok) (j : Nat) (h : j < T.length), (tokC T)[j * 4]? = some (.int .i64 T[j].kind) ∧ (tokC T)[j * 4 + 1]? = some (.int .i64 T[j].num) ∧ (tokC T)[j * 4 + 2]? = some (.string T[j].text) ∧ (tokC T)[j * 4 + 3]? = some (.int .i64 (T[j].at_ : Int))
  | t :: T, 0, _ => ⟨rfl, rfl, rfl, rfl⟩
  | t :: T, j + 1, h => by
    have ih := tokC_at T j (by simpa using h)
    have e : tokC (t :: T) = tok4 t ++ tokC T := rfl
    have e1 : ∀ i, (tok4 t ++ tokC T)[(j + 1) * 4 + i]? = (tokC T)[j * 4 + i]? := fun i => by
      rw [List.getElem?_append_right (by simp [tok4]; omega)]
      congr 1
      simp [tok4]; omega
    have e0 := e1 0
    rw [Nat.add_zero, Nat.add_zero] at e0
    rw [e, e0, e1 1, e1 2, e1 3]
    simpa using ih

/-- the token at a place set anew, cell by cell -/
theorem tokC_set : ∀ (T : List Tok) (j : Nat) (h : j < T.length) (t : Tok), ((((tokC T).set (j * 4) (.int .i64 t.kind)).set (j * 4 + 1) (.int .i64 t.num)).set (j * 4 + 2) (.string t.text)).set (j * 4 + 3) (.int .i64 (t.at_ : Int)) = tokC (T.set j t)
  | u :: T, 0, _, t => rfl
  | u :: T, j + 1, h, t => by
    have ih := tokC_set T j (by simpa using h) t
    have e : tokC (u :: T) = tok4 u ++ tokC T := rfl
    have e1 : ∀ (l : List Value) (i : Nat) (v : Value), (tok4 u ++ l).set ((j + 1) * 4 + i) v = tok4 u ++ l.set (j * 4 + i) v := fun l i v => by
      rw [List.set_append_right _ _ (by simp [tok4]; omega)]
      congr 1
      simp [tok4]
      congr 1
      omega
    have e0 := fun l v => e1 l 0 v
    simp only [Nat.add_zero] at e0
    rw [e, e0, e1, e1, e1, ih]
    rfl

/-- all texts of a length that a machine holds -/
def okT (T : List Tok) : Prop := ∀ t ∈ T, t.text.size ≤ maxLen

/-- A slice of tokens of the call's own, in the blocks lo .. hi - 1. -/
structure OwnT (w : World) (lo hi : Nat) (a : Option Addr) (n c : Nat) (T : List Tok) : Prop where
  own : w.ownsRow lo 49 4 (.slice a n c) n (tokC T)
  lt : ∀ x, a = some x → x.block < hi
  sizes : okT T
  top : hi ≤ w.heap.size

theorem OwnT.len {w : World} {lo hi n c : Nat} {a : Option Addr} {T : List Tok} (h : OwnT w lo hi a n c T) : T.length = n := by
  have := h.own.1
  rw [tokC_len] at this
  omega

theorem ownsT_of_block {w w' : World} {lo n c : Nat} {a : Option Addr} {xs : List Value} (h : w.ownsRow lo 49 4 (.slice a n c) n xs) (hb : ∀ x, a = some x → w'.heap[x.block]? = w.heap[x.block]?) : w'.ownsRow lo 49 4 (.slice a n c) n xs := by
  refine ⟨h.1, ?_⟩
  rcases h.2 with h2 | ⟨g, cap, cur, hv, h3, hg, h4⟩
  · exact .inl h2
  · refine .inr ⟨g, cap, cur, hv, h3, ?_, h4⟩
    simp only [Value.slice.injEq] at hv
    rw [← hg]
    exact hb ⟨g, 0, none⟩ hv.1

theorem OwnT.below {w w' : World} {lo hi n c B : Nat} {a : Option Addr} {T : List Tok} (h : OwnT w lo hi a n c T) (hb : Below B w w') (hB : hi ≤ B) : OwnT w' lo hi a n c T :=
  ⟨ownsT_of_block h.own (fun x hx => hb.block _ (by have := h.lt x hx; omega)), h.lt, h.sizes, Nat.le_trans h.top hb.size⟩

theorem OwnT.touch {w w' : World} {lo hi n c lo' hi' : Nat} {a : Option Addr} {T : List Tok} (h : OwnT w lo hi a n c T) (t : Touch lo' hi' w w') (hd : hi ≤ lo' ∨ hi' ≤ lo) : OwnT w' lo hi a n c T :=
  ⟨ownsT_of_block h.own (fun x hx => t.block _ (by have := h.lt x hx; have := h.top; omega) (by
    have h1 := h.lt x hx
    have h2 : lo ≤ x.block := by subst hx; exact (h.own.lt _ rfl).1
    omega)), h.lt, h.sizes, Nat.le_trans h.top t.size⟩

/-- the slice's form where there is one -/
theorem OwnT.form {w : World} {lo hi n c : Nat} {a : Option Addr} {T : List Tok} (h : OwnT w lo hi a n c T) (hn : 0 < n) : ∃ g, a = some ⟨g, 0, none⟩ ∧ lo ≤ g ∧ g < hi ∧ g < w.heap.size := by
  rcases h.own.2 with ⟨_, h0⟩ | ⟨g, cap, cur, hv, h3, hg, _⟩
  · omega
  · simp only [Value.slice.injEq] at hv
    exact ⟨g, hv.1, h3, h.lt _ hv.1, (Array.getElem?_eq_some_iff.1 hg).1⟩

theorem OwnT.small {w : World} {lo hi n c : Nat} {a : Option Addr} {T : List Tok} (h : OwnT w lo hi a n c T) : n ≤ 9223372036854775807 := by
  rcases h.own.2 with ⟨_, h0⟩ | ⟨g, cap, cur, hv, h3, hg, h4, h5, _⟩
  · omega
  · unfold maxLen at h5; omega

/-- the cells of one token in memory -/
theorem OwnT.cells {w : World} {lo hi n c g : Nat} {T : List Tok} (h : OwnT w lo hi (some ⟨g, 0, none⟩) n c T) (j : Nat) (hj : j < T.length) :
    w.cell? ⟨g, j * 4, none⟩ = some (.int .i64 T[j].kind) ∧ w.cell? ⟨g, j * 4 + 1, none⟩ = some (.int .i64 T[j].num) ∧ w.cell? ⟨g, j * 4 + 2, none⟩ = some (.string T[j].text) ∧ w.cell? ⟨g, j * 4 + 3, none⟩ = some (.int .i64 (T[j].at_ : Int)) := by
  obtain ⟨e0, e1, e2, e3⟩ := tokC_at T j hj
  have hl := h.len
  exact ⟨(h.own.cellAt _ (by omega)).trans e0, (h.own.cellAt _ (by omega)).trans e1, (h.own.cellAt _ (by omega)).trans e2, (h.own.cellAt _ (by omega)).trans e3⟩

theorem OwnT.of {w : World} {lo n c : Nat} {a : Option Addr} {T : List Tok} (h : w.ownsRow lo 49 4 (.slice a n c) n (tokC T)) (hs : okT T) : OwnT w lo w.heap.size a n c T :=
  ⟨h, fun x hx => by subst hx; exact (h.lt _ rfl).2, hs, Nat.le_refl _⟩

end Go.Proofs.YthndlhlafkldjacDoor

/-
  The model's verifier: a step's memory. Own work.
-/
import Derived.Test.YteefbljehlepjaaDoorYQ
import Derived.Test.YteefbljehlepjaaDoorYR
namespace Go.Proofs.YteefbljehlepjaaDoor
open Go.RowKit Go.Lib
set_option linter.unusedVariables false

/-- a state's two lists -/
structure Lt (w : World) (ta tb : Option Addr) (tn tc tm td : Nat) (s : Vs) : Prop where
  st : Ints w ta tn tc s.stack
  sl : Ints w tb tm td s.slots
  n1 : ta = none → tc = 0
  n2 : tb = none → td = 0

theorem Lt.below {w w' : World} {ta tb : Option Addr} {tn tc tm td B : Nat} {s : Vs} (h : Lt w ta tb tn tc tm td s) (hb : Below B w w') (hB : w.heap.size ≤ B) : Lt w' ta tb tn tc tm td s := ⟨h.st.below hb hB, h.sl.below hb hB, h.n1, h.n2⟩

/-- what a step answers -/
def SpA (w : World) (kn : Bool) (r : Int × Vs) (e : Ending) (w' : World) : Prop := ∃ v, e = .returned (.tuple #[v, .int .i64 r.1]) ∧ Below w.heap.size w w' ∧ (r.1 = 0 → ∃ x c y d, v = .agg #[.bool kn, .slice x r.2.stack.length c, .slice y r.2.slots.length d] ∧ Lt w' x y r.2.stack.length c r.2.slots.length d r.2 ∧ (∀ ad, x = some ad → w.heap.size ≤ ad.block) ∧ ∀ ad, y = some ad → w.heap.size ≤ ad.block) ∧ ∃ k x1 n1 c1 x2 n2 c2, v = .agg #[.bool k, .slice x1 n1 c1, .slice x2 n2 c2]

theorem chk_step (want got : List Int) (av : Int) (j p : Nat) (hj : j < want.length) (hp : p < got.length) : chk (want.drop j) (got.drop p) av = if (want[j] = 0 ∧ got[p] ≠ (if want[j] = 0 ∧ av = 0 then got[p] else av)) ∨ (0 < want[j] ∧ got[p] ≠ want[j]) then false else chk (want.drop (j + 1)) (got.drop (p + 1)) (if want[j] = 0 ∧ av = 0 then got[p] else av) := by
  rw [List.drop_eq_getElem_cons hj, List.drop_eq_getElem_cons hp, chk]

theorem getD_nonneg (l : List Int) (j : Nat) (h : ∀ x ∈ l, 0 ≤ x) : 0 ≤ l.getD j 0 := by
  rw [List.getD]
  cases hj : l[j]? with
  | none => simp
  | some x => exact h x (List.mem_of_getElem? hj)

theorem rwV_nonneg (op : Int) : 0 ≤ (rwV op).2 := by
  unfold rwV
  repeat' split
  all_goals decide

/-- what is pushed is a type, or nothing -/
theorem takesM_nonneg (PK : List Int) (i : Is1) (sl : List Int) (h1 : ∀ x ∈ PK, 1 ≤ x) (h2 : ∀ x ∈ sl, 0 ≤ x) : 0 ≤ (takesM PK i sl).2 := by
  unfold takesM
  split
  · exact getD_nonneg PK _ (fun x hx => by have := h1 x hx; omega)
  split
  · show 0 ≤ attrT i.arg
    unfold attrT
    repeat' split
    all_goals decide
  split
  · exact getD_nonneg sl _ h2
  repeat' split
  all_goals first | decide | exact rwV_nonneg _

/-- what is one's own, less what lies behind -/
theorem owns_take {w : World} {lo e n c : Nat} {x : Option Addr} {xs : List Value} (h : w.ownsRow lo e 1 (.slice x n c) n xs) (k : Nat) (hk : k ≤ n) : w.ownsRow lo e 1 (.slice x k c) k (xs.take k) := by
  obtain ⟨h0, h1⟩ := h
  refine ⟨by rw [List.length_take, h0]; omega, ?_⟩
  rcases h1 with ⟨hv, hn⟩ | ⟨g, cap, cur, hv, hg, hc, h2, h3, h4, h5⟩
  · simp only [Value.slice.injEq] at hv
    obtain ⟨rfl, _, rfl⟩ := hv
    exact .inl ⟨by rw [show k = 0 by omega], by omega⟩
  · simp only [Value.slice.injEq] at hv
    obtain ⟨rfl, _, rfl⟩ := hv
    refine .inr ⟨g, c, cur, rfl, hg, hc, by omega, h3, h4, ?_⟩
    rw [← h5, List.take_take]
    congr 1
    omega

/-- the variables of a step -/
def Fr (w W : World) (v0 v1 v2 : Value) (kn : Bool) (ta tb : Option Addr) (tn tc tm td : Nat) (op arg : Int) : Prop :=
  Row W w.heap.size #[v0, v1, v2] 32 ∧ Row W (w.heap.size + 1) #[.bool kn, .slice ta tn tc, .slice tb tm td] 42 ∧ Row W (w.heap.size + 1 + 1) #[.bool false, .slice none 0 0, .slice none 0 0] 42 ∧ Row W (w.heap.size + 1 + 1 + 1) #[.int .i64 op, .int .i64 arg] 64 ∧ Below w.heap.size w W

theorem Fr.after {w W W' : World} {v0 v1 v2 : Value} {kn : Bool} {ta tb : Option Addr} {tn tc tm td : Nat} {op arg : Int} (h : Fr w W v0 v1 v2 kn ta tb tn tc tm td op arg) (hb : Below W.heap.size W W') : Fr w W' v0 v1 v2 kn ta tb tn tc tm td op arg := by
  obtain ⟨h0, h1, h2, h3, h4⟩ := h
  exact ⟨h0.after hb (Nat.le_refl _), h1.after hb (Nat.le_refl _), h2.after hb (Nat.le_refl _), h3.after hb (Nat.le_refl _), h4.trans (hb.mono h4.size)⟩

theorem Fr.grown {w W W' : World} {v0 v1 v2 : Value} {kn : Bool} {ta tb : Option Addr} {tn tc tm td : Nat} {op arg : Int} (h : Fr w W v0 v1 v2 kn ta tb tn tc tm td op arg) {x : Option Nat} {lo : Nat} (hg : W.grownBy W' x) (hx : ∀ q, x = some q → lo ≤ q) (hl : w.heap.size + 1 + 1 + 1 < lo) : Fr w W' v0 v1 v2 kn ta tb tn tc tm td op arg := by
  obtain ⟨h0, h1, h2, h3, h4⟩ := h
  exact ⟨h0.grown hg (fun e => by have := hx _ e.symm; omega), h1.grown hg (fun e => by have := hx _ e.symm; omega), h2.grown hg (fun e => by have := hx _ e.symm; omega), h3.grown hg (fun e => by have := hx _ e.symm; omega), h4.grown hg h4.size (fun q hq => by have := hx q hq; omega)⟩

theorem Fr.far {w W : World} {v0 v1 v2 : Value} {kn : Bool} {ta tb : Option Addr} {tn tc tm td : Nat} {op arg : Int} (h : Fr w W v0 v1 v2 kn ta tb tn tc tm td op arg) (p : Addr) (v : Value) (hp : w.heap.size + 1 + 1 + 1 < p.block) : Fr w (W.setCell p v) v0 v1 v2 kn ta tb tn tc tm td op arg := by
  obtain ⟨h0, h1, h2, h3, h4⟩ := h
  exact ⟨h0.setFar (by omega) v, h1.setFar (by omega) v, h2.setFar (by omega) v, h3.setFar (by omega) v, h4.setCell (by omega) v⟩

/-- the cells that a walk comes to -/
theorem Fr.cells {w W : World} {v0 v1 v2 : Value} {kn : Bool} {ta tb : Option Addr} {tn tc tm td : Nat} {op arg : Int} (h : Fr w W v0 v1 v2 kn ta tb tn tc tm td op arg) :
    (W.cell? ⟨w.heap.size, 0, none⟩ = some v0 ∧ W.cell? ⟨w.heap.size, 1, none⟩ = some v1 ∧ W.cell? ⟨w.heap.size, 2, none⟩ = some v2) ∧ (W.cell? ⟨w.heap.size + 1, 0, none⟩ = some (.bool kn) ∧ W.cell? ⟨w.heap.size + 1, 1, none⟩ = some (.slice ta tn tc) ∧ W.cell? ⟨w.heap.size + 1, 2, none⟩ = some (.slice tb tm td)) ∧
    (W.cell? ⟨w.heap.size + 1 + 1, 0, none⟩ = some (.bool false) ∧ W.cell? ⟨w.heap.size + 1 + 1, 1, none⟩ = some (.slice none 0 0) ∧ W.cell? ⟨w.heap.size + 1 + 1, 2, none⟩ = some (.slice none 0 0)) ∧ (W.cell? ⟨w.heap.size + 1 + 1 + 1, 0, none⟩ = some (.int .i64 op) ∧ W.cell? ⟨w.heap.size + 1 + 1 + 1, 1, none⟩ = some (.int .i64 arg)) ∧
    W.frozen? ⟨w.heap.size + 1 + 1, 0, none⟩ = false ∧ W.frozen? ⟨w.heap.size + 1 + 1, 1, none⟩ = false ∧ W.frozen? ⟨w.heap.size + 1 + 1, 2, none⟩ = false := by
  obtain ⟨h0, h1, h2, h3, h4⟩ := h
  exact ⟨rowC h0, rowC h1, rowC h2, rowS h3, h2.frozen 0, h2.frozen 1, h2.frozen 2⟩

/-- the result is laid -/
theorem Fr.put {w W : World} {v0 v1 v2 : Value} {kn : Bool} {ta tb : Option Addr} {tn tc tm td : Nat} {op arg : Int} (h : Fr w W v0 v1 v2 kn ta tb tn tc tm td op arg) (x y z : Value) :
    ((((W.setCell ⟨w.heap.size + 1 + 1, 0, none⟩ x).setCell ⟨w.heap.size + 1 + 1, 1, none⟩ y).setCell ⟨w.heap.size + 1 + 1, 2, none⟩ z).cell? ⟨w.heap.size + 1 + 1, 0, none⟩ = some x ∧ (((W.setCell ⟨w.heap.size + 1 + 1, 0, none⟩ x).setCell ⟨w.heap.size + 1 + 1, 1, none⟩ y).setCell ⟨w.heap.size + 1 + 1, 2, none⟩ z).cell? ⟨w.heap.size + 1 + 1, 1, none⟩ = some y ∧ (((W.setCell ⟨w.heap.size + 1 + 1, 0, none⟩ x).setCell ⟨w.heap.size + 1 + 1, 1, none⟩ y).setCell ⟨w.heap.size + 1 + 1, 2, none⟩ z).cell? ⟨w.heap.size + 1 + 1, 2, none⟩ = some z) ∧
    Below w.heap.size w (((W.setCell ⟨w.heap.size + 1 + 1, 0, none⟩ x).setCell ⟨w.heap.size + 1 + 1, 1, none⟩ y).setCell ⟨w.heap.size + 1 + 1, 2, none⟩ z) := by
  obtain ⟨h0, h1, h2, h3, h4⟩ := h
  have R := ((h2.set 0 x).set 1 y).set 2 z
  simp only [List.setIfInBounds_toArray, List.set_cons_zero, List.set_cons_succ] at R
  refine ⟨rowC R, ?_⟩
  have e : w.heap.size ≤ w.heap.size + 1 + 1 := by omega
  exact ((h4.setCell (p := ⟨w.heap.size + 1 + 1, 0, none⟩) e x).setCell (p := ⟨w.heap.size + 1 + 1, 1, none⟩) e y).setCell (p := ⟨w.heap.size + 1 + 1, 2, none⟩) e z

/-- numbers of one's own do not lie in a block of another type -/
theorem owns_ne {w : World} {lo e n c b q : Nat} {x : Option Addr} {xs : List Value} {cs : Array Value} {t : TypeId} (h : w.ownsRow lo e 1 (.slice x n c) n xs) (R : Row w b cs t) (ht : e ≠ t) (hx : x = some ⟨q, 0, none⟩) : q ≠ b := by
  rcases h.2 with ⟨hv, _⟩ | ⟨g, cap, cur, hv, _, hc, _⟩
  · simp only [Value.slice.injEq] at hv
    rw [hv.1] at hx
    cases hx
  · simp only [Value.slice.injEq] at hv
    rw [hv.1] at hx
    cases hx
    intro e'
    subst e'
    have := R.out
    rw [hc] at this
    simp only [Option.some.injEq, Obj.cells.injEq] at this
    exact ht this.2.1

/-- a store into a block of another type -/
theorem owns_set {w : World} {lo e n c : Nat} {x : Option Addr} {xs : List Value} {cs : Array Value} {t : TypeId} (h : w.ownsRow lo e 1 (.slice x n c) n xs) (p : Addr) (R : Row w p.block cs t) (ht : e ≠ t) (v : Value) : (w.setCell p v).ownsRow lo e 1 (.slice x n c) n xs :=
  owns_block h (fun q _ _ hx => heap_setCell_other w p q v (owns_ne h R ht hx))

theorem int_ne_state : (3 : TypeId) ≠ 42 := by decide

/-- the state that a step ends with -/
theorem step_fin {w W : World} {v0 v1 v2 : Value} {kn : Bool} {ta tb x y : Option Addr} {tn tc tm td k c l d lo : Nat} {op arg : Int} {st sl : List Int} (hF : Fr w W v0 v1 v2 kn ta tb tn tc tm td op arg) (o1 : W.ownsRow lo 3 1 (.slice x k c) k (intsV st)) (o2 : W.ownsRow lo 3 1 (.slice y l d) l (intsV sl)) (hlo : w.heap.size ≤ lo) (hk : k ≤ 1048576) (hl : l ≤ 1048576) :
    Lt (((W.setCell ⟨w.heap.size + 1 + 1, 0, none⟩ (.bool kn)).setCell ⟨w.heap.size + 1 + 1, 1, none⟩ (.slice x k c)).setCell ⟨w.heap.size + 1 + 1, 2, none⟩ (.slice y l d)) x y k c l d ⟨st, sl⟩ ∧ (∀ ad, x = some ad → w.heap.size ≤ ad.block) ∧ ∀ ad, y = some ad → w.heap.size ≤ ad.block := by
  obtain ⟨_, _, R, _, _⟩ := hF
  have R1 := R.set 0 (.bool kn)
  have R2 := R1.set 1 (.slice x k c)
  have a1 := owns_set (owns_set (owns_set o1 ⟨w.heap.size + 1 + 1, 0, none⟩ R int_ne_state (.bool kn)) ⟨w.heap.size + 1 + 1, 1, none⟩ R1 int_ne_state (.slice x k c)) ⟨w.heap.size + 1 + 1, 2, none⟩ R2 int_ne_state (.slice y l d)
  have a2 := owns_set (owns_set (owns_set o2 ⟨w.heap.size + 1 + 1, 0, none⟩ R int_ne_state (.bool kn)) ⟨w.heap.size + 1 + 1, 1, none⟩ R1 int_ne_state (.slice x k c)) ⟨w.heap.size + 1 + 1, 2, none⟩ R2 int_ne_state (.slice y l d)
  have nl : ∀ {z : Option Addr} {n' c' : Nat} {xs : List Value} {W' : World}, W'.ownsRow lo 3 1 (.slice z n' c') n' xs → (z = none → c' = 0) := fun {z n' c' xs W'} h e => by
    rcases h.2 with ⟨hv, _⟩ | ⟨g, cap, cur, hv, _⟩
    · simp only [Value.slice.injEq] at hv; exact hv.2.2
    · simp only [Value.slice.injEq] at hv; rw [hv.1] at e; cases e
  refine ⟨⟨ints_own a1 hk, ints_own a2 hl, nl a1, nl a2⟩, fun ad e => ?_, fun ad e => ?_⟩
  · exact Nat.le_trans hlo (o1.lt ad.block (by rw [e]; rfl)).1
  · exact Nat.le_trans hlo (o2.lt ad.block (by rw [e]; rfl)).1


end Go.Proofs.YteefbljehlepjaaDoor

/-
  The memory of the model's checker. Own work.
-/
import Derived.Test.YtjapdeehnfoonaaGreatDoorZG
import Derived.Test.YtjapdeehnfoonaaGreatDoorJQ
namespace Go.Proofs.YtjapdeehnfoonaaGreatDoor
open Go.RowKit
set_option linter.unusedVariables false

theorem own_apart {w : World} {B B' n n' size size' : Nat} {e e' : TypeId} {v v' : Value} {xs xs' : List Value} (h : w.ownsRow B e size v n xs) (h' : w.ownsRow B' e' size' v' n' xs') (hne : e ≠ e') : ∀ q, v.ownBlock = some q → v'.ownBlock ≠ some q := fun q hq => by
  rcases h.2 with ⟨hv, _⟩ | ⟨g, cap, cur, hv, _, hg, _⟩
  · rw [hv] at hq; cases hq
  · rw [hv] at hq
    obtain rfl : g = q := by simpa [Value.ownBlock] using hq
    exact own_ne_row ⟨hg⟩ h' hne

/-- the lets and the types found so far -/
structure Lm (B lb : Nat) (ns : List ByteArray) (ts tt : List Int) (nv lv tv : Value) (w : World) : Prop where
  row : Row w lb #[nv, lv] 103
  names : w.ownsRow B 9 1 nv ns.length (ns.map Value.string)
  lets : w.ownsRow B 3 1 lv ts.length (intsV ts)
  types : w.ownsRow B 3 1 tv tt.length (intsV tt)
  low : lb < B
  apart : ∀ q, lv.ownBlock = some q → tv.ownBlock ≠ some q

theorem Lm.below {B lb : Nat} {ns : List ByteArray} {ts tt : List Int} {nv lv tv : Value} {w w' : World} (h : Lm B lb ns ts tt nv lv tv w) (hb : Below w.heap.size w w') : Lm B lb ns ts tt nv lv tv w' :=
  ⟨h.row.after hb (Nat.le_refl _), ownsRow_below h.names hb (Nat.le_refl _), ownsRow_below h.lets hb (Nat.le_refl _), ownsRow_below h.types hb (Nat.le_refl _), h.low, h.apart⟩

theorem Lm.tree {B lb : Nat} {ns : List ByteArray} {ts tt ys : List Int} {nv lv tv tv' : Value} {w w' : World} (h : Lm B lb ns ts tt nv lv tv w) (O : w'.ownsRow B 3 1 tv' (tt ++ ys).length (intsV (tt ++ ys))) (K : Keep w tv w' tv') (hb : Below B w w') : Lm B lb ns ts (tt ++ ys) nv lv tv' w' := by
  refine ⟨h.row.below hb h.low, owns_blocks2 h.names (fun q hq => K.1 q (h.names.lt q hq).2 (fun e => own_apart h.names h.types (by decide) q hq e.symm)), owns_blocks2 h.lets (fun q hq => K.1 q (h.lets.lt q hq).2 (fun e => h.apart q hq e.symm)), O, h.low, fun q hq e => ?_⟩
  rcases K.2.1 q e with e2 | e2
  · exact h.apart q hq e2
  · have := (h.lets.lt q hq).2; omega

/-- a cell of another block is written -/
theorem Lm.set {B lb : Nat} {ns : List ByteArray} {ts tt : List Int} {nv lv tv : Value} {w : World} (h : Lm B lb ns ts tt nv lv tv w) (p : Addr) (u : Value) (h1 : p.block < B) (h2 : p.block ≠ lb) : Lm B lb ns ts tt nv lv tv (w.setCell p u) :=
  ⟨h.row.setFar (fun e => h2 e.symm) u, own_set3 h.names p u (fun q hq => by have := (h.names.lt q hq).1; omega), own_set3 h.lets p u (fun q hq => by have := (h.lets.lt q hq).1; omega), own_set3 h.types p u (fun q hq => by have := (h.types.lt q hq).1; omega), h.low, h.apart⟩

theorem Lm.pushN {B lb : Nat} {ns : List ByteArray} {ts tt : List Int} {nv lv tv : Value} {w w3 : World} {o : Obj} {nm : ByteArray} {g cap : Nat} (h : Lm B lb ns ts tt nv lv tv w) (hB : B ≤ w.heap.size)
    (O3 : w3.ownsRow B 9 1 (.slice (some ⟨g, 0, none⟩) (ns.length + 1) cap) (ns.length + 1) (ns.map Value.string ++ [.string nm])) (hgrow : (w.alloc o).grownBy w3 nv.ownBlock) (hat : nv.ownBlock = some g ∨ g = w.heap.size + 1) :
    Row w3 lb #[nv, lv] 103 ∧ Lm B lb (ns ++ [nm]) ts tt (.slice (some ⟨g, 0, none⟩) (ns.length + 1) cap) lv tv (w3.setCell ⟨lb, 0, none⟩ (.slice (some ⟨g, 0, none⟩) (ns.length + 1) cap)) ∧
    (∀ k, k < w.heap.size → k ≠ lb → some k ≠ nv.ownBlock → (w3.setCell ⟨lb, 0, none⟩ (.slice (some ⟨g, 0, none⟩) (ns.length + 1) cap)).heap[k]? = w.heap[k]?) ∧ w.heap.size ≤ w3.heap.size := by
  have n1 := own_ne_row h.row h.names (by decide)
  have n2 := own_ne_row h.row h.lets (by decide)
  have n3 := own_ne_row h.row h.types (by decide)
  have R3 := (h.row.alloc o).grown hgrow (fun e => n1 e.symm)
  have n4 := own_ne_row R3 O3 (by decide)
  have ng : g ≠ lb := fun e => n4 (by rw [e]; rfl)
  have za : (w.alloc o).heap.size = w.heap.size + 1 := by simp
  have kb : ∀ k, k < w.heap.size → k ≠ lb → some k ≠ nv.ownBlock → (w3.setCell ⟨lb, 0, none⟩ (.slice (some ⟨g, 0, none⟩) (ns.length + 1) cap)).heap[k]? = w.heap[k]? := fun k h1 h2 h3 =>
    (heap_setCell_other w3 ⟨lb, 0, none⟩ k _ h2).trans ((hgrow.block k (by rw [za]; omega) h3).trans (Below.heap_alloc w o k h1))
  have zz : w.heap.size ≤ w3.heap.size := by have := hgrow.size; omega
  refine ⟨R3, ⟨R3.set 0 (.slice (some ⟨g, 0, none⟩) (ns.length + 1) cap), ?_, owns_blocks2 h.lets (fun q hq => kb q (h.lets.lt q hq).2 (fun e => n2 (e ▸ hq)) (fun e => own_apart h.names h.lets (by decide) q e.symm hq)), owns_blocks2 h.types (fun q hq => kb q (h.types.lt q hq).2 (fun e => n3 (e ▸ hq)) (fun e => own_apart h.names h.types (by decide) q e.symm hq)), h.low, h.apart⟩, kb, zz⟩
  rw [List.map_append, List.length_append]
  refine own_set3 O3 ⟨lb, 0, none⟩ _ (fun q hq => ?_)
  have : g = q := by simpa [Value.ownBlock] using hq
  subst this
  exact ng

theorem Lm.pushL {B lb : Nat} {ns : List ByteArray} {ts tt : List Int} {nv lv tv : Value} {w w3 : World} {o : Obj} {t : Int} {g cap : Nat} (h : Lm B lb ns ts tt nv lv tv w) (hB : B ≤ w.heap.size)
    (O3 : w3.ownsRow B 3 1 (.slice (some ⟨g, 0, none⟩) (ts.length + 1) cap) (ts.length + 1) (intsV ts ++ [.int .i64 t])) (hgrow : (w.alloc o).grownBy w3 lv.ownBlock) (hat : lv.ownBlock = some g ∨ g = w.heap.size + 1) :
    Row w3 lb #[nv, lv] 103 ∧ Lm B lb ns (ts ++ [t]) tt nv (.slice (some ⟨g, 0, none⟩) (ts.length + 1) cap) tv (w3.setCell ⟨lb, 1, none⟩ (.slice (some ⟨g, 0, none⟩) (ts.length + 1) cap)) ∧
    (∀ k, k < w.heap.size → k ≠ lb → some k ≠ lv.ownBlock → (w3.setCell ⟨lb, 1, none⟩ (.slice (some ⟨g, 0, none⟩) (ts.length + 1) cap)).heap[k]? = w.heap[k]?) ∧ w.heap.size ≤ w3.heap.size := by
  have n1 := own_ne_row h.row h.names (by decide)
  have n2 := own_ne_row h.row h.lets (by decide)
  have n3 := own_ne_row h.row h.types (by decide)
  have R3 := (h.row.alloc o).grown hgrow (fun e => n2 e.symm)
  have n4 := own_ne_row R3 O3 (by decide)
  have ng : g ≠ lb := fun e => n4 (by rw [e]; rfl)
  have za : (w.alloc o).heap.size = w.heap.size + 1 := by simp
  have kb : ∀ k, k < w.heap.size → k ≠ lb → some k ≠ lv.ownBlock → (w3.setCell ⟨lb, 1, none⟩ (.slice (some ⟨g, 0, none⟩) (ts.length + 1) cap)).heap[k]? = w.heap[k]? := fun k h1 h2 h3 =>
    (heap_setCell_other w3 ⟨lb, 1, none⟩ k _ h2).trans ((hgrow.block k (by rw [za]; omega) h3).trans (Below.heap_alloc w o k h1))
  have zz : w.heap.size ≤ w3.heap.size := by have := hgrow.size; omega
  refine ⟨R3, ⟨R3.set 1 (.slice (some ⟨g, 0, none⟩) (ts.length + 1) cap), owns_blocks2 h.names (fun q hq => kb q (h.names.lt q hq).2 (fun e => n1 (e ▸ hq)) (fun e => own_apart h.names h.lets (by decide) q hq e.symm)), ?_, owns_blocks2 h.types (fun q hq => kb q (h.types.lt q hq).2 (fun e => n3 (e ▸ hq)) (fun e => h.apart q e.symm hq)), h.low, fun q hq e => ?_⟩, kb, zz⟩
  · rw [intsV, List.map_append, List.length_append]
    refine own_set3 O3 ⟨lb, 1, none⟩ _ (fun q hq => ?_)
    have : g = q := by simpa [Value.ownBlock] using hq
    subst this
    exact ng
  · have : g = q := by simpa [Value.ownBlock] using hq
    subst this
    rcases hat with hat | hat
    · exact h.apart g hat e
    · have := (h.types.lt g e).2; omega

/-- all that a round of the checker stands on -/
structure Ls (B rb lb fb sb : Nat) (ns : List ByteArray) (ts tt : List Int) (nv lv tv : Value) (S : Array Value) (fc fa : Int) (w0 w : World) : Prop where
  M : Lm B lb ns ts tt nv lv tv w
  F : Row w fb #[.int .i64 fc, .int .i64 fa] 66
  R : Row w rb #[.int .i64 0, .int .i64 0] 66
  S : Row w sb S 71
  low : Below rb w0 w
  ord : rb < lb ∧ lb < fb ∧ fb < B ∧ B ≤ sb

theorem Ls.below {B rb lb fb sb : Nat} {ns : List ByteArray} {ts tt : List Int} {nv lv tv : Value} {S : Array Value} {fc fa : Int} {w0 w w' : World} (h : Ls B rb lb fb sb ns ts tt nv lv tv S fc fa w0 w) (hb : Below w.heap.size w w') : Ls B rb lb fb sb ns ts tt nv lv tv S fc fa w0 w' :=
  ⟨h.M.below hb, h.F.after hb (Nat.le_refl _), h.R.after hb (Nat.le_refl _), h.S.after hb (Nat.le_refl _), h.low.trans (hb.mono (by have := h.R.lt; omega)), h.ord⟩

theorem Ls.tree {B rb lb fb sb : Nat} {ns : List ByteArray} {ts tt ys : List Int} {nv lv tv tv' : Value} {S : Array Value} {fc fa : Int} {w0 w w' : World} (h : Ls B rb lb fb sb ns ts tt nv lv tv S fc fa w0 w) (O : w'.ownsRow B 3 1 tv' (tt ++ ys).length (intsV (tt ++ ys))) (K : Keep w tv w' tv') (hb : Below B w w') : Ls B rb lb fb sb ns ts (tt ++ ys) nv lv tv' S fc fa w0 w' :=
  ⟨h.M.tree O K hb, h.F.below hb h.ord.2.2.1, h.R.below hb (by have := h.ord; omega), ⟨(K.1 sb h.S.lt (fun e => own_ne_row h.S h.M.types (by decide) e.symm)).trans h.S.out⟩, h.low.trans (hb.mono (by have := h.ord; omega)), h.ord⟩

/-- the fault is laid -/
theorem Ls.fault {B rb lb fb sb : Nat} {ns : List ByteArray} {ts tt : List Int} {nv lv tv : Value} {S : Array Value} {fc fa : Int} {w0 w : World} (h : Ls B rb lb fb sb ns ts tt nv lv tv S fc fa w0 w) (c a : Int) : Ls B rb lb fb sb ns ts tt nv lv tv S c a w0 ((w.setCell ⟨fb, 0, none⟩ (.int .i64 c)).setCell ⟨fb, 1, none⟩ (.int .i64 a)) := by
  have o := h.ord
  refine ⟨(h.M.set ⟨fb, 0, none⟩ _ o.2.2.1 (by show fb ≠ lb; omega)).set ⟨fb, 1, none⟩ _ o.2.2.1 (by show fb ≠ lb; omega), (h.F.set 0 _).set 1 _, (h.R.setFar (by show rb ≠ fb; omega) _).setFar (by show rb ≠ fb; omega) _, (h.S.setFar (by show sb ≠ fb; omega) _).setFar (by show sb ≠ fb; omega) _, ?_, o⟩
  exact (h.low.setCell (p := ⟨fb, 0, none⟩) (by show rb ≤ fb; omega) _).setCell (p := ⟨fb, 1, none⟩) (by show rb ≤ fb; omega) _

theorem Ls.of_kept {B rb lb fb sb : Nat} {ns ns' : List ByteArray} {ts tt ts' : List Int} {nv lv tv nv' lv' : Value} {S : Array Value} {fc fa : Int} {w0 w w' : World} {e : TypeId} {size n : Nat} {xv : Value} {xs : List Value} (h : Ls B rb lb fb sb ns ts tt nv lv tv S fc fa w0 w) (hx : w.ownsRow B e size xv n xs) (h1 : 66 ≠ e) (h2 : 71 ≠ e)
    (M : Lm B lb ns' ts' tt nv' lv' tv w') (hk : ∀ k, k < w.heap.size → k ≠ lb → some k ≠ xv.ownBlock → w'.heap[k]? = w.heap[k]?) (hb : Below rb w w') : Ls B rb lb fb sb ns' ts' tt nv' lv' tv S fc fa w0 w' := by
  have o := h.ord
  exact ⟨M, ⟨(hk fb h.F.lt (by omega) (fun q => own_ne_row h.F hx h1 q.symm)).trans h.F.out⟩, ⟨(hk rb h.R.lt (by omega) (fun q => own_ne_row h.R hx h1 q.symm)).trans h.R.out⟩, ⟨(hk sb h.S.lt (by omega) (fun q => own_ne_row h.S hx h2 q.symm)).trans h.S.out⟩, h.low.trans hb, o⟩

end Go.Proofs.YtjapdeehnfoonaaGreatDoor

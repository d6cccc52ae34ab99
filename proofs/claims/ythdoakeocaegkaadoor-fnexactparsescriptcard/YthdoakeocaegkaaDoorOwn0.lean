/-
  Slices of the call's own: what leaves them. Own work.
-/
import Derived.Test.YthdoakeocaegkaaDoorByte1
namespace Go.Proofs.YthdoakeocaegkaaDoor
open Go.RowKit

/-- Outside the blocks lo .. hi - 1 nothing that was there has turned. -/
structure Touch (lo hi : Nat) (w w' : World) : Prop where
  os : w'.os = w.os
  tape : w'.tape = w.tape
  output : w'.output = w.output
  size : w.heap.size ≤ w'.heap.size
  block : ∀ k, k < w.heap.size → (k < lo ∨ hi ≤ k) → w'.heap[k]? = w.heap[k]?

theorem Touch.refl (lo hi : Nat) (w : World) : Touch lo hi w w := ⟨rfl, rfl, rfl, Nat.le_refl _, fun _ _ _ => rfl⟩

theorem Touch.trans {lo hi : Nat} {a b c : World} (h : Touch lo hi a b) (k : Touch lo hi b c) : Touch lo hi a c :=
  ⟨k.os.trans h.os, k.tape.trans h.tape, k.output.trans h.output, Nat.le_trans h.size k.size, fun i hi h' => (k.block i (Nat.lt_of_lt_of_le hi h.size) h').trans (h.block i hi h')⟩

theorem Touch.of_below {lo hi B : Nat} {w w' : World} (h : Below B w w') (hB : w.heap.size ≤ B) : Touch lo hi w w' :=
  ⟨h.os, h.tape, h.output, h.size, fun k hk _ => h.block k (by omega)⟩

theorem Touch.setCell {lo hi : Nat} (w : World) (p : Addr) (u : Value) (h1 : lo ≤ p.block) (h2 : p.block < hi) : Touch lo hi w (w.setCell p u) :=
  ⟨rfl, rfl, rfl, by simp, fun k _ hk => heap_setCell_other w p k u (by omega)⟩

/-- Below what was there: a step that touches the call's own blocks alone. -/
theorem below_touch {B lo hi : Nat} {w w1 w2 : World} (h : Below B w w1) (t : Touch lo hi w1 w2) (hB : B ≤ lo) (hs : B ≤ w1.heap.size) : Below B w w2 :=
  h.trans ⟨t.os, t.tape, t.output, t.size, fun k hk => t.block k (by omega) (.inl (by omega))⟩

/-- A slice of strings of the call's own, in the blocks lo .. hi - 1. -/
structure OwnS (w : World) (lo hi : Nat) (a : Option Addr) (n c : Nat) (ss : List ByteArray) : Prop where
  own : w.ownsRow lo 9 1 (.slice a n c) n (ss.map Value.string)
  lt : ∀ x, a = some x → x.block < hi
  sizes : ∀ j, j < n → (nth ss j).size ≤ maxLen
  top : hi ≤ w.heap.size

theorem OwnS.strs {w : World} {lo hi n c : Nat} {a : Option Addr} {ss : List ByteArray} (h : OwnS w lo hi a n c ss) : Strs w a n c ss := Strs.of_owns h.own h.sizes

theorem OwnS.of {w : World} {lo n c : Nat} {a : Option Addr} {ss : List ByteArray} (h : w.ownsRow lo 9 1 (.slice a n c) n (ss.map Value.string)) (hs : ∀ j, j < n → (nth ss j).size ≤ maxLen) : OwnS w lo w.heap.size a n c ss :=
  ⟨h, fun x hx => by subst hx; exact (h.lt _ rfl).2, hs, Nat.le_refl _⟩

theorem owns_of_block {w w' : World} {lo n c : Nat} {a : Option Addr} {xs : List Value} (h : w.ownsRow lo 9 1 (.slice a n c) n xs) (hb : ∀ x, a = some x → w'.heap[x.block]? = w.heap[x.block]?) : w'.ownsRow lo 9 1 (.slice a n c) n xs := by
  refine ⟨h.1, ?_⟩
  rcases h.2 with h2 | ⟨g, cap, cur, hv, h3, hg, h4⟩
  · exact .inl h2
  · refine .inr ⟨g, cap, cur, hv, h3, ?_, h4⟩
    simp only [Value.slice.injEq] at hv
    rw [← hg]
    exact hb ⟨g, 0, none⟩ hv.1

theorem OwnS.below {w w' : World} {lo hi n c B : Nat} {a : Option Addr} {ss : List ByteArray} (h : OwnS w lo hi a n c ss) (hb : Below B w w') (hB : hi ≤ B) : OwnS w' lo hi a n c ss :=
  ⟨owns_of_block h.own (fun x hx => hb.block _ (by have := h.lt x hx; omega)), h.lt, h.sizes, Nat.le_trans h.top hb.size⟩

theorem OwnS.touch {w w' : World} {lo hi n c lo' hi' : Nat} {a : Option Addr} {ss : List ByteArray} (h : OwnS w lo hi a n c ss) (t : Touch lo' hi' w w') (hd : hi ≤ lo' ∨ hi' ≤ lo) : OwnS w' lo hi a n c ss :=
  ⟨owns_of_block h.own (fun x hx => t.block _ (by have := h.lt x hx; have := h.top; omega) (by
    have h1 := h.lt x hx
    have h2 : lo ≤ x.block := by subst hx; exact (h.own.lt _ rfl).1
    omega)), h.lt, h.sizes, Nat.le_trans h.top t.size⟩

theorem Strs.touch {w w' : World} {lo hi n c B : Nat} {a : Option Addr} {ss : List ByteArray} (h : Strs w a n c ss) (t : Touch lo hi w w') (hB : ∀ x, a = some x → x.block < B) (hlo : B ≤ lo) : Strs w' a n c ss :=
  ⟨h.len, h.cap, h.small, h.sizes, fun j hj => by
    obtain ⟨b, off, ha, hlt, hc⟩ := h.cells j hj
    refine ⟨b, off, ha, Nat.lt_of_lt_of_le hlt t.size, ?_⟩
    rw [← hc]
    exact World.cell?_of_block (t.block b hlt (.inl (by have := hB _ ha; simp at this; omega)))⟩

theorem owns_mono {w : World} {base base' e n : Nat} {v : Value} {xs : List Value} (h : w.ownsRow base e 1 v n xs) (hb : base' ≤ base) : w.ownsRow base' e 1 v n xs := by
  refine ⟨h.1, ?_⟩
  rcases h.2 with h2 | ⟨g, cap, cur, hv, h3, h4⟩
  · exact .inl h2
  · exact .inr ⟨g, cap, cur, hv, Nat.le_trans hb h3, h4⟩

end Go.Proofs.YthdoakeocaegkaaDoor

/-
  JW, JX, JY. Own work.
-/
import Derived.Test.YtddpcehgopeklaaGreatDoorMXAE
import Derived.Test.YtddpcehgopeklaaGreatDoorMXAP
import Derived.Test.YtddpcehgopeklaaGreatDoorMXAQ
import Derived.Test.YtddpcehgopeklaaGreatDoorMXAR
import Derived.LoopN
import Derived.Deep.AppendLies
import Derived.Test.YtddpcehgopeklaaGreatDoorVPL
namespace Go.Proofs.YtddpcehgopeklaaGreatDoor
open Go.RowKit
set_option linter.unusedVariables false

/-- the checker lies in block cb; all of its own lies from B on -/
structure Ck (B cb : Nat) (ts tt : List Int) (mv lv tv : Value) (w : World) : Prop where
  row : Row w cb #[mv, lv, tv] 96
  lets : w.ownsRow B 3 1 lv ts.length (intsV ts)
  types : w.ownsRow B 3 1 tv tt.length (intsV tt)
  low : B ≤ cb
  apart : ∀ q, lv.ownBlock = some q → tv.ownBlock ≠ some q

/-- what stands while types are found: all but the checker and the row of its types -/
structure Kt (B cb : Nat) (tv : Value) (w : World) (tv' : Value) (w' : World) : Prop where
  low : Below B w w'
  keep : ∀ k, k < w.heap.size → k ≠ cb → some k ≠ tv.ownBlock → w'.heap[k]? = w.heap[k]?
  new : ∀ q, tv'.ownBlock = some q → tv.ownBlock = some q ∨ w.heap.size ≤ q

theorem Kt.refl (B cb : Nat) (tv : Value) (w : World) : Kt B cb tv w tv w := ⟨Below.refl _ _, fun _ _ _ _ => rfl, fun q h => .inl h⟩

theorem Kt.trans {B cb : Nat} {tv tv1 tv2 : Value} {w w1 w2 : World} (h : Kt B cb tv w tv1 w1) (k : Kt B cb tv1 w1 tv2 w2) : Kt B cb tv w tv2 w2 :=
  ⟨h.low.trans k.low, fun q h1 h2 h3 => by
    have hne : some q ≠ tv1.ownBlock := fun e => by
      rcases h.new q e.symm with e2 | e2
      · exact h3 e2.symm
      · omega
    exact (k.keep q (Nat.lt_of_lt_of_le h1 h.low.size) h2 hne).trans (h.keep q h1 h2 h3), fun q hq => by
    rcases k.new q hq with e | e
    · exact h.new q e
    · exact .inr (Nat.le_trans h.low.size e)⟩

theorem Kt.of_all {B cb : Nat} {tv : Value} {w w' : World} (h : Below w.heap.size w w') (hB : B ≤ w.heap.size) : Kt B cb tv w tv w' :=
  ⟨h.mono hB, fun k hk _ _ => h.block k hk, fun q hq => .inl hq⟩

theorem Ck.below {B cb : Nat} {ts tt : List Int} {mv lv tv : Value} {w w' : World} (h : Ck B cb ts tt mv lv tv w) (hb : Below w.heap.size w w') : Ck B cb ts tt mv lv tv w' :=
  ⟨h.row.after hb (Nat.le_refl _), owns_blocks2 h.lets (fun q hq => hb.block q (h.lets.lt q hq).2), owns_blocks2 h.types (fun q hq => hb.block q (h.types.lt q hq).2), h.low, h.apart⟩

theorem Kt.row {B cb : Nat} {tv tv' : Value} {w w' : World} (h : Kt B cb tv w tv' w') {g : Nat} {cs : Array Value} {t : TypeId} (R : Row w g cs t) (hg : g ≠ cb) (hv : tv.ownBlock ≠ some g) : Row w' g cs t :=
  ⟨(h.keep g R.lt hg (fun e => hv e.symm)).trans R.out⟩

theorem Ck.push {B cb : Nat} {ts tt : List Int} {mv lv tv : Value} {w w3 : World} {o : Obj} {t : Int} {g cap : Nat} (h : Ck B cb ts tt mv lv tv w) (hB : B ≤ w.heap.size)
    (O3 : w3.ownsRow B 3 1 (.slice (some ⟨g, 0, none⟩) (tt.length + 1) cap) (tt.length + 1) (intsV tt ++ [.int .i64 t])) (hgrow : (w.alloc o).grownBy w3 tv.ownBlock) (hat : tv.ownBlock = some g ∨ g = w.heap.size + 1) :
    Row w3 cb #[mv, lv, tv] 96 ∧ Ck B cb ts (tt ++ [t]) mv lv (.slice (some ⟨g, 0, none⟩) (tt.length + 1) cap) (w3.setCell ⟨cb, 2, none⟩ (.slice (some ⟨g, 0, none⟩) (tt.length + 1) cap)) ∧ Kt B cb tv w (.slice (some ⟨g, 0, none⟩) (tt.length + 1) cap) (w3.setCell ⟨cb, 2, none⟩ (.slice (some ⟨g, 0, none⟩) (tt.length + 1) cap)) := by
  have n1 := own_ne_row h.row h.lets (by decide)
  have n2 := own_ne_row h.row h.types (by decide)
  have R3 := (h.row.alloc o).grown hgrow (fun e => n2 e.symm)
  have n3 := own_ne_row R3 O3 (by decide)
  have ng : g ≠ cb := fun e => n3 (by rw [e]; rfl)
  have za : (w.alloc o).heap.size = w.heap.size + 1 := by simp
  have kb : ∀ k, k < w.heap.size → k ≠ cb → some k ≠ tv.ownBlock → (w3.setCell ⟨cb, 2, none⟩ (.slice (some ⟨g, 0, none⟩) (tt.length + 1) cap)).heap[k]? = w.heap[k]? := fun k h1 h2 h3 =>
    (heap_setCell_other w3 ⟨cb, 2, none⟩ k _ h2).trans ((hgrow.block k (by rw [za]; omega) h3).trans (Below.heap_alloc w o k h1))
  refine ⟨R3, ⟨R3.set 2 (.slice (some ⟨g, 0, none⟩) (tt.length + 1) cap), owns_blocks2 h.lets (fun q hq => kb q (h.lets.lt q hq).2 (fun e => n1 (e ▸ hq)) (fun e => h.apart q hq e.symm)), ?_, h.low, fun q hq e => ?_⟩, ⟨?_, kb, fun q hq => ?_⟩⟩
  · rw [intsV, List.map_append, List.length_append]
    refine own_set3 O3 ⟨cb, 2, none⟩ _ (fun q hq => ?_)
    have : g = q := by simpa [Value.ownBlock] using hq
    subst this
    exact ng
  · have : g = q := by simpa [Value.ownBlock] using e
    subst this
    rcases hat with hat | hat
    · exact h.apart g hq hat
    · have := (h.lets.lt g hq).2; omega
  · exact (((Below.refl B w).alloc hB o).grown hgrow (by rw [za]; omega) (fun q hq => (h.types.lt q hq).1)).setCell (p := ⟨cb, 2, none⟩) h.low _
  · have : g = q := by simpa [Value.ownBlock] using hq
    subst this
    rcases hat with hat | hat
    · exact .inl hat
    · right; omega

end Go.Proofs.YtddpcehgopeklaaGreatDoor

namespace Go.Proofs.YtddpcehgopeklaaGreatDoor
open Go.RowKit
set_option linter.unusedVariables false

theorem Ck.other {B cb : Nat} {ts tt : List Int} {mv lv tv : Value} {w w3 : World} {o : Obj} {row : Option Nat} (h : Ck B cb ts tt mv lv tv w) (hgrow : (w.alloc o).grownBy w3 row) (h1 : row ≠ some cb) (h2 : ∀ q, lv.ownBlock = some q → row ≠ some q) (h3 : ∀ q, tv.ownBlock = some q → row ≠ some q) : Ck B cb ts tt mv lv tv w3 := by
  have za : (w.alloc o).heap.size = w.heap.size + 1 := by simp
  have kb : ∀ k, k < w.heap.size → row ≠ some k → w3.heap[k]? = w.heap[k]? := fun k hk hne => (hgrow.block k (by rw [za]; omega) (fun e => hne e.symm)).trans (Below.heap_alloc w o k hk)
  exact ⟨⟨(kb cb h.row.lt h1).trans h.row.out⟩, owns_blocks2 h.lets (fun q hq => kb q (h.lets.lt q hq).2 (h2 q hq)), owns_blocks2 h.types (fun q hq => kb q (h.types.lt q hq).2 (h3 q hq)), h.low, h.apart⟩

theorem Kt.other {B cb : Nat} {tv tv1 : Value} {w w2 w3 : World} {o : Obj} {row : Option Nat} (K : Kt B cb tv w tv1 w2) (hgrow : (w2.alloc o).grownBy w3 row) (hB : B ≤ w.heap.size) (hr : ∀ q, row = some q → w.heap.size ≤ q) : Kt B cb tv w tv1 w3 := by
  have za : (w2.alloc o).heap.size = w2.heap.size + 1 := by simp
  have zs := K.low.size
  refine ⟨(K.low.alloc (Nat.le_trans hB zs) o).grown hgrow (by rw [za]; omega) (fun q hq => Nat.le_trans hB (hr q hq)), fun k h1 h2 h3 => ?_, K.new⟩
  refine (hgrow.block k (by rw [za]; omega) (fun e => ?_)).trans ((Below.heap_alloc w2 o k (by omega)).trans (K.keep k h1 h2 h3))
  have := hr k e.symm
  omega

/-- a checker at work on a node: the row of its kids, the row of their types so far -/
structure Kx (B cb g : Nat) (w : World) (tv : Value) (ts tt : List Int) (mv lv tv1 kv : Value) (ks : List Int) (vs : Array Value) (w2 : World) : Prop where
  C : Ck B cb ts tt mv lv tv1 w2
  K : Kt B cb tv w tv1 w2
  R : Row w2 g vs 88
  O : w2.ownsRow B 3 1 kv ks.length (intsV ks)
  hB : B ≤ w.heap.size
  cbw : cb < w.heap.size
  lvw : ∀ q, lv.ownBlock = some q → q < w.heap.size
  g0 : w.heap.size ≤ g
  gtv : tv1.ownBlock ≠ some g
  k0 : ∀ q, kv.ownBlock = some q → w.heap.size ≤ q ∧ q ≠ g ∧ tv1.ownBlock ≠ some q

theorem Kx.call {B cb g : Nat} {w w2 w3 : World} {tv tv1 tv2 mv lv kv : Value} {ts tt ys ks : List Int} {vs : Array Value} (h : Kx B cb g w tv ts tt mv lv tv1 kv ks vs w2) (C3 : Ck B cb ts (tt ++ ys) mv lv tv2 w3) (K3 : Kt B cb tv1 w2 tv2 w3) : Kx B cb g w tv ts (tt ++ ys) mv lv tv2 kv ks vs w3 := by
  have hcb := h.cbw
  have hg := h.g0
  refine ⟨C3, h.K.trans K3, K3.row h.R (by omega) h.gtv, owns_blocks2 h.O (fun q hq => ?_), h.hB, hcb, h.lvw, hg, fun e => ?_, fun q hq => ?_⟩
  · obtain ⟨q1, q2, q3⟩ := h.k0 q hq
    exact K3.keep q (h.O.lt q hq).2 (by omega) (fun e => q3 e.symm)
  · rcases K3.new g e with e2 | e2
    · exact h.gtv e2
    · have := h.R.lt; omega
  · obtain ⟨q1, q2, q3⟩ := h.k0 q hq
    refine ⟨q1, q2, fun e => ?_⟩
    rcases K3.new q e with e2 | e2
    · exact q3 e2
    · have := (h.O.lt q hq).2; omega

theorem Kx.app {B cb g : Nat} {w w2 w3 : World} {tv tv1 mv lv kv : Value} {ts tt ks : List Int} {vs : Array Value} {o : Obj} {a : Int} {gk cap : Nat} (h : Kx B cb g w tv ts tt mv lv tv1 kv ks vs w2)
    (Ok : w3.ownsRow B 3 1 (.slice (some ⟨gk, 0, none⟩) (ks.length + 1) cap) (ks.length + 1) (intsV ks ++ [.int .i64 a])) (hgrow : (w2.alloc o).grownBy w3 kv.ownBlock) (hat : kv.ownBlock = some gk ∨ gk = w2.heap.size + 1) :
    Kx B cb g w tv ts tt mv lv tv1 (.slice (some ⟨gk, 0, none⟩) (ks.length + 1) cap) (ks ++ [a]) vs w3 := by
  have hcb := h.cbw
  have hg := h.g0
  have zs := h.K.low.size
  refine ⟨h.C.other hgrow (fun e => ?_) (fun q hq e => ?_) (fun q hq e => ?_), h.K.other hgrow h.hB (fun q hq => (h.k0 q hq).1), (h.R.alloc o).grown hgrow (fun e => ?_), ?_, h.hB, hcb, h.lvw, hg, h.gtv, fun q hq => ?_⟩
  · have := (h.k0 cb e).1; omega
  · have := (h.k0 q e).1; have := h.lvw q hq; omega
  · exact (h.k0 q e).2.2 hq
  · exact (h.k0 g e.symm).2.1 rfl
  · rw [intsV, List.map_append, List.length_append]
    exact Ok
  · obtain rfl : gk = q := by simpa [Value.ownBlock] using hq
    rcases hat with e | e
    · exact h.k0 gk e
    · have := h.R.lt
      refine ⟨by omega, by omega, fun e2 => ?_⟩
      have := (h.C.types.lt gk e2).2
      omega

/-- types that are there -/
def inTy (o : Option Int) : Prop := ∀ a, o = some a → 1 ≤ a ∧ a ≤ 4

end Go.Proofs.YtddpcehgopeklaaGreatDoor

namespace Go.Proofs.YtddpcehgopeklaaGreatDoor
open Go.RowKit
set_option linter.unusedVariables false

theorem tyOp1_in (op a : Int) : inTy (nz (tyOp op [a])) := fun t h => by
  obtain ⟨h1, h2⟩ := nz_some h
  rw [tyOp] at h1
  repeat' split at h1
  all_goals omega

theorem tyOp2_in (op a b : Int) : inTy (nz (tyOp op [a, b])) := fun t h => by
  obtain ⟨h1, h2⟩ := nz_some h
  rw [tyOp] at h1
  clear h
  repeat' split at h1
  all_goals
    subst h1
    first
      | decide
      | exact absurd rfl h2

theorem tyOp3_in (a b c : Int) (hb : 1 ≤ b ∧ b ≤ 4) : inTy (nz (tyOp 27 [a, b, c])) := fun t h => by
  obtain ⟨h1, h2⟩ := nz_some h
  rw [tyOp] at h1
  repeat' split at h1
  all_goals omega

theorem ints_noneJ (w : World) : Ints w none 0 0 [] := ⟨rfl, by decide, fun j h => absurd h (by simp)⟩

end Go.Proofs.YtddpcehgopeklaaGreatDoor

/-
  JZ, JP, JQ. Own work.
-/
import Derived.Test.YtddpcehgopeklaaGreatDoorMXAS
import Derived.MapKept
import Derived.Maps.Own
import Derived.Maps.OwnOps
import Derived.Deep.RegionLaw
namespace Go.Proofs.YtddpcehgopeklaaGreatDoor
open Go.RowKit
set_option linter.unusedVariables false

/-- a map whose keys are these names -/
def MapK (w : World) (mb : Nat) (ns : List ByteArray) : Prop := ∃ (es : Array MapEntry) (cl : Nat), w.heap[mb]? = some (.map es cl) ∧ es.toList.map (·.key) = ns.map Value.string ∧ ∀ m ∈ es.toList, ∃ b n t, m.val = .agg #[.bool b, .int .i64 n, .int .i64 t]

theorem MapK.keep {w w' : World} {mb : Nat} {ns : List ByteArray} (h : MapK w mb ns) (hb : w'.heap[mb]? = w.heap[mb]?) : MapK w' mb ns := by
  obtain ⟨es, cl, h1, h2, h3⟩ := h
  exact ⟨es, cl, hb.trans h1, h2, h3⟩

theorem MapK.lt {w : World} {mb : Nat} {ns : List ByteArray} (h : MapK w mb ns) : mb < w.heap.size := by
  obtain ⟨es, cl, h1, _⟩ := h
  exact (Array.getElem?_eq_some_iff.1 h1).1

end Go.Proofs.YtddpcehgopeklaaGreatDoor

namespace Go.Proofs.YtddpcehgopeklaaGreatDoor
open Go.RowKit
set_option linter.unusedVariables false

def attN : List ByteArray := [⟨#[99, 108, 105, 101, 110, 116]⟩, ⟨#[117, 115, 101, 114]⟩, ⟨#[108, 101, 118, 101, 108]⟩, ⟨#[110, 111, 119]⟩, ⟨#[97, 115, 107, 101, 100]⟩, ⟨#[97, 103, 114, 101, 101, 100]⟩]

theorem alloc_at (w : World) (o : Obj) : (w.alloc o).heap[w.heap.size]? = some o := by
  show (w.heap.push o)[w.heap.size]? = some o
  exact Array.getElem?_push_size

theorem attV_row : ∀ k, k < 6 → attV.extract (k * 2) (k * 2 + 2) = #[.string (attN.getD k ⟨#[]⟩), .int .i64 (attrTy k)]
  | 0, _ => rfl
  | 1, _ => rfl
  | 2, _ => rfl
  | 3, _ => rfl
  | 4, _ => rfl
  | 5, _ => rfl
  | n + 6, h => absurd h (by omega)

end Go.Proofs.YtddpcehgopeklaaGreatDoor

namespace Go.Proofs.YtddpcehgopeklaaGreatDoor
open Go.RowKit
set_option linter.unusedVariables false

/-- the checker with its names -/
structure Cm (B cb mb : Nat) (ns : List ByteArray) (ts tt : List Int) (lv tv : Value) (w : World) : Prop where
  C : Ck B cb ts tt (.map (some mb)) lv tv w
  M : MapK w mb ns
  low : B ≤ mb

theorem Cm.ne {B cb mb : Nat} {ns : List ByteArray} {ts tt : List Int} {lv tv : Value} {w : World} (h : Cm B cb mb ns ts tt lv tv w) : mb ≠ cb ∧ lv.ownBlock ≠ some mb ∧ tv.ownBlock ≠ some mb := by
  obtain ⟨es, cl, h1, _⟩ := h.M
  refine ⟨fun e => ?_, fun e => ?_, fun e => ?_⟩
  · subst e; have := h.C.row.out.symm.trans h1; simp at this
  · rcases h.C.lets.2 with ⟨hv, _⟩ | ⟨g, cap, cur, hv, _, hg, _⟩
    · rw [hv] at e; cases e
    · rw [hv] at e
      obtain rfl : g = mb := by simpa [Value.ownBlock] using e
      have := hg.symm.trans h1; simp at this
  · rcases h.C.types.2 with ⟨hv, _⟩ | ⟨g, cap, cur, hv, _, hg, _⟩
    · rw [hv] at e; cases e
    · rw [hv] at e
      obtain rfl : g = mb := by simpa [Value.ownBlock] using e
      have := hg.symm.trans h1; simp at this

/-- what stands while a statement is looked at -/
structure Kd (B cb mb : Nat) (lv tv : Value) (w : World) (lv' tv' : Value) (w' : World) : Prop where
  low : Below B w w'
  keep : ∀ k, k < w.heap.size → k ≠ cb → k ≠ mb → some k ≠ lv.ownBlock → some k ≠ tv.ownBlock → w'.heap[k]? = w.heap[k]?
  newl : ∀ q, lv'.ownBlock = some q → lv.ownBlock = some q ∨ w.heap.size ≤ q
  newt : ∀ q, tv'.ownBlock = some q → tv.ownBlock = some q ∨ w.heap.size ≤ q

theorem Kd.refl (B cb mb : Nat) (lv tv : Value) (w : World) : Kd B cb mb lv tv w lv tv w := ⟨Below.refl _ _, fun _ _ _ _ _ _ => rfl, fun q h => .inl h, fun q h => .inl h⟩

theorem Kd.trans {B cb mb : Nat} {lv tv lv1 tv1 lv2 tv2 : Value} {w w1 w2 : World} (h : Kd B cb mb lv tv w lv1 tv1 w1) (k : Kd B cb mb lv1 tv1 w1 lv2 tv2 w2) : Kd B cb mb lv tv w lv2 tv2 w2 := by
  refine ⟨h.low.trans k.low, fun q h1 h2 h3 h4 h5 => ?_, fun q hq => ?_, fun q hq => ?_⟩
  · refine (k.keep q (Nat.lt_of_lt_of_le h1 h.low.size) h2 h3 (fun e => ?_) (fun e => ?_)).trans (h.keep q h1 h2 h3 h4 h5)
    · rcases h.newl q e.symm with e2 | e2
      · exact h4 e2.symm
      · omega
    · rcases h.newt q e.symm with e2 | e2
      · exact h5 e2.symm
      · omega
  · rcases k.newl q hq with e | e
    · exact h.newl q e
    · exact .inr (Nat.le_trans h.low.size e)
  · rcases k.newt q hq with e | e
    · exact h.newt q e
    · exact .inr (Nat.le_trans h.low.size e)

theorem Kd.of_kt {B cb mb : Nat} {lv tv tv' : Value} {w w' : World} (h : Kt B cb tv w tv' w') : Kd B cb mb lv tv w lv tv' w' :=
  ⟨h.low, fun k h1 h2 _ _ h5 => h.keep k h1 h2 h5, fun q hq => .inl hq, h.new⟩

theorem Kd.of_all {B cb mb : Nat} {lv tv : Value} {w w' : World} (h : Below w.heap.size w w') (hB : B ≤ w.heap.size) : Kd B cb mb lv tv w lv tv w' := .of_kt (Kt.of_all h hB)

theorem Cm.of_kt {B cb mb : Nat} {ns : List ByteArray} {ts tt tt' : List Int} {lv tv tv' : Value} {w w' : World} (h : Cm B cb mb ns ts tt lv tv w) (C' : Ck B cb ts tt' (.map (some mb)) lv tv' w') (K : Kt B cb tv w tv' w') : Cm B cb mb ns ts tt' lv tv' w' :=
  ⟨C', h.M.keep (K.keep mb h.M.lt h.ne.1 (fun e => h.ne.2.2 e.symm)), h.low⟩

theorem Cm.below {B cb mb : Nat} {ns : List ByteArray} {ts tt : List Int} {lv tv : Value} {w w' : World} (h : Cm B cb mb ns ts tt lv tv w) (hb : Below w.heap.size w w') : Cm B cb mb ns ts tt lv tv w' :=
  ⟨h.C.below hb, h.M.keep (hb.block mb h.M.lt), h.low⟩

theorem Ck.pushL {B cb : Nat} {ts tt : List Int} {mv lv tv : Value} {w w3 : World} {o : Obj} {t : Int} {g cap : Nat} (h : Ck B cb ts tt mv lv tv w) (hB : B ≤ w.heap.size)
    (O3 : w3.ownsRow B 3 1 (.slice (some ⟨g, 0, none⟩) (ts.length + 1) cap) (ts.length + 1) (intsV ts ++ [.int .i64 t])) (hgrow : (w.alloc o).grownBy w3 lv.ownBlock) (hat : lv.ownBlock = some g ∨ g = w.heap.size + 1) :
    Row w3 cb #[mv, lv, tv] 96 ∧ Ck B cb (ts ++ [t]) tt mv (.slice (some ⟨g, 0, none⟩) (ts.length + 1) cap) tv (w3.setCell ⟨cb, 1, none⟩ (.slice (some ⟨g, 0, none⟩) (ts.length + 1) cap)) ∧ Below B w (w3.setCell ⟨cb, 1, none⟩ (.slice (some ⟨g, 0, none⟩) (ts.length + 1) cap)) ∧
    (∀ k, k < w.heap.size → k ≠ cb → some k ≠ lv.ownBlock → (w3.setCell ⟨cb, 1, none⟩ (.slice (some ⟨g, 0, none⟩) (ts.length + 1) cap)).heap[k]? = w.heap[k]?) := by
  have n1 := own_ne_row h.row h.lets (by decide)
  have n2 := own_ne_row h.row h.types (by decide)
  have R3 := (h.row.alloc o).grown hgrow (fun e => n1 e.symm)
  have n3 := own_ne_row R3 O3 (by decide)
  have ng : g ≠ cb := fun e => n3 (by rw [e]; rfl)
  have za : (w.alloc o).heap.size = w.heap.size + 1 := by simp
  have kb : ∀ k, k < w.heap.size → k ≠ cb → some k ≠ lv.ownBlock → (w3.setCell ⟨cb, 1, none⟩ (.slice (some ⟨g, 0, none⟩) (ts.length + 1) cap)).heap[k]? = w.heap[k]? := fun k h1 h2 h3 =>
    (heap_setCell_other w3 ⟨cb, 1, none⟩ k _ h2).trans ((hgrow.block k (by rw [za]; omega) h3).trans (Below.heap_alloc w o k h1))
  refine ⟨R3, ⟨R3.set 1 (.slice (some ⟨g, 0, none⟩) (ts.length + 1) cap), ?_, owns_blocks2 h.types (fun q hq => kb q (h.types.lt q hq).2 (fun e => n2 (e ▸ hq)) (fun e => h.apart q e.symm hq)), h.low, fun q hq e => ?_⟩, ?_, kb⟩
  · rw [intsV, List.map_append, List.length_append]
    refine own_set3 O3 ⟨cb, 1, none⟩ _ (fun q hq => ?_)
    have : g = q := by simpa [Value.ownBlock] using hq
    subst this
    exact ng
  · have : g = q := by simpa [Value.ownBlock] using hq
    subst this
    rcases hat with hat | hat
    · exact h.apart g hat e
    · have := (h.types.lt g e).2; omega
  · exact (((Below.refl B w).alloc hB o).grown hgrow (by rw [za]; omega) (fun q hq => (h.lets.lt q hq).1)).setCell (p := ⟨cb, 1, none⟩) h.low _

end Go.Proofs.YtddpcehgopeklaaGreatDoor

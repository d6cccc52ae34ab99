/-
  VPH, QE0. Own work.
-/
import Derived.Test.YtddpcehgopeklaaGreatDoorMXAL
import Derived.Test.YtddpcehgopeklaaGreatDoorMXAN
import Derived.Test.YtddpcehgopeklaaGreatDoorMXAG
import Derived.Test.YtddpcehgopeklaaGreatDoorMXAE
namespace Go.Proofs.YtddpcehgopeklaaGreatDoor
open Go.RowKit
set_option linter.unusedVariables false

/-- One node, at a place. -/
def NdAt (w : World) (b o : Nat) (x : Nd) : Prop := ∃ an nn cn ak nk ck, w.cell? ⟨b, o, none⟩ = some (.int .i64 x.op) ∧ w.cell? ⟨b, o + 1, none⟩ = some (.int .i64 x.num) ∧ w.cell? ⟨b, o + 2, none⟩ = some (.string x.text) ∧ w.cell? ⟨b, o + 3, none⟩ = some (.slice an nn cn) ∧ w.cell? ⟨b, o + 4, none⟩ = some (.slice ak nk ck) ∧ Strs w an nn cn x.names ∧ Ints w ak nk ck x.kids

/-- A slice of nodes. -/
structure Nds (w : World) (a : Option Addr) (n c : Nat) (L : List Nd) : Prop where
  len : L.length = n
  small : n ≤ 1048576
  sizes : ∀ x ∈ L, x.text.size ≤ 1048576
  cells : ∀ j, (h : j < L.length) → ∃ b off, a = some ⟨b, off, none⟩ ∧ b < w.heap.size ∧ NdAt w b (off + j * 5) L[j]

theorem NdAt.below {w w' : World} {B b o : Nat} {x : Nd} (h : NdAt w b o x) (hl : b < w.heap.size) (hb : Below B w w') (hB : w.heap.size ≤ B) : NdAt w' b o x := by
  obtain ⟨an, nn, cn, ak, nk, ck, c0, c1, c2, c3, c4, hN, hK⟩ := h
  have hl' : b < B := by omega
  exact ⟨an, nn, cn, ak, nk, ck, (hb.cell (p := ⟨b, o, none⟩) hl').trans c0, (hb.cell (p := ⟨b, o + 1, none⟩) hl').trans c1, (hb.cell (p := ⟨b, o + 2, none⟩) hl').trans c2, (hb.cell (p := ⟨b, o + 3, none⟩) hl').trans c3, (hb.cell (p := ⟨b, o + 4, none⟩) hl').trans c4, hN.below hb hB, hK.below hb hB⟩

theorem Nds.below {w w' : World} {B : Nat} {a : Option Addr} {n c : Nat} {L : List Nd} (h : Nds w a n c L) (hb : Below B w w') (hB : w.heap.size ≤ B) : Nds w' a n c L :=
  ⟨h.len, h.small, h.sizes, fun j hj => by
    obtain ⟨b, off, ha, hl, hc⟩ := h.cells j hj
    exact ⟨b, off, ha, Nat.lt_of_lt_of_le hl hb.size, hc.below hl hb hB⟩⟩

/-- The table of operators lies where it is laid. -/
structure TabOK (w : World) : Prop where
  lt : 12 < w.heap.size
  cells : ∀ k, w.cell? ⟨12, k, none⟩ = binV[k]?

theorem TabOK.below {w w' : World} {B : Nat} (h : TabOK w) (hb : Below B w w') (hB : w.heap.size ≤ B) : TabOK w' :=
  ⟨Nat.lt_of_lt_of_le h.lt hb.size, fun k => (hb.cell (p := ⟨12, k, none⟩) (Nat.lt_of_lt_of_le h.lt hB)).trans (h.cells k)⟩

theorem nd_all {w1 w' : World} {b : Nat} {op num : Int} {text : ByteArray} {an ak : Option Addr} {nn cn nk ck : Nat} {t : TypeId} (R : Row w1 b #[.int .i64 op, .int .i64 num, .string text, .slice an nn cn, .slice ak nk ck] t) (hb : Below w1.heap.size w1 w') :
    w'.cell? ⟨b, 0, none⟩ = some (.int .i64 op) ∧ w'.cell? ⟨b, 1, none⟩ = some (.int .i64 num) ∧ w'.cell? ⟨b, 2, none⟩ = some (.string text) ∧ w'.cell? ⟨b, 3, none⟩ = some (.slice an nn cn) ∧ w'.cell? ⟨b, 4, none⟩ = some (.slice ak nk ck) := by
  obtain ⟨c0, c1, c2, c3, c4, _⟩ := row5 (R.after hb (Nat.le_refl _))
  exact ⟨c0, c1, c2, c3, c4⟩

theorem all_iff_at (L : List Nd) : L.all fieldsB = true ↔ ∀ j, (h : j < L.length) → fieldsB L[j] = true := by
  rw [List.all_eq_true]
  constructor
  · intro h j hj; exact h _ (List.getElem_mem hj)
  · intro h x hx
    obtain ⟨j, hj, rfl⟩ := List.getElem_of_mem hx
    exact h j hj

end Go.Proofs.YtddpcehgopeklaaGreatDoor

namespace Go.Proofs.YtddpcehgopeklaaGreatDoor
open Go.RowKit
set_option linter.unusedVariables false

theorem Ex.form (e : Ex) : ∃ t u, e.val = .iface t u := by cases e <;> exact ⟨_, _, rfl⟩

theorem ta_hit {T : TypeId} {fs : Array Field} (hu : Tryz.prog.underlying T = some (.struct fs)) (xT : TypeId) (v : Value) (w : World) : (Instr.typeAssert (.iface T v) xT T true).run Tryz.prog w = .ok (.tuple #[v, .bool true]) w := by simp [Instr.typeAssert, run_underlying hu]

theorem ta_miss {S T : TypeId} {fs : Array Field} {z : Value} (hu : Tryz.prog.underlying T = some (.struct fs)) (hz : ∀ w, (zeroValue T).run Tryz.prog w = .ok z w) (h : S ≠ T) (xT : TypeId) (v : Value) (w : World) : (Instr.typeAssert (.iface S v) xT T true).run Tryz.prog w = .ok (.tuple #[z, .bool false]) w := by simp [Instr.typeAssert, run_underlying hu, hz, h]

end Go.Proofs.YtddpcehgopeklaaGreatDoor

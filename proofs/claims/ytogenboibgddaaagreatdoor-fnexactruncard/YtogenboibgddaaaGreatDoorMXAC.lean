/-
  Sets, Laws0, CMem, Mem, PickP, Ints0, EA, EB0, ES0, Tab0. Own work.
-/
import Derived.Test.YtogenboibgddaaaGreatDoorMXAA
import Derived.WalkKit
import Derived.RegionTactic
import Derived.ChangeAlike
import Derived.Deep.QuietTactic
import Derived.BigQuiet
import Derived.WalkSpells
import Derived.WalkLawsBesides
import Derived.Test.YtogenboibgddaaaGreatDoorRows
import Derived.Deep.Draws
import Derived.Deep.AppendLies
import Derived.Deep.RegionHeld3
import Derived.Deep.RegionLaw
import Derived.OwnWalk
import Derived.Lib.AppendStr
namespace Go.Proofs.YtogenboibgddaaaGreatDoor
open Go.RowKit

/-- The name at a place. -/
def nth (ss : List ByteArray) (k : Nat) : ByteArray := ss.getD k ByteArray.empty

theorem nth_eq (ss : List ByteArray) (k : Nat) (h : k < ss.length) : nth ss k = ss[k] := by
  simp [nth, List.getD, h]

/-- A slice of strings in memory: its elements. -/
structure Strs (w : World) (a : Option Addr) (n c : Nat) (ss : List ByteArray) : Prop where
  len : n = ss.length
  cap : n ≤ c
  small : c ≤ maxLen
  sizes : ∀ j, j < n → (nth ss j).size ≤ maxLen
  cells : ∀ j, j < n → ∃ b off, a = some ⟨b, off, none⟩ ∧ b < w.heap.size ∧ w.cell? ⟨b, off + j, none⟩ = some (.string (nth ss j))

theorem Strs.below {w w' : World} {B : Nat} {a : Option Addr} {n c : Nat} {ss : List ByteArray} (h : Strs w a n c ss) (hb : Below B w w') (hB : w.heap.size ≤ B) : Strs w' a n c ss :=
  ⟨h.len, h.cap, h.small, h.sizes, fun j hj => by
    obtain ⟨b, off, ha, hlt, hc⟩ := h.cells j hj
    exact ⟨b, off, ha, Nat.lt_of_lt_of_le hlt hb.size, by rw [← hc]; exact hb.cell (p := ⟨b, off + j, none⟩) (Nat.lt_of_lt_of_le hlt hB)⟩⟩

/-- All cells at one address. -/
theorem Strs.at {w : World} {a : Option Addr} {n c : Nat} {ss : List ByteArray} (h : Strs w a n c ss) (hn : 0 < n) :
    ∃ b off, a = some ⟨b, off, none⟩ ∧ b < w.heap.size ∧ ∀ j, j < n → w.cell? ⟨b, off + j, none⟩ = some (.string (nth ss j)) := by
  obtain ⟨b, off, ha, hlt, _⟩ := h.cells 0 hn
  refine ⟨b, off, ha, hlt, fun j hj => ?_⟩
  obtain ⟨b', off', ha', _, hc'⟩ := h.cells j hj
  rw [ha] at ha'
  simp only [Option.some.injEq, Addr.mk.injEq, and_true] at ha'
  obtain ⟨rfl, rfl⟩ := ha'
  exact hc'

/-- The order of texts. -/
def sl (a b : ByteArray) : Bool := Op.bytesLess a.toList b.toList

theorem bytesLess_lt : ∀ (x y : List UInt8), Op.bytesLess x y = decide (x < y)
  | [], [] => by simp [Op.bytesLess]
  | _ :: _, [] => by simp [Op.bytesLess]
  | [], _ :: _ => by simp [Op.bytesLess]
  | a :: x, b :: y => by
    rw [Op.bytesLess, bytesLess_lt x y]
    simp only [List.cons_lt_cons_iff]
    by_cases h1 : a < b <;> by_cases h2 : a = b <;> by_cases h3 : x < y <;> simp [h1, h2, h3]

theorem sl_iff (a b : ByteArray) : sl a b = true ↔ a.data.toList < b.data.toList := by
  rw [sl, bytesLess_lt, ByteArray.toList_eq, ByteArray.toList_eq]; simp

theorem sl_trans {a b c : ByteArray} (h : sl a b = true) (k : sl b c = true) : sl a c = true := by
  rw [sl_iff] at *; exact List.lt_trans h k

theorem sl_irrefl (a : ByteArray) : sl a a = false := by
  rw [Bool.eq_false_iff]; intro h; rw [sl_iff] at h; exact List.lt_irrefl _ h

theorem bytes_ext {a b : ByteArray} (h : a.data.toList = b.data.toList) : a = b := by
  cases a with | mk x => cases b with | mk y => cases x; cases y; simp at h; subst h; rfl

theorem sl_tri (a b : ByteArray) (h1 : sl a b = false) (h2 : sl b a = false) : a = b := by
  apply bytes_ext
  rw [Bool.eq_false_iff] at h1 h2
  rw [Ne, sl_iff] at h1 h2
  exact List.le_antisymm (List.not_lt.1 h2) (List.not_lt.1 h1)

theorem sl_asymm {a b : ByteArray} (h : sl a b = true) : sl b a = false := by
  rw [Bool.eq_false_iff]; intro k; have := sl_trans h k; rw [sl_irrefl] at this; cases this

/-- each name behind it is greater -/
def risB (ss : List ByteArray) : Bool := decide (ss.Pairwise fun a b => sl a b = true)

/-- each is a name -/
def allB (ss : List ByteArray) : Bool := ss.all vnB

/-- is it a scope set? -/
def setB (ss : List ByteArray) : Bool := decide (ss.length ≤ 64) && (allB ss && risB ss)

theorem allB_iff (ss : List ByteArray) : allB ss = true ↔ ∀ j, j < ss.length → vnB (nth ss j) = true := by
  rw [allB, List.all_eq_true]
  constructor
  · intro h j hj; rw [nth_eq ss j hj]; exact h _ (List.getElem_mem hj)
  · intro h x hx
    obtain ⟨j, hj, rfl⟩ := List.getElem_of_mem hx
    rw [← nth_eq ss j hj]; exact h j hj

theorem allB_of (ss : List ByteArray) (h : ∀ j, j < ss.length → vnB (nth ss j) = true) : allB ss = true := (allB_iff ss).2 h

theorem allB_not (ss : List ByteArray) (j : Nat) (hj : j < ss.length) (h : vnB (nth ss j) = false) : allB ss = false := by
  rw [Bool.eq_false_iff]; intro k; rw [(allB_iff ss).1 k j hj] at h; cases h

theorem risB_iff (ss : List ByteArray) : risB ss = true ↔ ∀ i j, i < j → j < ss.length → sl (nth ss i) (nth ss j) = true := by
  rw [risB, decide_eq_true_eq, List.pairwise_iff_getElem]
  constructor
  · intro h i j hij hj; rw [nth_eq ss i (by omega), nth_eq ss j hj]; exact h i j (by omega) hj hij
  · intro h i j hi hj hij; rw [← nth_eq ss i hi, ← nth_eq ss j hj]; exact h i j hij hj

theorem risB_not (ss : List ByteArray) (i j : Nat) (hij : i < j) (hj : j < ss.length) (h : sl (nth ss i) (nth ss j) = false) : risB ss = false := by
  rw [Bool.eq_false_iff]; intro k; rw [(risB_iff ss).1 k i j hij hj] at h; cases h

theorem rise_far (ss : List ByteArray) (n : Nat) (h : ∀ i, 0 < i → i < n → sl (nth ss (i - 1)) (nth ss i) = true) : ∀ d i, i + d + 1 < n → sl (nth ss i) (nth ss (i + d + 1)) = true := by
  intro d
  induction d with
  | zero => intro i hi; have := h (i + 1) (by omega) hi; simpa using this
  | succ d ih =>
    intro i hi
    have h1 := ih i (by omega)
    have h2 := h (i + (d + 1) + 1) (by omega) hi
    rw [show i + (d + 1) + 1 - 1 = i + d + 1 from by omega] at h2
    exact sl_trans h1 h2

theorem risB_of_near (ss : List ByteArray) (h : ∀ i, 0 < i → i < ss.length → sl (nth ss (i - 1)) (nth ss i) = true) : risB ss = true := by
  rw [risB_iff]
  intro i j hij hj
  have := rise_far ss ss.length h (j - i - 1) i (by omega)
  rw [show i + (j - i - 1) + 1 = j from by omega] at this
  exact this

theorem setB_long (ss : List ByteArray) (h : 64 < ss.length) : setB ss = false := by
  have : ¬ ss.length ≤ 64 := by omega
  simp [setB, this]

theorem setB_short (ss : List ByteArray) (h : ss.length ≤ 64) : setB ss = (allB ss && risB ss) := by
  simp [setB, h]

end Go.Proofs.YtogenboibgddaaaGreatDoor

namespace Go.Proofs.YtogenboibgddaaaGreatDoor
open Go.RowKit

/-- All bytes of the names. -/
def tot (ss : List ByteArray) : Nat := (ss.map ByteArray.size).sum

theorem tot_take_succ (ss : List ByteArray) (k : Nat) (h : k < ss.length) : tot (ss.take (k + 1)) = tot (ss.take k) + (nth ss k).size := by
  rw [nth_eq ss k h, tot, tot, List.take_succ_eq_append_getElem h, List.map_append, List.sum_append]
  rfl

theorem Strs.of_owns {w : World} {base e : Nat} {a : Option Addr} {n c : Nat} {ss : List ByteArray} (h : w.ownsRow base e 1 (.slice a n c) n (ss.map Value.string)) (hs : ∀ j, j < n → (nth ss j).size ≤ maxLen) :
    Strs w a n c ss := by
  have hlen : ss.length = n := by simpa using h.1
  have h' := h
  rcases h.2 with ⟨hv, h0⟩ | ⟨g, cap, cur, hv, hb, hg, hnc, hcm, hcs, htake⟩
  · simp only [Value.slice.injEq] at hv
    obtain ⟨rfl, rfl, rfl⟩ := hv
    exact ⟨hlen.symm, Nat.le_refl _, Nat.zero_le _, hs, fun j hj => by omega⟩
  · simp only [Value.slice.injEq, true_and] at hv
    obtain ⟨rfl, rfl⟩ := hv
    refine ⟨hlen.symm, hnc, hcm, hs, fun j hj => ⟨g, 0, rfl, ?_, ?_⟩⟩
    · exact (Array.getElem?_eq_some_iff.1 hg).1
    · have := h'.cellAt j (by omega)
      rw [Nat.zero_add, this, nth_eq ss j (by omega)]
      simp [hlen, hj]

/-- What toStringS has made after k rounds. -/
def half (ss : List ByteArray) (n k : Nat) : List ByteArray := (List.range n).map fun j => if j < k then nth ss j else ByteArray.empty

theorem half_zero (ss : List ByteArray) (n : Nat) : half ss n 0 = List.replicate n ByteArray.empty := by
  apply List.ext_getElem
  · simp [half]
  · intro i h1 h2; simp [half]

theorem half_full (ss : List ByteArray) (n : Nat) (h : n = ss.length) : half ss n n = ss := by
  apply List.ext_getElem
  · simp [half, h]
  · intro i h1 h2
    have : i < n := by omega
    simp [half, this, nth_eq ss i h2]

theorem half_set (ss : List ByteArray) (n k : Nat) : ((half ss n k).map Value.string).set k (.string (nth ss k)) = (half ss n (k + 1)).map Value.string := by
  apply List.ext_getElem
  · simp [half]
  · intro i h1 h2
    rw [List.getElem_set]
    simp only [half, List.getElem_map, List.getElem_range]
    by_cases e : k = i
    · subst e; simp
    · rw [if_neg e]
      by_cases h : i < k
      · rw [if_pos h, if_pos (by omega)]
      · rw [if_neg h, if_neg (by omega)]

theorem half_at (ss : List ByteArray) (n k : Nat) (h : k < n) : ((half ss n k).map Value.string)[k]? = some (.string ByteArray.empty) := by
  simp [half, h]

theorem infoS : (Tryz.prog.info? 9).map (fun i => (i.zero, i.size, i.bytes)) = some (some (.string ByteArray.empty), 1, 16) := by kernel_rfl

end Go.Proofs.YtogenboibgddaaaGreatDoor

namespace Go.Proofs.YtogenboibgddaaaGreatDoor
open Go.RowKit

theorem bcell {W w1 : World} (hb : Below W.heap.size W w1) : (∀ b o, b < W.heap.size → w1.cell? ⟨b, o, none⟩ = W.cell? ⟨b, o, none⟩) ∧ (∀ b o, b < W.heap.size → w1.frozen? ⟨b, o, none⟩ = W.frozen? ⟨b, o, none⟩) :=
  ⟨fun b o h => hb.cell (p := ⟨b, o, none⟩) h, fun b o h => hb.frozen (p := ⟨b, o, none⟩) h⟩

/-- Block b holds the cells cs. -/
structure Row (w : World) (b : Nat) (cs : Array Value) (t : TypeId) : Prop where
  out : w.heap[b]? = some (.cells cs t (0, 0))

theorem Row.lt {w : World} {b : Nat} {cs : Array Value} {t : TypeId} (h : Row w b cs t) : b < w.heap.size := (Array.getElem?_eq_some_iff.1 h.out).1

theorem Row.below {w w' : World} {B b : Nat} {cs : Array Value} {t : TypeId} (h : Row w b cs t) (hb : Below B w w') (hB : b < B) : Row w' b cs t := ⟨(hb.block b hB).trans h.out⟩

theorem Row.after {w w' : World} {B b : Nat} {cs : Array Value} {t : TypeId} (h : Row w b cs t) (hb : Below B w w') (hB : w.heap.size ≤ B) : Row w' b cs t := h.below hb (Nat.lt_of_lt_of_le h.lt hB)

theorem Row.alloc {w : World} {b : Nat} {cs : Array Value} {t : TypeId} (h : Row w b cs t) (o : Obj) : Row (w.alloc o) b cs t := ⟨(Below.heap_alloc w o b h.lt).trans h.out⟩

theorem Row.new (w : World) (cs : Array Value) (t : TypeId) : Row (w.alloc (.cells cs t)) w.heap.size cs t := ⟨heap_alloc_new w _⟩

theorem Row.set {w : World} {b : Nat} {cs : Array Value} {t : TypeId} (h : Row w b cs t) (j : Nat) (u : Value) : Row (w.setCell ⟨b, j, none⟩ u) b (cs.setIfInBounds j u) t := ⟨heap_setCell_same w b j cs t u h.out⟩

theorem Row.setFar {w : World} {b : Nat} {cs : Array Value} {t : TypeId} (h : Row w b cs t) {p : Addr} (hp : b ≠ p.block) (u : Value) : Row (w.setCell p u) b cs t := ⟨(heap_setCell_other w p b u hp).trans h.out⟩

theorem Row.cell {w : World} {b : Nat} {cs : Array Value} {t : TypeId} (h : Row w b cs t) (j : Nat) : w.cell? ⟨b, j, none⟩ = cs[j]? := by
  have := cell_of_row w b j cs t (0, 0) h.out
  simpa using this

theorem Row.frozen {w : World} {b : Nat} {cs : Array Value} {t : TypeId} (h : Row w b cs t) (j : Nat) : w.frozen? ⟨b, j, none⟩ = false := frozen_of_row w b j cs t h.out

end Go.Proofs.YtogenboibgddaaaGreatDoor

namespace Go.Proofs.YtogenboibgddaaaGreatDoor
open Go.RowKit

/-- a store into another block -/
theorem Strs.setFar {w : World} {a : Option Addr} {n c : Nat} {ss : List ByteArray} (h : Strs w a n c ss) {p : Addr} (hp : ∀ x, a = some x → p.block ≠ x.block) (u : Value) : Strs (w.setCell p u) a n c ss :=
  ⟨h.len, h.cap, h.small, h.sizes, fun j hj => by
    obtain ⟨b, off, ha, hlt, hc⟩ := h.cells j hj
    refine ⟨b, off, ha, by simpa using hlt, ?_⟩
    rw [← hc]
    exact World.cell?_of_block (heap_setCell_other w p b u (fun e => hp _ ha e.symm))⟩

theorem Strs.drewN {w : World} {a : Option Addr} {n c : Nat} {ss : List ByteArray} (h : Strs w a n c ss) (k : Nat) : Strs (w.drewN k) a n c ss :=
  h.below (below_drewN (Below.refl w.heap.size w) k) (Nat.le_refl _)

end Go.Proofs.YtogenboibgddaaaGreatDoor

namespace Go.Proofs.YtogenboibgddaaaGreatDoor
open Go.RowKit

/-- are the two texts one? -/
def eqS (a b : ByteArray) : Bool := a.toList == b.toList

theorem eqS_iff (a b : ByteArray) : eqS a b = true ↔ a = b := by
  rw [eqS, beq_iff_eq, ByteArray.toList_eq, ByteArray.toList_eq]
  exact ⟨bytes_ext, fun h => by rw [h]⟩

/-- does the text stand in the list? -/
def hasB (ss : List ByteArray) (s : ByteArray) : Bool := ss.any fun x => eqS x s

theorem hasB_iff (ss : List ByteArray) (s : ByteArray) : hasB ss s = true ↔ s ∈ ss := by
  rw [hasB, List.any_eq_true]
  constructor
  · rintro ⟨x, hx, he⟩; rw [eqS_iff] at he; subst he; exact hx
  · intro h; exact ⟨s, h, (eqS_iff _ _).2 rfl⟩

theorem mem_nth (ss : List ByteArray) (s : ByteArray) : s ∈ ss ↔ ∃ j, j < ss.length ∧ nth ss j = s := by
  constructor
  · intro h
    obtain ⟨j, hj, rfl⟩ := List.getElem_of_mem h
    exact ⟨j, hj, nth_eq ss j hj⟩
  · rintro ⟨j, hj, rfl⟩
    rw [nth_eq ss j hj]; exact List.getElem_mem hj

theorem hasB_at (ss : List ByteArray) (s : ByteArray) (j : Nat) (hj : j < ss.length) (h : eqS (nth ss j) s = true) : hasB ss s = true := by
  rw [hasB_iff, mem_nth]; exact ⟨j, hj, (eqS_iff _ _).1 h⟩

theorem hasB_none (ss : List ByteArray) (s : ByteArray) (h : ∀ j, j < ss.length → eqS (nth ss j) s = false) : hasB ss s = false := by
  rw [Bool.eq_false_iff]; intro k; rw [hasB_iff, mem_nth] at k
  obtain ⟨j, hj, e⟩ := k
  have := h j hj
  rw [(eqS_iff _ _).2 e] at this; cases this

/-- What l1pick keeps. -/
def pick (ss tt : List ByteArray) (b : Bool) : List ByteArray := ss.filter fun s => hasB tt s == b

theorem take_succ_nth (ss : List ByteArray) (k : Nat) (h : k < ss.length) : ss.take (k + 1) = ss.take k ++ [nth ss k] := by
  rw [nth_eq ss k h, List.take_succ_eq_append_getElem h]

theorem pick_yes (ss tt : List ByteArray) (b : Bool) (k : Nat) (h : k < ss.length) (hv : (hasB tt (nth ss k) == b) = true) : pick (ss.take (k + 1)) tt b = pick (ss.take k) tt b ++ [nth ss k] := by
  rw [take_succ_nth ss k h, pick, pick, List.filter_append]
  simp [hv]

theorem pick_no (ss tt : List ByteArray) (b : Bool) (k : Nat) (h : k < ss.length) (hv : (hasB tt (nth ss k) == b) = false) : pick (ss.take (k + 1)) tt b = pick (ss.take k) tt b := by
  rw [take_succ_nth ss k h, pick, pick, List.filter_append]
  simp [hv]

theorem pick_len (ss tt : List ByteArray) (b : Bool) : (pick ss tt b).length ≤ ss.length := List.length_filter_le _ _

/-- The value owns its row: its form. -/
theorem owns_form {w : World} {base e n : Nat} {v : Value} {xs : List Value} (h : w.ownsRow base e 1 v n xs) : ∃ x c, v = .slice x n c := by
  rcases h.2 with ⟨rfl, rfl⟩ | ⟨g, cap, cur, rfl, _⟩
  · exact ⟨_, _, rfl⟩
  · exact ⟨_, _, rfl⟩

theorem sizes_pick (ss tt : List ByteArray) (b : Bool) (h : ∀ j, j < ss.length → (nth ss j).size ≤ maxLen) : ∀ j, j < (pick ss tt b).length → (nth (pick ss tt b) j).size ≤ maxLen := by
  intro j hj
  have hm : nth (pick ss tt b) j ∈ ss := by
    rw [nth_eq _ j hj]
    exact (List.mem_filter.1 (List.getElem_mem hj)).1
  obtain ⟨i, hi, e⟩ := (mem_nth _ _).1 hm
  rw [← e]; exact h i hi

end Go.Proofs.YtogenboibgddaaaGreatDoor

namespace Go.Proofs.YtogenboibgddaaaGreatDoor
open Go.RowKit
set_option linter.unusedVariables false

/-- A slice of numbers. -/
structure Ints (w : World) (a : Option Addr) (n c : Nat) (L : List Int) : Prop where
  len : L.length = n
  small : n ≤ 1048576
  cells : ∀ j, (h : j < L.length) → ∃ b off, a = some ⟨b, off, none⟩ ∧ b < w.heap.size ∧ w.cell? ⟨b, off + j, none⟩ = some (.int .i64 L[j])

theorem Ints.below {w w' : World} {B : Nat} {a : Option Addr} {n c : Nat} {L : List Int} (h : Ints w a n c L) (hb : Below B w w') (hB : w.heap.size ≤ B) : Ints w' a n c L :=
  ⟨h.len, h.small, fun j hj => by
    obtain ⟨b, off, ha, hl, c0⟩ := h.cells j hj
    exact ⟨b, off, ha, Nat.lt_of_lt_of_le hl hb.size, (hb.cell (p := ⟨b, off + j, none⟩) (by show b < B; omega)).trans c0⟩⟩

theorem eq_iff_at (A B : List Int) (hl : A.length = B.length) : A = B ↔ ∀ j, (h : j < A.length) → A[j] = B[j]'(hl ▸ h) := by
  constructor
  · intro e j h; subst e; rfl
  · intro h; exact List.ext_getElem hl (fun j h1 h2 => h j h1)

theorem below_drewM (w : World) (m : Nat) : Below w.heap.size w (w.drewN m) := by
  exact ⟨(Below.refl w.heap.size w).os, (Below.refl w.heap.size w).tape, (Below.refl w.heap.size w).output, Nat.le_refl _, fun _ _ => rfl⟩

theorem drewN_more {w wr : World} (h : ∃ m, wr = w.drewN m) : ∃ m, wr.drew = w.drewN m := by
  obtain ⟨m, rfl⟩ := h
  exact ⟨m + 1, rfl⟩

set_option maxRecDepth 100000 in
set_option maxHeartbeats 3200000 in
theorem equalI_q (a b : Option Addr) (n c m d : Nat) (A B : List Int) (w : World) (h1 : Ints w a n c A) (h2 : Ints w b m d B) :
    Calls Tryz.prog 117 #[.slice a n c, .slice b m d] w fun e w' => e = .returned (.bool (decide (A = B))) ∧ ∃ m, w' = w.drewN m := by
  have s1 := h1.small
  have s2 := h2.small
  have HA := hide h1.len
  have HB := hide h2.len
  by_cases hnm : n = m
  · have enm : ((n : Int) != (m : Int)) = false := by rw [hnm]; simp
    have Hll := hide (show A.length = B.length by rw [h1.len, h2.len, hnm])
    have HE := hide (eq_iff_at A B (unhide Hll))
    have Hnm := hide hnm
    clear hnm
    go_enter Tryz.func117, Tryz.ntmps117
    go_wp2_with fail
    go_loopw [13] (fun i wr => ∃ k : Nat, k ≤ n ∧ i = .int .i64 k ∧ (∃ m, wr = w.drewN m) ∧ ∀ j, (h : j < A.length) → j < k → A[j] = B[j]'(unhide Hll ▸ h)) (fun i _ => n - (intOf i).toNat)
    case atStart => exact ⟨0, by omega, rfl, ⟨0, rfl⟩, fun j _ h => absurd h (by omega)⟩
    case round =>
      obtain ⟨k, hk, rfl, hdr, hal⟩ := hrel
      have HD := hide hdr
      have B1 : Below w.heap.size w wr := by obtain ⟨dn, rfl⟩ := hdr; exact below_drewM w dn
      clear hdr
      have Ha := hide hal
      clear hal
      by_cases hlt : k < n
      · have ilt : (k : Int) < (n : Int) := by omega
        have ilm : (k : Int) < (m : Int) := by have := unhide Hnm; omega
        have hka : k < A.length := by rw [unhide HA]; exact hlt
        have hkb : k < B.length := by rw [unhide HB, ← unhide Hnm]; exact hlt
        obtain ⟨b1, o1, rfl, hl1, c1⟩ := (h1.below B1 (Nat.le_refl _)).cells k hka
        obtain ⟨b2, o2, rfl, hl2, c2⟩ := (h2.below B1 (Nat.le_refl _)).cells k hkb
        have Hno := hide (show A[k] ≠ B[k] → decide (A = B) = false from fun e => decide_eq_false (fun e' => e ((unhide HE).1 e' k hka)))
        have HN := hide (show A[k] = B[k] → ∀ j, (h : j < A.length) → j < k + 1 → A[j] = B[j]'(unhide Hll ▸ h) from fun e j hj h' => by
          by_cases ej : j = k
          · subst ej; exact e
          · exact unhide Ha j hj (by omega))
        have Hlt := hide hlt
        clear Ha
        generalize A[k] = x at c1 Hno HN
        generalize B[k] = y at c2 Hno HN
        by_cases hxy : x = y
        · have exy : (x != y) = false := by rw [hxy]; simp
          have HN2 := hide (unhide HN hxy)
          clear hxy Hno HN
          go_wp2_with fail
          go_region
          go_wp2_with fail
          go_roundw
          case rel => exact ⟨k + 1, unhide Hlt, by go_num, drewN_more (unhide HD), unhide HN2⟩
          case measure => have := unhide Hlt; simp [intOf]; omega
        · have exy : (x != y) = true := bne_iff_ne.2 hxy
          have HX := hide (unhide Hno hxy)
          clear hxy Hno HN
          go_wp2_with fail
          go_region
          go_wp2_with fail
          go_ret
          exact ⟨ret_bool (unhide HX).symm, drewN_more (unhide HD)⟩
      · have e : k = n := by omega
        subst e
        have HX := hide (show decide (A = B) = true from decide_eq_true ((unhide HE).2 (fun j hj => unhide Ha j hj (by have := unhide HA; omega))))
        go_wp2
        go_ret
        exact ⟨ret_bool (unhide HX).symm, unhide HD⟩
  · have enm : ((n : Int) != (m : Int)) = true := bne_iff_ne.2 (by omega)
    have HX := hide (show decide (A = B) = false from decide_eq_false (fun e => hnm (by rw [← h1.len, ← h2.len, e])))
    clear hnm
    go_enter Tryz.func117, Tryz.ntmps117
    go_wp2
    go_ret
    exact ⟨ret_bool (unhide HX).symm, 0, rfl⟩

end Go.Proofs.YtogenboibgddaaaGreatDoor

namespace Go.Proofs.YtogenboibgddaaaGreatDoor
open Go.RowKit
set_option linter.unusedVariables false

/-- a value of a pool -/
structure Vl where
  kind : Int
  num : Int
  text : ByteArray
  names : List ByteArray

/-- an instruction -/
structure Is1 where
  op : Int
  arg : Int

/-- may it stand between quotes? -/
def quoB (s : ByteArray) : Bool := decide (s.size ≤ 32) && allNm s.data.toList

def valB (v : Vl) : Bool :=
  if v.kind = 1 then decide (v.num = 0 ∨ v.num = 1) && decide (v.text.size = 0) && decide (v.names.length = 0)
  else if v.kind = 2 then decide (v.text.size = 0) && decide (v.names.length = 0)
  else if v.kind = 3 then quoB v.text && decide (v.num = 0) && decide (v.names.length = 0)
  else if v.kind = 4 then setB v.names && decide (v.num = 0) && decide (v.text.size = 0)
  else false

/-- has it an argument? -/
def argB (op : Int) : Bool := decide ((1 ≤ op ∧ op ≤ 4) ∨ op = 22 ∨ op = 23)

def insB (i : Is1) : Bool := decide (1 ≤ i.op ∧ i.op ≤ 25) && (if argB i.op then decide (0 ≤ i.arg ∧ i.arg ≤ 65535) else decide (i.arg = 0))

/-- the right shape -/
def shapB (P : List Vl) (slots : Int) (I : List Is1) : Bool := decide (P.length ≤ 4000 ∧ I.length ≤ 20000 ∧ 0 ≤ slots ∧ slots ≤ 600) && P.all valB && I.all insB

end Go.Proofs.YtogenboibgddaaaGreatDoor

namespace Go.Proofs.YtogenboibgddaaaGreatDoor
open Go.RowKit
set_option linter.unusedVariables false


end Go.Proofs.YtogenboibgddaaaGreatDoor

namespace Go.Proofs.YtogenboibgddaaaGreatDoor
open Go.RowKit Go.Lib
set_option linter.unusedVariables false


end Go.Proofs.YtogenboibgddaaaGreatDoor

namespace Go.Proofs.YtogenboibgddaaaGreatDoor
open Go.RowKit
set_option linter.unusedVariables false

/-- a load of a whole row whose cells are known -/
theorem wpList_load_cells {P : Program} {ops : Array Oper} {rest : List Oper} {o : Oper} {a : Act} {w : World} {Q : Exit → Act → World → Prop} (hgd : o.guard = none) (ty : TypeId) (x : Operand) (ho : o.op = .load ty x)
    (g : Nat) (hx : a.eval x = .pointer (some ⟨g, 0, none⟩)) (cs : Array Value) (d : TypeDesc) (hc : ∀ j, w.cell? ⟨g, j, none⟩ = cs[j]?)
    (hu : P.underlying ty = some d) (hd : (match d with | .struct _ | .array _ _ => true | _ => false) = true) (hi : (P.info? ty).map (·.size) = some cs.size)
    (h : wpList P ops Q rest (a.put o.dst (.agg cs)) w) : wpList P ops Q (o :: rest) a w :=
  wpList_plain hgd fun _ hK => by
    have hl : (loadCells ⟨g, 0, none⟩ cs.toList.length).run P w = .ok cs.toList.toArray w :=
      run_loadCells_list (P := P) w ⟨g, 0, none⟩ cs.toList (fun j v hv => by
        have hadd : (⟨g, 0, none⟩ : Addr).add j = ⟨g, j, none⟩ := by unfold Addr.add; split <;> simp_all
        rw [hadd, hc j]
        simpa using hv)
    have hr : (loadVar ty ⟨g, 0, none⟩).run P w = .ok (.agg cs) w := by
      cases hq : P.info? ty with
      | none => simp [hq] at hi
      | some i =>
        have hs : i.size = cs.size := by simpa [hq] using hi
        have hagg : (isAgg ty).run P w = .ok true w := by
          unfold isAgg
          rw [Sem.run_bind, run_underlying hu w]
          cases d <;> simp_all
        simp only [Array.length_toList, Array.toArray_toList] at hl
        simp [loadVar, Sem.run_bind, hagg, sizeOf, typeInfo, hq, hs, hl]
    unfold Oper.wp execOp
    simp only [ho, hx, Instr.loadAt, Instr.sureAddr, Sem.run_bind, Sem.run_pure, Result.andThen_ok, hr]
    exact hK _ _ h

/-- an element of an array of structs that lies in a slot -/
theorem wpList_index_agg {P : Program} {ops : Array Oper} {rest : List Oper} {o : Oper} {a : Act} {w : World} {Q : Exit → Act → World → Prop} (hgd : o.guard = none) (ty : TypeId) (x y : Operand) (ho : o.op = .index ty x y)
    (cs : Array Value) (hx : a.eval x = .agg cs) (k : Nat) (hy : a.eval y = .int .i64 k) (n : Nat) (e : TypeId) (hu : P.underlying ty = some (.array n e)) (hk : k < n) (d : TypeDesc) (hue : P.underlying e = some d)
    (hd : (match d with | .struct _ | .array _ _ => true | _ => false) = true) (sz : Nat) (hi : (P.info? e).map (·.size) = some sz) (r : Array Value) (hr : cs.extract (k * sz) (k * sz + sz) = r)
    (h : wpList P ops Q rest (a.put o.dst (.agg r)) w) : wpList P ops Q (o :: rest) a w :=
  wpList_plain hgd fun _ hK => by
    have hq : (Instr.index ty (.agg cs) (.int .i64 k)).run P w = .ok (.agg r) w := by
      cases hq : P.info? e with
      | none => simp [hq] at hi
      | some i =>
        have hs : i.size = sz := by simpa [hq] using hi
        have hagg : (isAgg e).run P w = .ok true w := by
          unfold isAgg
          rw [Sem.run_bind, run_underlying hue w]
          cases d <;> simp_all
        have hk2 : (0 : Int) ≤ (k : Int) ∧ (k : Int) < (n : Int) := ⟨by omega, by omega⟩
        simp [Instr.index, run_underlying hu, asIntOf, hk2, hk, part, Sem.run_bind, hagg, sizeOf, typeInfo, hq, hs, hr]
    unfold Oper.wp execOp
    simp only [ho, hx, hy, Sem.run_bind, hq, Sem.run_pure, Result.andThen_ok]
    exact hK _ _ h

end Go.Proofs.YtogenboibgddaaaGreatDoor

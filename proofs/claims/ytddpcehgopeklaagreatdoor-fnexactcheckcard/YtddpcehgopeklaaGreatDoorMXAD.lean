/-
  Sets, Laws0. Own work.
-/
import Derived.Test.YtddpcehgopeklaaGreatDoorMXAA
import Derived.WalkKit
import Derived.RegionTactic
import Derived.ChangeAlike
import Derived.Deep.QuietTactic
import Derived.BigQuiet
import Derived.WalkSpells
import Derived.WalkLawsBesides
namespace Go.Proofs.YtddpcehgopeklaaGreatDoor
open Go.RowKit

/-- The name at a place. -/
def nth (ss : List ByteArray) (k : Nat) : ByteArray := ss.getD k ByteArray.empty

theorem nth_eq (ss : List ByteArray) (k : Nat) (h : k < ss.length) : nth ss k = ss[k] := by
  simp [nth, List.getD, h]

/-- A slice of strings in memory: its elements. -/
structure Strs (w : World) (a : Option Addr) (n c : Nat) (ss : List ByteArray) : Prop where
  len : n = ss.length
  cap : n ≤ c
  small : c ≤ maxLen
  sizes : ∀ j, j < n → (nth ss j).size ≤ maxLen
  cells : ∀ j, j < n → ∃ b off, a = some ⟨b, off, none⟩ ∧ b < w.heap.size ∧ w.cell? ⟨b, off + j, none⟩ = some (.string (nth ss j))

theorem Strs.below {w w' : World} {B : Nat} {a : Option Addr} {n c : Nat} {ss : List ByteArray} (h : Strs w a n c ss) (hb : Below B w w') (hB : w.heap.size ≤ B) : Strs w' a n c ss :=
  ⟨h.len, h.cap, h.small, h.sizes, fun j hj => by
    obtain ⟨b, off, ha, hlt, hc⟩ := h.cells j hj
    exact ⟨b, off, ha, Nat.lt_of_lt_of_le hlt hb.size, by rw [← hc]; exact hb.cell (p := ⟨b, off + j, none⟩) (Nat.lt_of_lt_of_le hlt hB)⟩⟩

/-- All cells at one address. -/
theorem Strs.at {w : World} {a : Option Addr} {n c : Nat} {ss : List ByteArray} (h : Strs w a n c ss) (hn : 0 < n) :
    ∃ b off, a = some ⟨b, off, none⟩ ∧ b < w.heap.size ∧ ∀ j, j < n → w.cell? ⟨b, off + j, none⟩ = some (.string (nth ss j)) := by
  obtain ⟨b, off, ha, hlt, _⟩ := h.cells 0 hn
  refine ⟨b, off, ha, hlt, fun j hj => ?_⟩
  obtain ⟨b', off', ha', _, hc'⟩ := h.cells j hj
  rw [ha] at ha'
  simp only [Option.some.injEq, Addr.mk.injEq, and_true] at ha'
  obtain ⟨rfl, rfl⟩ := ha'
  exact hc'

/-- The order of texts. -/
def sl (a b : ByteArray) : Bool := Op.bytesLess a.toList b.toList

theorem bytesLess_lt : ∀ (x y : List UInt8), Op.bytesLess x y = decide (x < y)
  | [], [] => by simp [Op.bytesLess]
  | _ :: _, [] => by simp [Op.bytesLess]
  | [], _ :: _ => by simp [Op.bytesLess]
  | a :: x, b :: y => by
    rw [Op.bytesLess, bytesLess_lt x y]
    simp only [List.cons_lt_cons_iff]
    by_cases h1 : a < b <;> by_cases h2 : a = b <;> by_cases h3 : x < y <;> simp [h1, h2, h3]

theorem sl_iff (a b : ByteArray) : sl a b = true ↔ a.data.toList < b.data.toList := by
  rw [sl, bytesLess_lt, ByteArray.toList_eq, ByteArray.toList_eq]; simp

theorem sl_trans {a b c : ByteArray} (h : sl a b = true) (k : sl b c = true) : sl a c = true := by
  rw [sl_iff] at *; exact List.lt_trans h k

/-- each name behind it is greater -/
def risB (ss : List ByteArray) : Bool := decide (ss.Pairwise fun a b => sl a b = true)

/-- each is a name -/
def allB (ss : List ByteArray) : Bool := ss.all vnB

/-- is it a scope set? -/
def setB (ss : List ByteArray) : Bool := decide (ss.length ≤ 64) && (allB ss && risB ss)

theorem allB_iff (ss : List ByteArray) : allB ss = true ↔ ∀ j, j < ss.length → vnB (nth ss j) = true := by
  rw [allB, List.all_eq_true]
  constructor
  · intro h j hj; rw [nth_eq ss j hj]; exact h _ (List.getElem_mem hj)
  · intro h x hx
    obtain ⟨j, hj, rfl⟩ := List.getElem_of_mem hx
    rw [← nth_eq ss j hj]; exact h j hj

theorem allB_of (ss : List ByteArray) (h : ∀ j, j < ss.length → vnB (nth ss j) = true) : allB ss = true := (allB_iff ss).2 h

theorem allB_not (ss : List ByteArray) (j : Nat) (hj : j < ss.length) (h : vnB (nth ss j) = false) : allB ss = false := by
  rw [Bool.eq_false_iff]; intro k; rw [(allB_iff ss).1 k j hj] at h; cases h

theorem risB_iff (ss : List ByteArray) : risB ss = true ↔ ∀ i j, i < j → j < ss.length → sl (nth ss i) (nth ss j) = true := by
  rw [risB, decide_eq_true_eq, List.pairwise_iff_getElem]
  constructor
  · intro h i j hij hj; rw [nth_eq ss i (by omega), nth_eq ss j hj]; exact h i j (by omega) hj hij
  · intro h i j hi hj hij; rw [← nth_eq ss i hi, ← nth_eq ss j hj]; exact h i j hij hj

theorem risB_not (ss : List ByteArray) (i j : Nat) (hij : i < j) (hj : j < ss.length) (h : sl (nth ss i) (nth ss j) = false) : risB ss = false := by
  rw [Bool.eq_false_iff]; intro k; rw [(risB_iff ss).1 k i j hij hj] at h; cases h

theorem rise_far (ss : List ByteArray) (n : Nat) (h : ∀ i, 0 < i → i < n → sl (nth ss (i - 1)) (nth ss i) = true) : ∀ d i, i + d + 1 < n → sl (nth ss i) (nth ss (i + d + 1)) = true := by
  intro d
  induction d with
  | zero => intro i hi; have := h (i + 1) (by omega) hi; simpa using this
  | succ d ih =>
    intro i hi
    have h1 := ih i (by omega)
    have h2 := h (i + (d + 1) + 1) (by omega) hi
    rw [show i + (d + 1) + 1 - 1 = i + d + 1 from by omega] at h2
    exact sl_trans h1 h2

theorem risB_of_near (ss : List ByteArray) (h : ∀ i, 0 < i → i < ss.length → sl (nth ss (i - 1)) (nth ss i) = true) : risB ss = true := by
  rw [risB_iff]
  intro i j hij hj
  have := rise_far ss ss.length h (j - i - 1) i (by omega)
  rw [show i + (j - i - 1) + 1 = j from by omega] at this
  exact this

theorem setB_long (ss : List ByteArray) (h : 64 < ss.length) : setB ss = false := by
  have : ¬ ss.length ≤ 64 := by omega
  simp [setB, this]

theorem setB_short (ss : List ByteArray) (h : ss.length ≤ 64) : setB ss = (allB ss && risB ss) := by
  simp [setB, h]

end Go.Proofs.YtddpcehgopeklaaGreatDoor

namespace Go.Proofs.YtddpcehgopeklaaGreatDoor
open Go.RowKit

/-- All bytes of the names. -/
def tot (ss : List ByteArray) : Nat := (ss.map ByteArray.size).sum

theorem tot_take_succ (ss : List ByteArray) (k : Nat) (h : k < ss.length) : tot (ss.take (k + 1)) = tot (ss.take k) + (nth ss k).size := by
  rw [nth_eq ss k h, tot, tot, List.take_succ_eq_append_getElem h, List.map_append, List.sum_append]
  rfl

theorem ret_int {k : IntKind} {a b : Int} (h : a = b) : Ending.returned (.int k a) = .returned (.int k b) := by rw [h]

theorem Strs.of_owns {w : World} {base e : Nat} {a : Option Addr} {n c : Nat} {ss : List ByteArray} (h : w.ownsRow base e 1 (.slice a n c) n (ss.map Value.string)) (hs : ∀ j, j < n → (nth ss j).size ≤ maxLen) :
    Strs w a n c ss := by
  have hlen : ss.length = n := by simpa using h.1
  have h' := h
  rcases h.2 with ⟨hv, h0⟩ | ⟨g, cap, cur, hv, hb, hg, hnc, hcm, hcs, htake⟩
  · simp only [Value.slice.injEq] at hv
    obtain ⟨rfl, rfl, rfl⟩ := hv
    exact ⟨hlen.symm, Nat.le_refl _, Nat.zero_le _, hs, fun j hj => by omega⟩
  · simp only [Value.slice.injEq, true_and] at hv
    obtain ⟨rfl, rfl⟩ := hv
    refine ⟨hlen.symm, hnc, hcm, hs, fun j hj => ⟨g, 0, rfl, ?_, ?_⟩⟩
    · exact (Array.getElem?_eq_some_iff.1 hg).1
    · have := h'.cellAt j (by omega)
      rw [Nat.zero_add, this, nth_eq ss j (by omega)]
      simp [hlen, hj]

/-- What toStringS has made after k rounds. -/
def half (ss : List ByteArray) (n k : Nat) : List ByteArray := (List.range n).map fun j => if j < k then nth ss j else ByteArray.empty

theorem half_zero (ss : List ByteArray) (n : Nat) : half ss n 0 = List.replicate n ByteArray.empty := by
  apply List.ext_getElem
  · simp [half]
  · intro i h1 h2; simp [half]

theorem half_full (ss : List ByteArray) (n : Nat) (h : n = ss.length) : half ss n n = ss := by
  apply List.ext_getElem
  · simp [half, h]
  · intro i h1 h2
    have : i < n := by omega
    simp [half, this, nth_eq ss i h2]

theorem half_set (ss : List ByteArray) (n k : Nat) : ((half ss n k).map Value.string).set k (.string (nth ss k)) = (half ss n (k + 1)).map Value.string := by
  apply List.ext_getElem
  · simp [half]
  · intro i h1 h2
    rw [List.getElem_set]
    simp only [half, List.getElem_map, List.getElem_range]
    by_cases e : k = i
    · subst e; simp
    · rw [if_neg e]
      by_cases h : i < k
      · rw [if_pos h, if_pos (by omega)]
      · rw [if_neg h, if_neg (by omega)]

theorem half_at (ss : List ByteArray) (n k : Nat) (h : k < n) : ((half ss n k).map Value.string)[k]? = some (.string ByteArray.empty) := by
  simp [half, h]

theorem infoS : (Tryz.prog.info? 9).map (fun i => (i.zero, i.size, i.bytes)) = some (some (.string ByteArray.empty), 1, 16) := by kernel_rfl

end Go.Proofs.YtddpcehgopeklaaGreatDoor

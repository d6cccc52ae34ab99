/-
  Sets, CMem, TK, Laws0, TN. Own work.
-/
import Derived.Test.YtpbopjgmiaoomaaGreatDoorMXAA
import Derived.WalkKit
import Derived.Test.YtpbopjgmiaoomaaGreatDoorRows
import Derived.WalkSpells
import Derived.WalkLawsBesides
import Derived.RegionTactic
import Derived.ChangeAlike
import Derived.Deep.QuietTactic
import Derived.BigQuiet
namespace Go.Proofs.YtpbopjgmiaoomaaGreatDoor
open Go.RowKit

/-- The name at a place. -/
def nth (ss : List ByteArray) (k : Nat) : ByteArray := ss.getD k ByteArray.empty

theorem nth_eq (ss : List ByteArray) (k : Nat) (h : k < ss.length) : nth ss k = ss[k] := by
  simp [nth, List.getD, h]

/-- A slice of strings in memory: its elements. -/
structure Strs (w : World) (a : Option Addr) (n c : Nat) (ss : List ByteArray) : Prop where
  len : n = ss.length
  cap : n ≤ c
  small : c ≤ maxLen
  sizes : ∀ j, j < n → (nth ss j).size ≤ maxLen
  cells : ∀ j, j < n → ∃ b off, a = some ⟨b, off, none⟩ ∧ b < w.heap.size ∧ w.cell? ⟨b, off + j, none⟩ = some (.string (nth ss j))

theorem Strs.below {w w' : World} {B : Nat} {a : Option Addr} {n c : Nat} {ss : List ByteArray} (h : Strs w a n c ss) (hb : Below B w w') (hB : w.heap.size ≤ B) : Strs w' a n c ss :=
  ⟨h.len, h.cap, h.small, h.sizes, fun j hj => by
    obtain ⟨b, off, ha, hlt, hc⟩ := h.cells j hj
    exact ⟨b, off, ha, Nat.lt_of_lt_of_le hlt hb.size, by rw [← hc]; exact hb.cell (p := ⟨b, off + j, none⟩) (Nat.lt_of_lt_of_le hlt hB)⟩⟩

/-- All cells at one address. -/
theorem Strs.at {w : World} {a : Option Addr} {n c : Nat} {ss : List ByteArray} (h : Strs w a n c ss) (hn : 0 < n) :
    ∃ b off, a = some ⟨b, off, none⟩ ∧ b < w.heap.size ∧ ∀ j, j < n → w.cell? ⟨b, off + j, none⟩ = some (.string (nth ss j)) := by
  obtain ⟨b, off, ha, hlt, _⟩ := h.cells 0 hn
  refine ⟨b, off, ha, hlt, fun j hj => ?_⟩
  obtain ⟨b', off', ha', _, hc'⟩ := h.cells j hj
  rw [ha] at ha'
  simp only [Option.some.injEq, Addr.mk.injEq, and_true] at ha'
  obtain ⟨rfl, rfl⟩ := ha'
  exact hc'

/-- The order of texts. -/
def sl (a b : ByteArray) : Bool := Op.bytesLess a.toList b.toList

theorem bytesLess_lt : ∀ (x y : List UInt8), Op.bytesLess x y = decide (x < y)
  | [], [] => by simp [Op.bytesLess]
  | _ :: _, [] => by simp [Op.bytesLess]
  | [], _ :: _ => by simp [Op.bytesLess]
  | a :: x, b :: y => by
    rw [Op.bytesLess, bytesLess_lt x y]
    simp only [List.cons_lt_cons_iff]
    by_cases h1 : a < b <;> by_cases h2 : a = b <;> by_cases h3 : x < y <;> simp [h1, h2, h3]

theorem sl_iff (a b : ByteArray) : sl a b = true ↔ a.data.toList < b.data.toList := by
  rw [sl, bytesLess_lt, ByteArray.toList_eq, ByteArray.toList_eq]; simp

theorem sl_trans {a b c : ByteArray} (h : sl a b = true) (k : sl b c = true) : sl a c = true := by
  rw [sl_iff] at *; exact List.lt_trans h k

/-- each name behind it is greater -/
def risB (ss : List ByteArray) : Bool := decide (ss.Pairwise fun a b => sl a b = true)

/-- each is a name -/
def allB (ss : List ByteArray) : Bool := ss.all vnB

/-- is it a scope set? -/
def setB (ss : List ByteArray) : Bool := decide (ss.length ≤ 64) && (allB ss && risB ss)

theorem allB_iff (ss : List ByteArray) : allB ss = true ↔ ∀ j, j < ss.length → vnB (nth ss j) = true := by
  rw [allB, List.all_eq_true]
  constructor
  · intro h j hj; rw [nth_eq ss j hj]; exact h _ (List.getElem_mem hj)
  · intro h x hx
    obtain ⟨j, hj, rfl⟩ := List.getElem_of_mem hx
    rw [← nth_eq ss j hj]; exact h j hj

theorem allB_of (ss : List ByteArray) (h : ∀ j, j < ss.length → vnB (nth ss j) = true) : allB ss = true := (allB_iff ss).2 h

theorem allB_not (ss : List ByteArray) (j : Nat) (hj : j < ss.length) (h : vnB (nth ss j) = false) : allB ss = false := by
  rw [Bool.eq_false_iff]; intro k; rw [(allB_iff ss).1 k j hj] at h; cases h

theorem risB_iff (ss : List ByteArray) : risB ss = true ↔ ∀ i j, i < j → j < ss.length → sl (nth ss i) (nth ss j) = true := by
  rw [risB, decide_eq_true_eq, List.pairwise_iff_getElem]
  constructor
  · intro h i j hij hj; rw [nth_eq ss i (by omega), nth_eq ss j hj]; exact h i j (by omega) hj hij
  · intro h i j hi hj hij; rw [← nth_eq ss i hi, ← nth_eq ss j hj]; exact h i j hij hj

theorem risB_not (ss : List ByteArray) (i j : Nat) (hij : i < j) (hj : j < ss.length) (h : sl (nth ss i) (nth ss j) = false) : risB ss = false := by
  rw [Bool.eq_false_iff]; intro k; rw [(risB_iff ss).1 k i j hij hj] at h; cases h

theorem rise_far (ss : List ByteArray) (n : Nat) (h : ∀ i, 0 < i → i < n → sl (nth ss (i - 1)) (nth ss i) = true) : ∀ d i, i + d + 1 < n → sl (nth ss i) (nth ss (i + d + 1)) = true := by
  intro d
  induction d with
  | zero => intro i hi; have := h (i + 1) (by omega) hi; simpa using this
  | succ d ih =>
    intro i hi
    have h1 := ih i (by omega)
    have h2 := h (i + (d + 1) + 1) (by omega) hi
    rw [show i + (d + 1) + 1 - 1 = i + d + 1 from by omega] at h2
    exact sl_trans h1 h2

theorem risB_of_near (ss : List ByteArray) (h : ∀ i, 0 < i → i < ss.length → sl (nth ss (i - 1)) (nth ss i) = true) : risB ss = true := by
  rw [risB_iff]
  intro i j hij hj
  have := rise_far ss ss.length h (j - i - 1) i (by omega)
  rw [show i + (j - i - 1) + 1 = j from by omega] at this
  exact this

theorem setB_long (ss : List ByteArray) (h : 64 < ss.length) : setB ss = false := by
  have : ¬ ss.length ≤ 64 := by omega
  simp [setB, this]

theorem setB_short (ss : List ByteArray) (h : ss.length ≤ 64) : setB ss = (allB ss && risB ss) := by
  simp [setB, h]

end Go.Proofs.YtpbopjgmiaoomaaGreatDoor

namespace Go.Proofs.YtpbopjgmiaoomaaGreatDoor
open Go.RowKit

theorem bcell {W w1 : World} (hb : Below W.heap.size W w1) : (∀ b o, b < W.heap.size → w1.cell? ⟨b, o, none⟩ = W.cell? ⟨b, o, none⟩) ∧ (∀ b o, b < W.heap.size → w1.frozen? ⟨b, o, none⟩ = W.frozen? ⟨b, o, none⟩) :=
  ⟨fun b o h => hb.cell (p := ⟨b, o, none⟩) h, fun b o h => hb.frozen (p := ⟨b, o, none⟩) h⟩

/-- Block b holds the cells cs. -/
structure Row (w : World) (b : Nat) (cs : Array Value) (t : TypeId) : Prop where
  out : w.heap[b]? = some (.cells cs t (0, 0))

theorem Row.lt {w : World} {b : Nat} {cs : Array Value} {t : TypeId} (h : Row w b cs t) : b < w.heap.size := (Array.getElem?_eq_some_iff.1 h.out).1

theorem Row.below {w w' : World} {B b : Nat} {cs : Array Value} {t : TypeId} (h : Row w b cs t) (hb : Below B w w') (hB : b < B) : Row w' b cs t := ⟨(hb.block b hB).trans h.out⟩

theorem Row.after {w w' : World} {B b : Nat} {cs : Array Value} {t : TypeId} (h : Row w b cs t) (hb : Below B w w') (hB : w.heap.size ≤ B) : Row w' b cs t := h.below hb (Nat.lt_of_lt_of_le h.lt hB)

theorem Row.alloc {w : World} {b : Nat} {cs : Array Value} {t : TypeId} (h : Row w b cs t) (o : Obj) : Row (w.alloc o) b cs t := ⟨(Below.heap_alloc w o b h.lt).trans h.out⟩

theorem Row.new (w : World) (cs : Array Value) (t : TypeId) : Row (w.alloc (.cells cs t)) w.heap.size cs t := ⟨heap_alloc_new w _⟩

theorem Row.set {w : World} {b : Nat} {cs : Array Value} {t : TypeId} (h : Row w b cs t) (j : Nat) (u : Value) : Row (w.setCell ⟨b, j, none⟩ u) b (cs.setIfInBounds j u) t := ⟨heap_setCell_same w b j cs t u h.out⟩

theorem Row.setFar {w : World} {b : Nat} {cs : Array Value} {t : TypeId} (h : Row w b cs t) {p : Addr} (hp : b ≠ p.block) (u : Value) : Row (w.setCell p u) b cs t := ⟨(heap_setCell_other w p b u hp).trans h.out⟩

theorem Row.cell {w : World} {b : Nat} {cs : Array Value} {t : TypeId} (h : Row w b cs t) (j : Nat) : w.cell? ⟨b, j, none⟩ = cs[j]? := by
  have := cell_of_row w b j cs t (0, 0) h.out
  simpa using this

theorem Row.frozen {w : World} {b : Nat} {cs : Array Value} {t : TypeId} (h : Row w b cs t) (j : Nat) : w.frozen? ⟨b, j, none⟩ = false := frozen_of_row w b j cs t h.out

end Go.Proofs.YtpbopjgmiaoomaaGreatDoor

namespace Go.Proofs.YtpbopjgmiaoomaaGreatDoor
open Go.RowKit

def ltI (c : Int) : Bool := decide (97 ≤ c ∧ c ≤ 122)
def ltB (c : UInt8) : Bool := ltI (c.toNat : Int)
def wdI (c : Int) : Bool := ltI c || dgI c || decide (c = 95)
def wdB (c : UInt8) : Bool := wdI (c.toNat : Int)
def nmB (c : UInt8) : Bool := nmI (c.toNat : Int)

/-- where a run of bytes ends that begins at a place -/
def endS (p : UInt8 → Bool) (s : ByteArray) (j : Nat) : Nat := j + (((toL s).drop j).takeWhile p).length

theorem drop_cons (s : ByteArray) (j : Nat) (h : j < s.size) : (toL s).drop j = s[j] :: (toL s).drop (j + 1) := by
  have h' : j < (toL s).length := by rw [toL_size]; exact h
  rw [List.drop_eq_getElem_cons h']
  rfl

theorem endS_step {p : UInt8 → Bool} {s : ByteArray} {j : Nat} (h : j < s.size) (hp : p s[j] = true) : endS p s j = endS p s (j + 1) := by
  rw [endS, endS, drop_cons s j h, List.takeWhile_cons, if_pos hp]; simp; omega

theorem endS_stop {p : UInt8 → Bool} {s : ByteArray} {j : Nat} (h : j < s.size) (hp : p s[j] = false) : endS p s j = j := by
  rw [endS, drop_cons s j h, List.takeWhile_cons, if_neg (by simp [hp])]; rfl

theorem endS_end {p : UInt8 → Bool} {s : ByteArray} {j : Nat} (h : s.size ≤ j) : endS p s j = j := by
  rw [endS, List.drop_of_length_le (by rw [toL_size]; exact h)]; rfl

/-- the bytes of a run -/
def runL (p : UInt8 → Bool) (r : List UInt8) : Nat := (r.takeWhile p).length

theorem endS_runL (p : UInt8 → Bool) (s : ByteArray) (j : Nat) : endS p s j = j + runL p ((toL s).drop j) := rfl

theorem endS_zero (p : UInt8 → Bool) (s : ByteArray) : endS p s 0 = runL p (toL s) := by simp [endS_runL]

def wordsL : List (List UInt8) := [[108, 101, 116], [119, 104, 101, 110], [101, 108, 115, 101], [100, 101, 110, 121], [103, 114, 97, 110, 116], [105, 102], [116, 104, 101, 110], [110, 111, 116], [97, 110, 100], [111, 114], [105, 110], [119, 105, 116, 104, 105, 110], [115, 105, 122, 101], [116, 114, 117, 101], [102, 97, 108, 115, 101]]

def isWd (l : List UInt8) : Bool := wordsL.contains l

/-- a token, or what is wrong -/
inductive One where
  | bad (code : Int)
  | tok (kind num : Int) (text : List UInt8) (w : Nat)

end Go.Proofs.YtpbopjgmiaoomaaGreatDoor

namespace Go.Proofs.YtpbopjgmiaoomaaGreatDoor
open Go.RowKit

/-- All bytes of the names. -/
def tot (ss : List ByteArray) : Nat := (ss.map ByteArray.size).sum

theorem tot_take_succ (ss : List ByteArray) (k : Nat) (h : k < ss.length) : tot (ss.take (k + 1)) = tot (ss.take k) + (nth ss k).size := by
  rw [nth_eq ss k h, tot, tot, List.take_succ_eq_append_getElem h, List.map_append, List.sum_append]
  rfl

theorem ret_int {k : IntKind} {a b : Int} (h : a = b) : Ending.returned (.int k a) = .returned (.int k b) := by rw [h]

theorem Strs.of_owns {w : World} {base e : Nat} {a : Option Addr} {n c : Nat} {ss : List ByteArray} (h : w.ownsRow base e 1 (.slice a n c) n (ss.map Value.string)) (hs : ∀ j, j < n → (nth ss j).size ≤ maxLen) :
    Strs w a n c ss := by
  have hlen : ss.length = n := by simpa using h.1
  have h' := h
  rcases h.2 with ⟨hv, h0⟩ | ⟨g, cap, cur, hv, hb, hg, hnc, hcm, hcs, htake⟩
  · simp only [Value.slice.injEq] at hv
    obtain ⟨rfl, rfl, rfl⟩ := hv
    exact ⟨hlen.symm, Nat.le_refl _, Nat.zero_le _, hs, fun j hj => by omega⟩
  · simp only [Value.slice.injEq, true_and] at hv
    obtain ⟨rfl, rfl⟩ := hv
    refine ⟨hlen.symm, hnc, hcm, hs, fun j hj => ⟨g, 0, rfl, ?_, ?_⟩⟩
    · exact (Array.getElem?_eq_some_iff.1 hg).1
    · have := h'.cellAt j (by omega)
      rw [Nat.zero_add, this, nth_eq ss j (by omega)]
      simp [hlen, hj]

/-- What toStringS has made after k rounds. -/
def half (ss : List ByteArray) (n k : Nat) : List ByteArray := (List.range n).map fun j => if j < k then nth ss j else ByteArray.empty

theorem half_zero (ss : List ByteArray) (n : Nat) : half ss n 0 = List.replicate n ByteArray.empty := by
  apply List.ext_getElem
  · simp [half]
  · intro i h1 h2; simp [half]

theorem half_full (ss : List ByteArray) (n : Nat) (h : n = ss.length) : half ss n n = ss := by
  apply List.ext_getElem
  · simp [half, h]
  · intro i h1 h2
    have : i < n := by omega
    simp [half, this, nth_eq ss i h2]

theorem half_set (ss : List ByteArray) (n k : Nat) : ((half ss n k).map Value.string).set k (.string (nth ss k)) = (half ss n (k + 1)).map Value.string := by
  apply List.ext_getElem
  · simp [half]
  · intro i h1 h2
    rw [List.getElem_set]
    simp only [half, List.getElem_map, List.getElem_range]
    by_cases e : k = i
    · subst e; simp
    · rw [if_neg e]
      by_cases h : i < k
      · rw [if_pos h, if_pos (by omega)]
      · rw [if_neg h, if_neg (by omega)]

theorem half_at (ss : List ByteArray) (n k : Nat) (h : k < n) : ((half ss n k).map Value.string)[k]? = some (.string ByteArray.empty) := by
  simp [half, h]

theorem infoS : (Tryz.prog.info? 9).map (fun i => (i.zero, i.size, i.bytes)) = some (some (.string ByteArray.empty), 1, 16) := by kernel_rfl

end Go.Proofs.YtpbopjgmiaoomaaGreatDoor

namespace Go.Proofs.YtpbopjgmiaoomaaGreatDoor
open Go.RowKit

theorem runL_all (p : UInt8 → Bool) (r : List UInt8) : (r.take (runL p r)).all p = true := by
  have : r.take (runL p r) = r.takeWhile p := by
    obtain ⟨t, ht⟩ := List.takeWhile_prefix p (l := r)
    rw [runL]
    have e : (r.takeWhile p ++ t).take (r.takeWhile p).length = r.takeWhile p := by simp
    rw [ht] at e
    exact e
  rw [this, List.all_takeWhile]

end Go.Proofs.YtpbopjgmiaoomaaGreatDoor

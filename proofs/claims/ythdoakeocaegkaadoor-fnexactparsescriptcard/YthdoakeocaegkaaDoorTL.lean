/-
  Texts as lists of bytes; digits. Own work.
-/
import Derived.Test.YthdoakeocaegkaaDoorPlain
import Derived.WalkKit
namespace Go.Proofs.YthdoakeocaegkaaDoor
open Go.RowKit

def ofL (l : List UInt8) : ByteArray := ⟨l.toArray⟩
def toL (s : ByteArray) : List UInt8 := s.data.toList

theorem ofL_toL (s : ByteArray) : ofL (toL s) = s := by cases s; simp [ofL, toL]
theorem toL_ofL (l : List UInt8) : toL (ofL l) = l := by simp [ofL, toL]

theorem toL_size (s : ByteArray) : (toL s).length = s.size := by simp [toL]

/-- a digit -/
def dgB (c : UInt8) : Bool := dgI (c.toNat : Int)

/-- the number of the digits -/
def lvV (d : List UInt8) : Int := d.foldl (fun n x => n * 10 + ((x.toNat : Int) - 48)) 0

theorem lvV_snoc (d : List UInt8) (x : UInt8) : lvV (d ++ [x]) = lvV d * 10 + ((x.toNat : Int) - 48) := by simp [lvV, List.foldl_append]

theorem lvV_bound : ∀ (k : Nat) (d : List UInt8), d.length = k → d.all dgB = true → 0 ≤ lvV d ∧ lvV d < 10 ^ k
  | 0, d, h, _ => by
    have : d = [] := List.eq_nil_of_length_eq_zero h
    subst this; simp [lvV]
  | k + 1, d, h, hd => by
    have hne : d ≠ [] := fun e => by subst e; simp at h
    have e := List.dropLast_concat_getLast hne
    rw [← e] at hd ⊢
    rw [List.all_append, Bool.and_eq_true] at hd
    obtain ⟨i1, i2⟩ := lvV_bound k d.dropLast (by simp; omega) hd.1
    have hx := hd.2
    simp only [List.all_cons, List.all_nil, Bool.and_true, dgB, dgI, decide_eq_true_eq] at hx
    rw [lvV_snoc, Int.pow_succ]
    omega

theorem toL_inj {x y : ByteArray} (h : toL x = toL y) : x = y := by rw [← ofL_toL x, h, ofL_toL]

theorem empty_of_size {s : ByteArray} (h : s.size = 0) : s = ByteArray.empty := by
  cases s with | mk d => cases d with | mk l => simp [ByteArray.size] at h; subst h; rfl

theorem nonempty_of_size {s : ByteArray} (h : s.size ≠ 0) : s.toList.isEmpty = false := by
  rw [ByteArray.toList_eq]
  cases s with | mk d => cases d with | mk l => simp [ByteArray.size] at h ⊢; exact h

theorem pow17 (k : Nat) (h : k ≤ 17) : (10 : Int) ^ k ≤ 100000000000000000 := by
  have h1 : 10 ^ k ≤ 10 ^ 17 := Nat.pow_le_pow_right (n := 10) (by decide) h
  have e1 : 10 ^ 17 = 100000000000000000 := rfl
  show ((10 : Nat) : Int) ^ k ≤ _
  rw [← Int.natCast_pow]
  omega

theorem dgB_iff (c : UInt8) : dgB c = true ↔ 48 ≤ (c.toNat : Int) ∧ (c.toNat : Int) ≤ 57 := by simp [dgB, dgI]

end Go.Proofs.YthdoakeocaegkaaDoor

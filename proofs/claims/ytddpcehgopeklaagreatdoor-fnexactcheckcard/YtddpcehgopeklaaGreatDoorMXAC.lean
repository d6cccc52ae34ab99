/-
  TK, TN. Own work.
-/
import Derived.Test.YtddpcehgopeklaaGreatDoorMXAA
namespace Go.Proofs.YtddpcehgopeklaaGreatDoor
open Go.RowKit

def ltI (c : Int) : Bool := decide (97 ≤ c ∧ c ≤ 122)
def ltB (c : UInt8) : Bool := ltI (c.toNat : Int)
def wdI (c : Int) : Bool := ltI c || dgI c || decide (c = 95)
def wdB (c : UInt8) : Bool := wdI (c.toNat : Int)
def nmB (c : UInt8) : Bool := nmI (c.toNat : Int)

/-- where a run of bytes ends that begins at a place -/
def endS (p : UInt8 → Bool) (s : ByteArray) (j : Nat) : Nat := j + (((toL s).drop j).takeWhile p).length

theorem drop_cons (s : ByteArray) (j : Nat) (h : j < s.size) : (toL s).drop j = s[j] :: (toL s).drop (j + 1) := by
  have h' : j < (toL s).length := by rw [toL_size]; exact h
  rw [List.drop_eq_getElem_cons h']
  rfl

theorem endS_step {p : UInt8 → Bool} {s : ByteArray} {j : Nat} (h : j < s.size) (hp : p s[j] = true) : endS p s j = endS p s (j + 1) := by
  rw [endS, endS, drop_cons s j h, List.takeWhile_cons, if_pos hp]; simp; omega

theorem endS_stop {p : UInt8 → Bool} {s : ByteArray} {j : Nat} (h : j < s.size) (hp : p s[j] = false) : endS p s j = j := by
  rw [endS, drop_cons s j h, List.takeWhile_cons, if_neg (by simp [hp])]; rfl

theorem endS_end {p : UInt8 → Bool} {s : ByteArray} {j : Nat} (h : s.size ≤ j) : endS p s j = j := by
  rw [endS, List.drop_of_length_le (by rw [toL_size]; exact h)]; rfl

/-- the bytes of a run -/
def runL (p : UInt8 → Bool) (r : List UInt8) : Nat := (r.takeWhile p).length

theorem endS_runL (p : UInt8 → Bool) (s : ByteArray) (j : Nat) : endS p s j = j + runL p ((toL s).drop j) := rfl

theorem endS_zero (p : UInt8 → Bool) (s : ByteArray) : endS p s 0 = runL p (toL s) := by simp [endS_runL]

def wordsL : List (List UInt8) := [[108, 101, 116], [119, 104, 101, 110], [101, 108, 115, 101], [100, 101, 110, 121], [103, 114, 97, 110, 116], [105, 102], [116, 104, 101, 110], [110, 111, 116], [97, 110, 100], [111, 114], [105, 110], [119, 105, 116, 104, 105, 110], [115, 105, 122, 101], [116, 114, 117, 101], [102, 97, 108, 115, 101]]

def isWd (l : List UInt8) : Bool := wordsL.contains l

/-- a token, or what is wrong -/
inductive One where
  | bad (code : Int)
  | tok (kind num : Int) (text : List UInt8) (w : Nat)

end Go.Proofs.YtddpcehgopeklaaGreatDoor

namespace Go.Proofs.YtddpcehgopeklaaGreatDoor
open Go.RowKit

theorem runL_all (p : UInt8 → Bool) (r : List UInt8) : (r.take (runL p r)).all p = true := by
  have : r.take (runL p r) = r.takeWhile p := by
    obtain ⟨t, ht⟩ := List.takeWhile_prefix p (l := r)
    rw [runL]
    have e : (r.takeWhile p ++ t).take (r.takeWhile p).length = r.takeWhile p := by simp
    rw [ht] at e
    exact e
  rw [this, List.all_takeWhile]

end Go.Proofs.YtddpcehgopeklaaGreatDoor

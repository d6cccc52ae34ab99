/-
  Hid, Plain, TL. Own work.
-/
import Derived.Test.YtddpcehgopeklaaGreatDoorRows
import Derived.Below
import Derived.WalkKit
namespace Go.Proofs.YtddpcehgopeklaaGreatDoor
open Go.RowKit

theorem hide {p : Prop} (h : p) : Hid p := h
theorem unhide {p : Prop} (h : Hid p) : p := h

end Go.Proofs.YtddpcehgopeklaaGreatDoor

namespace Go.Proofs.YtddpcehgopeklaaGreatDoor

open Go.RowKit

theorem ret_bool {a b : Bool} (h : a = b) : Ending.returned (.bool a) = .returned (.bool b) := by rw [h]

/-- may this byte stand in a name? -/
def nmI (c : Int) : Bool := decide (97 ≤ c ∧ c ≤ 122 ∨ 48 ≤ c ∧ c ≤ 57 ∨ c = 46 ∨ c = 95 ∨ c = 45 ∨ c = 58)

def dgI (c : Int) : Bool := decide (48 ≤ c ∧ c ≤ 57)

/-- all bytes may stand in a name -/
def allNm (l : List UInt8) : Bool := l.all fun c => nmI (c.toNat : Int)

/-- is it a name? -/
def vnB (s : ByteArray) : Bool := decide (1 ≤ s.size ∧ s.size ≤ 32) && allNm s.data.toList

theorem take_snoc (s : ByteArray) (k : Nat) (h : k < s.size) : s.data.toList.take (k + 1) = s.data.toList.take k ++ [s[k]] := by
  rw [List.take_succ_eq_append_getElem (by simpa using h)]; rfl

theorem allNm_snoc (l : List UInt8) (c : UInt8) : allNm (l ++ [c]) = (allNm l && nmI (c.toNat : Int)) := by
  simp [allNm, List.all_append]

theorem allNm_false (s : ByteArray) (k : Nat) (h : k < s.size) (hn : nmI ((s[k]).toNat : Int) = false) : allNm s.data.toList = false := by
  rw [← List.take_append_drop (k + 1) s.data.toList, allNm, List.all_append, take_snoc s k h, List.all_append]
  simp [hn]

end Go.Proofs.YtddpcehgopeklaaGreatDoor

namespace Go.Proofs.YtddpcehgopeklaaGreatDoor
open Go.RowKit

def ofL (l : List UInt8) : ByteArray := ⟨l.toArray⟩
def toL (s : ByteArray) : List UInt8 := s.data.toList

theorem toL_size (s : ByteArray) : (toL s).length = s.size := by simp [toL]

/-- a digit -/
def dgB (c : UInt8) : Bool := dgI (c.toNat : Int)

theorem empty_of_size {s : ByteArray} (h : s.size = 0) : s = ByteArray.empty := by
  cases s with | mk d => cases d with | mk l => simp [ByteArray.size] at h; subst h; rfl

theorem nonempty_of_size {s : ByteArray} (h : s.size ≠ 0) : s.toList.isEmpty = false := by
  rw [ByteArray.toList_eq]
  cases s with | mk d => cases d with | mk l => simp [ByteArray.size] at h ⊢; exact h

end Go.Proofs.YtddpcehgopeklaaGreatDoor

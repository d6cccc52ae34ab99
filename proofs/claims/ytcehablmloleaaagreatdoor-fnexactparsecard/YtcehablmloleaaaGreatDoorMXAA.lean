/-
  Hid, Plain, TL, DgI. Own work.
-/
import Derived.Test.YtcehablmloleaaaGreatDoorRows
import Derived.Below
import Derived.WalkKit
import Derived.WalkSpells
import Derived.WalkLawsBesides
namespace Go.Proofs.YtcehablmloleaaaGreatDoor
open Go.RowKit

theorem hide {p : Prop} (h : p) : Hid p := h
theorem unhide {p : Prop} (h : Hid p) : p := h

end Go.Proofs.YtcehablmloleaaaGreatDoor

namespace Go.Proofs.YtcehablmloleaaaGreatDoor

open Go.RowKit

theorem ret_bool {a b : Bool} (h : a = b) : Ending.returned (.bool a) = .returned (.bool b) := by rw [h]

/-- may this byte stand in a name? -/
def nmI (c : Int) : Bool := decide (97 ≤ c ∧ c ≤ 122 ∨ 48 ≤ c ∧ c ≤ 57 ∨ c = 46 ∨ c = 95 ∨ c = 45 ∨ c = 58)

def dgI (c : Int) : Bool := decide (48 ≤ c ∧ c ≤ 57)

theorem take_snoc (s : ByteArray) (k : Nat) (h : k < s.size) : s.data.toList.take (k + 1) = s.data.toList.take k ++ [s[k]] := by
  rw [List.take_succ_eq_append_getElem (by simpa using h)]; rfl

end Go.Proofs.YtcehablmloleaaaGreatDoor

namespace Go.Proofs.YtcehablmloleaaaGreatDoor
open Go.RowKit

def ofL (l : List UInt8) : ByteArray := ⟨l.toArray⟩
def toL (s : ByteArray) : List UInt8 := s.data.toList

theorem ofL_toL (s : ByteArray) : ofL (toL s) = s := by cases s; simp [ofL, toL]
theorem toL_ofL (l : List UInt8) : toL (ofL l) = l := by simp [ofL, toL]

theorem toL_size (s : ByteArray) : (toL s).length = s.size := by simp [toL]

/-- a digit -/
def dgB (c : UInt8) : Bool := dgI (c.toNat : Int)

/-- the number of the digits -/
def lvV (d : List UInt8) : Int := d.foldl (fun n x => n * 10 + ((x.toNat : Int) - 48)) 0

theorem lvV_snoc (d : List UInt8) (x : UInt8) : lvV (d ++ [x]) = lvV d * 10 + ((x.toNat : Int) - 48) := by simp [lvV, List.foldl_append]

theorem lvV_bound : ∀ (k : Nat) (d : List UInt8), d.length = k → d.all dgB = true → 0 ≤ lvV d ∧ lvV d < 10 ^ k
  | 0, d, h, _ => by
    have : d = [] := List.eq_nil_of_length_eq_zero h
    subst this; simp [lvV]
  | k + 1, d, h, hd => by
    have hne : d ≠ [] := fun e => by subst e; simp at h
    have e := List.dropLast_concat_getLast hne
    rw [← e] at hd ⊢
    rw [List.all_append, Bool.and_eq_true] at hd
    obtain ⟨i1, i2⟩ := lvV_bound k d.dropLast (by simp; omega) hd.1
    have hx := hd.2
    simp only [List.all_cons, List.all_nil, Bool.and_true, dgB, dgI, decide_eq_true_eq] at hx
    rw [lvV_snoc, Int.pow_succ]
    omega

theorem dgB_iff (c : UInt8) : dgB c = true ↔ 48 ≤ (c.toNat : Int) ∧ (c.toNat : Int) ≤ 57 := by simp [dgB, dgI]

end Go.Proofs.YtcehablmloleaaaGreatDoor

namespace Go.Proofs.YtcehablmloleaaaGreatDoor
open Go.RowKit

set_option maxHeartbeats 400000 in
theorem isDigit_any (c : Int) (w : World) :
    Calls Tryz.prog 73 #[.int .u8 c] w fun e w' => e = .returned (.bool (dgI c)) ∧ w' = w := by
  go_enter Tryz.func73, Tryz.ntmps73
  go_wp2
  all_goals
    go_ret
    refine ⟨ret_bool ?_, rfl⟩
    rw [Bool.eq_iff_iff]
    simp_all [dgI]
    try omega

end Go.Proofs.YtcehablmloleaaaGreatDoor

/-
  The text of a number. Own work.
-/
import Derived.Test.YtnahfogbemfngaaGreatDoorSlices
import Derived.Test.YtnahfogbemfngaaGreatDoorLaws0
import Derived.Test.YtnahfogbemfngaaGreatDoorMem
import Derived.Test.YtnahfogbemfngaaGreatDoorByte1
import Derived.Lib.ItoaNum
import Derived.Deep.RegionWith
namespace Go.Proofs.YtnahfogbemfngaaGreatDoor
open Go.RowKit

def decB (k : Nat) : ByteArray := ⟨(Lib.decDigits k).toArray⟩

theorem decB_small {k : Nat} (h : k < 10) : decB k = byte1 (48 + (k : Int)) := by
  have e : (48 + (k : Int)).toNat = 48 + k := by omega
  unfold decB byte1
  rw [Lib.decDigits, dif_pos h, e]
  rfl

theorem decB_big {k : Nat} (h : 10 ≤ k) : decB k = decB (k / 10) ++ decB (k % 10) := by
  apply bytes_ext
  rw [ByteArray.data_append]
  unfold decB
  rw [Lib.decDigits, dif_neg (by omega)]
  conv => rhs; rw [Lib.decDigits.eq_def (k % 10), dif_pos (by omega)]
  simp

theorem decB_size (k : Nat) : (decB k).size ≤ k + 1 := by
  induction k using Nat.strongRecOn with
  | _ k ih =>
    by_cases h : k < 10
    · rw [decB_small h, byte1_size]; omega
    · rw [decB_big (by omega), size_app, decB_small (k := k % 10) (by omega), byte1_size]
      have := ih (k / 10) (by omega)
      omega

theorem l1dec_cast (m : Nat) (x : Int) {w : World} {Q : Ending → World → Prop} (h : Calls Tryz.prog 18 #[.int .i64 m] w Q) (e : x = m) : Calls Tryz.prog 18 #[.int .i64 x] w Q := by rw [e]; exact h

set_option maxRecDepth 100000 in
set_option maxHeartbeats 800000 in
theorem l1decimal_any (k : Nat) (w : World) (hk : k ≤ 9999999) :
    Calls Tryz.prog 18 #[.int .i64 k] w fun e w' => e = .returned (.string (decB k)) ∧ Below w.heap.size w w' := by
  induction k using Nat.strongRecOn generalizing w with
  | _ k ih =>
    by_cases h : k < 10
    · have i1 : (k : Int) < 10 := by omega
      have i2 : (48 + (k : Int)) < 256 := by omega
      have hcv := conv1
      have Hd := hide (decB_small h)
      go_enter Tryz.func18, Tryz.ntmps18
      go_wp2
      go_ret
      exact ⟨by rw [unhide Hd]; rfl, (Below.refl _ _).alloc (Nat.le_refl _) _⟩
    · have i1 : (10 : Int) ≤ (k : Int) := by omega
      have Hd := hide (decB_big (k := k) (by omega))
      have z1 := decB_size (k / 10)
      have z2 := decB_size (k % 10)
      have Hi : Hid (∀ (m : Nat), m < k → ∀ (w : World), m ≤ 9999999 → Calls Tryz.prog 18 #[.int .i64 m] w fun e w' => e = .returned (.string (decB m)) ∧ Below w.heap.size w w') := ih
      clear ih
      go_enter Tryz.func18, Tryz.ntmps18
      go_wp2_with fail
      refine (l1dec_cast (k / 10) _ (unhide Hi (k / 10) (by omega) w (by omega)) (by omega)).mono ?_
      rintro e w1 ⟨rfl, hb1⟩
      go_wp2_with fail
      refine (l1dec_cast (k % 10) _ (unhide Hi (k % 10) (by omega) w1 (by omega)) (by omega)).mono ?_
      rintro e w2 ⟨rfl, hb2⟩
      go_wp2_with fail
      go_ret
      exact ⟨by rw [unhide Hd]; rfl, hb1.trans (hb2.mono hb1.size)⟩

theorem l1decimal_int (x : Int) (w : World) (h0 : 0 ≤ x) (hk : x ≤ 9999999) :
    Calls Tryz.prog 18 #[.int .i64 x] w fun e w' => e = .returned (.string (decB x.toNat)) ∧ Below w.heap.size w w' := by
  obtain ⟨k, rfl⟩ := Int.eq_ofNat_of_zero_le h0
  exact l1decimal_any k w (by omega)

theorem addS {a b : ByteArray} (h : a.size + b.size ≤ 9223372036854775807) : ∀ w, (Op.stringOp .add a b).run Tryz.prog w = .ok (.string (a ++ b)) w := fun w => run_string_add_sum w a b h

end Go.Proofs.YtnahfogbemfngaaGreatDoor

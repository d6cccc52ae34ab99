/-
  DgI, Names. Own work.
-/
import Derived.Test.YtddpcehgopeklaaGreatDoorMXAA
import Derived.WalkKit
import Derived.WalkSpells
import Derived.WalkLawsBesides
namespace Go.Proofs.YtddpcehgopeklaaGreatDoor
open Go.RowKit

set_option maxHeartbeats 400000 in
theorem isDigit_any (c : Int) (w : World) :
    Calls Tryz.prog 117 #[.int .u8 c] w fun e w' => e = .returned (.bool (dgI c)) ∧ w' = w := by
  go_enter Tryz.func117, Tryz.ntmps117
  go_wp2
  all_goals
    go_ret
    refine ⟨ret_bool ?_, rfl⟩
    rw [Bool.eq_iff_iff]
    simp_all [dgI]
    try omega

end Go.Proofs.YtddpcehgopeklaaGreatDoor

namespace Go.Proofs.YtddpcehgopeklaaGreatDoor
open Go.RowKit

set_option maxHeartbeats 800000 in
theorem l1nameByte_any (c : Int) (w : World) :
    Calls Tryz.prog 115 #[.int .u8 c] w fun e w' => e = .returned (.bool (nmI c)) ∧ w' = w := by
  go_enter Tryz.func115, Tryz.ntmps115
  go_wp2
  all_goals
    go_ret
    refine ⟨ret_bool ?_, rfl⟩
    rw [Bool.eq_iff_iff]
    simp_all [nmI]
    try omega

set_option maxHeartbeats 800000 in
theorem nameByte_any (c : Int) (w : World) :
    Calls Tryz.prog 106 #[.int .u8 c] w fun e w' => e = .returned (.bool (nmI c)) ∧ w' = w := by
  go_enter Tryz.func106, Tryz.ntmps106
  go_wp2_with (go_at_call 117; refine (isDigit_any _ _).mono ?_; rintro e w' ⟨rfl, rfl⟩)
  all_goals
    go_ret
    refine ⟨ret_bool ?_, rfl⟩
    rw [Bool.eq_iff_iff]
    simp_all [nmI, dgI]
    try omega

set_option maxHeartbeats 800000 in
theorem nameBytes_any (s : ByteArray) (w : World) (hs : s.size ≤ maxLen) :
    Calls Tryz.prog 89 #[.string s] w fun e w' => e = .returned (.bool (decide (s.size ≤ 32) && allNm s.data.toList)) ∧ w' = w := by
  unfold maxLen at hs
  by_cases h32 : s.size ≤ 32
  · go_enter Tryz.func89, Tryz.ntmps89
    go_wp2
    go_loop [3, 9] (fun _ i => ∃ k : Nat, k ≤ s.size ∧ i = .int .i64 k ∧ allNm (s.data.toList.take k) = true) (fun _ i => s.size - (intOf i).toNat)
    case atStart => exact ⟨0, Nat.zero_le _, rfl, rfl⟩
    case round =>
      obtain ⟨k, hk, rfl, ha⟩ := hrel
      have Ha := hide ha
      clear ha
      by_cases hlt : k < s.size
      · cases hn : nmI ((s[k]).toNat : Int)
        · have Hf := hide (allNm_false s k hlt hn)
          have Hn := hide hn
          clear hn
          go_wp2_with (go_at_call 106; refine (nameByte_any _ _).mono ?_; rintro e w' ⟨rfl, rfl⟩; rw [unhide Hn])
          go_ret
          exact ⟨ret_bool (by rw [unhide Hf]; simp), rfl⟩
        · have Hn := hide hn
          clear hn
          go_wp2_with (go_at_call 106; refine (nameByte_any _ _).mono ?_; rintro e w' ⟨rfl, rfl⟩; rw [unhide Hn])
          go_round
          case rel => exact ⟨k + 1, by omega, by go_num, by rw [take_snoc s k hlt, allNm_snoc, unhide Ha, unhide Hn]; rfl⟩
          case measure => simp [intOf]; omega
      · go_wp2
        go_ret
        refine ⟨ret_bool ?_, rfl⟩
        have := unhide Ha
        rw [List.take_of_length_le (by simp; omega)] at this
        simp [this]
  · go_enter Tryz.func89, Tryz.ntmps89
    have h' : 32 < s.size := by omega
    go_wp2
    go_ret
    exact ⟨ret_bool (by simp [h32]), rfl⟩

set_option maxHeartbeats 800000 in
theorem sValidName_any (s : ByteArray) (w : World) (hs : s.size ≤ maxLen) :
    Calls Tryz.prog 101 #[.string s] w fun e w' => e = .returned (.bool (vnB s)) ∧ w' = w := by
  unfold maxLen at hs
  by_cases h1 : s.size < 1
  · have h1' : s.size = 0 := by omega
    go_enter Tryz.func101, Tryz.ntmps101
    go_wp2
    go_ret
    exact ⟨ret_bool (by simp [vnB, h1']), rfl⟩
  · by_cases h32 : s.size ≤ 32
    · have hc1 : ¬ ((s.size : Int) < 1) := by omega
      have hc2 : ¬ ((32 : Int) < (s.size : Int)) := by omega
      go_enter Tryz.func101, Tryz.ntmps101
      go_wp2
      go_loop [3] (fun i => ∃ k : Nat, k ≤ s.size ∧ i = .int .i64 k ∧ allNm (s.data.toList.take k) = true) (fun i => s.size - (intOf i).toNat)
      case atStart => exact ⟨0, Nat.zero_le _, rfl, rfl⟩
      case round =>
        obtain ⟨k, hk, rfl, ha⟩ := hrel
        have Ha := hide ha
        clear ha
        by_cases hlt : k < s.size
        · cases hn : nmI ((s[k]).toNat : Int)
          · have Hf := hide (allNm_false s k hlt hn)
            have Hn := hide hn
            clear hn
            go_wp2_with (go_at_call 115; refine (l1nameByte_any _ _).mono ?_; rintro e w' ⟨rfl, rfl⟩; rw [unhide Hn])
            go_ret
            exact ⟨ret_bool (by rw [vnB, unhide Hf]; simp), rfl⟩
          · have Hn := hide hn
            clear hn
            go_wp2_with (go_at_call 115; refine (l1nameByte_any _ _).mono ?_; rintro e w' ⟨rfl, rfl⟩; rw [unhide Hn])
            go_round
            case rel => exact ⟨k + 1, by omega, by go_num, by rw [take_snoc s k hlt, allNm_snoc, unhide Ha, unhide Hn]; rfl⟩
            case measure => simp [intOf]; omega
        · go_wp2
          go_ret
          refine ⟨ret_bool ?_, rfl⟩
          have := unhide Ha
          rw [List.take_of_length_le (by simp; omega)] at this
          simp [vnB, this, h32]; omega
    · have hc1 : ¬ ((s.size : Int) < 1) := by omega
      have hc2 : ((32 : Int) < (s.size : Int)) := by omega
      go_enter Tryz.func101, Tryz.ntmps101
      go_wp2
      go_ret
      exact ⟨ret_bool (by simp [vnB, h32]), rfl⟩

set_option maxHeartbeats 800000 in
theorem iValidName_any (s : ByteArray) (w : World) (hs : s.size ≤ maxLen) :
    Calls Tryz.prog 118 #[.string s] w fun e w' => e = .returned (.bool (vnB s)) ∧ w' = w := by
  by_cases h1 : s.size = 0
  · have he : s = ByteArray.empty := by
      cases s with | mk d => cases d with | mk l => simp [ByteArray.size] at h1; subst h1; rfl
    subst he
    go_enter Tryz.func118, Tryz.ntmps118
    go_wp2
    go_ret
    exact ⟨rfl, rfl⟩
  · have hne : s.toList.isEmpty = false := by
      rw [ByteArray.toList_eq]
      cases s with | mk d => cases d with | mk l => simp [ByteArray.size] at h1 ⊢; exact h1
    go_enter Tryz.func118, Tryz.ntmps118
    go_wp2_with (go_at_call 89; refine (nameBytes_any _ _ hs).mono ?_; rintro e w' ⟨rfl, rfl⟩)
    go_ret
    refine ⟨ret_bool ?_, rfl⟩
    rw [vnB]
    congr 1
    rw [decide_eq_decide]
    omega

end Go.Proofs.YtddpcehgopeklaaGreatDoor

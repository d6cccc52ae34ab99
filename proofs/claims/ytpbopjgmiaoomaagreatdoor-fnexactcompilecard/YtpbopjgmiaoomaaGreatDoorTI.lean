/-
  The walks over the program's scanner: letters, words, runs. Own work.
-/
import Derived.Test.YtpbopjgmiaoomaaGreatDoorTS
namespace Go.Proofs.YtpbopjgmiaoomaaGreatDoor
open Go.RowKit
set_option linter.unusedVariables false

set_option maxHeartbeats 400000 in
theorem isLetter_any (c : Int) (w : World) :
    Calls Tryz.prog 113 #[.int .u8 c] w fun e w' => e = .returned (.bool (ltI c)) ∧ w' = w := by
  go_enter Tryz.func113, Tryz.ntmps113
  go_wp2
  all_goals
    go_ret
    refine ⟨ret_bool ?_, rfl⟩
    rw [Bool.eq_iff_iff]
    simp_all [ltI]
    try omega

set_option maxHeartbeats 800000 in
theorem wordByte_any (c : Int) (w : World) :
    Calls Tryz.prog 115 #[.int .u8 c] w fun e w' => e = .returned (.bool (wdI c)) ∧ w' = w := by
  cases h1 : ltI c
  · cases h2 : dgI c
    · go_enter Tryz.func115, Tryz.ntmps115
      go_wp2_with (first | (go_at_call 113; refine (isLetter_any _ _).mono ?_; rintro e w' ⟨rfl, rfl⟩; rw [h1]) | (go_at_call 124; refine (isDigit_any _ _).mono ?_; rintro e w' ⟨rfl, rfl⟩; rw [h2]))
      go_ret
      refine ⟨ret_bool ?_, rfl⟩
      rw [wdI, h1, h2]; simp; rfl
    · go_enter Tryz.func115, Tryz.ntmps115
      go_wp2_with (first | (go_at_call 113; refine (isLetter_any _ _).mono ?_; rintro e w' ⟨rfl, rfl⟩; rw [h1]) | (go_at_call 124; refine (isDigit_any _ _).mono ?_; rintro e w' ⟨rfl, rfl⟩; rw [h2]))
      go_ret
      refine ⟨ret_bool ?_, rfl⟩
      rw [wdI, h1, h2]; simp
  · go_enter Tryz.func115, Tryz.ntmps115
    go_wp2_with (go_at_call 113; refine (isLetter_any _ _).mono ?_; rintro e w' ⟨rfl, rfl⟩; rw [h1])
    go_ret
    refine ⟨ret_bool ?_, rfl⟩
    rw [wdI, h1]; simp

set_option maxHeartbeats 800000 in
theorem runOf_dg (s : ByteArray) (w : World) (hs : s.size ≤ maxLen) :
    Calls Tryz.prog 114 #[.string s, .func (Fn.func 124) #[] #[]] w fun e w' => e = .returned (.int .i64 (runL dgB (toL s) : Nat)) ∧ w' = w := by
  unfold maxLen at hs
  rw [← endS_zero]
  go_enter Tryz.func114, Tryz.ntmps114
  go_wp2
  go_loop [5] (fun i => ∃ k : Nat, k ≤ s.size ∧ i = .int .i64 k ∧ endS dgB s 0 = endS dgB s k) (fun i => s.size - (intOf i).toNat)
  case atStart => exact ⟨0, Nat.zero_le _, rfl, rfl⟩
  case round =>
    obtain ⟨k, hk, rfl, he⟩ := hrel
    have He := hide he
    clear he
    by_cases hlt : k < s.size
    · have ilt : (k : Int) < (s.size : Int) := by omega
      cases hn : dgB s[k]
      · have Hf := hide (endS_stop hlt hn)
        have H1 := hide (show dgI (s[k].toNat : Int) = false from hn)
        clear hn
        go_wp2_with (go_at_call 124; refine (isDigit_any _ _).mono ?_; rintro e w' ⟨rfl, rfl⟩; rw [unhide H1])
        go_ret
        exact ⟨ret_int (by rw [unhide He, unhide Hf]), rfl⟩
      · have Hf := hide (endS_step hlt hn)
        have H1 := hide (show dgI (s[k].toNat : Int) = true from hn)
        clear hn
        go_wp2_with (go_at_call 124; refine (isDigit_any _ _).mono ?_; rintro e w' ⟨rfl, rfl⟩; rw [unhide H1])
        go_round
        case rel => exact ⟨k + 1, by omega, by go_num, by rw [unhide He, unhide Hf]⟩
        case measure => simp [intOf]; omega
    · have Hf := hide (endS_end (p := dgB) (s := s) (j := k) (by omega))
      have ilt : ¬ ((k : Int) < (s.size : Int)) := by omega
      go_wp2
      go_ret
      exact ⟨ret_int (by rw [unhide He, unhide Hf]), rfl⟩

set_option maxHeartbeats 800000 in
theorem runOf_wd (s : ByteArray) (w : World) (hs : s.size ≤ maxLen) :
    Calls Tryz.prog 114 #[.string s, .func (Fn.func 115) #[] #[]] w fun e w' => e = .returned (.int .i64 (runL wdB (toL s) : Nat)) ∧ w' = w := by
  unfold maxLen at hs
  rw [← endS_zero]
  go_enter Tryz.func114, Tryz.ntmps114
  go_wp2
  go_loop [5] (fun i => ∃ k : Nat, k ≤ s.size ∧ i = .int .i64 k ∧ endS wdB s 0 = endS wdB s k) (fun i => s.size - (intOf i).toNat)
  case atStart => exact ⟨0, Nat.zero_le _, rfl, rfl⟩
  case round =>
    obtain ⟨k, hk, rfl, he⟩ := hrel
    have He := hide he
    clear he
    by_cases hlt : k < s.size
    · have ilt : (k : Int) < (s.size : Int) := by omega
      cases hn : wdB s[k]
      · have Hf := hide (endS_stop hlt hn)
        have H1 := hide (show wdI (s[k].toNat : Int) = false from hn)
        clear hn
        go_wp2_with (go_at_call 115; refine (wordByte_any _ _).mono ?_; rintro e w' ⟨rfl, rfl⟩; rw [unhide H1])
        go_ret
        exact ⟨ret_int (by rw [unhide He, unhide Hf]), rfl⟩
      · have Hf := hide (endS_step hlt hn)
        have H1 := hide (show wdI (s[k].toNat : Int) = true from hn)
        clear hn
        go_wp2_with (go_at_call 115; refine (wordByte_any _ _).mono ?_; rintro e w' ⟨rfl, rfl⟩; rw [unhide H1])
        go_round
        case rel => exact ⟨k + 1, by omega, by go_num, by rw [unhide He, unhide Hf]⟩
        case measure => simp [intOf]; omega
    · have Hf := hide (endS_end (p := wdB) (s := s) (j := k) (by omega))
      have ilt : ¬ ((k : Int) < (s.size : Int)) := by omega
      go_wp2
      go_ret
      exact ⟨ret_int (by rw [unhide He, unhide Hf]), rfl⟩

end Go.Proofs.YtpbopjgmiaoomaaGreatDoor

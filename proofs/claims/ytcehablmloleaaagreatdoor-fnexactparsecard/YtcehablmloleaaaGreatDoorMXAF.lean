/-
  TS, TI. Own work.
-/
import Derived.Test.YtcehablmloleaaaGreatDoorMXAB
import Derived.Test.YtcehablmloleaaaGreatDoorNames
namespace Go.Proofs.YtcehablmloleaaaGreatDoor
open Go.RowKit
set_option linter.unusedVariables false

set_option maxHeartbeats 400000 in
theorem l2letter_any (c : Int) (w : World) :
    Calls Tryz.prog 46 #[.int .u8 c] w fun e w' => e = .returned (.bool (ltI c)) ∧ w' = w := by
  go_enter Tryz.func46, Tryz.ntmps46
  go_wp2
  all_goals
    go_ret
    refine ⟨ret_bool ?_, rfl⟩
    rw [Bool.eq_iff_iff]
    simp_all [ltI]
    try omega

set_option maxHeartbeats 400000 in
theorem l2digit_any (c : Int) (w : World) :
    Calls Tryz.prog 49 #[.int .u8 c] w fun e w' => e = .returned (.bool (dgI c)) ∧ w' = w := by
  go_enter Tryz.func49, Tryz.ntmps49
  go_wp2
  all_goals
    go_ret
    refine ⟨ret_bool ?_, rfl⟩
    rw [Bool.eq_iff_iff]
    simp_all [dgI]
    try omega

theorem wdB_true {c : UInt8} (h : wdB c = true) : ltI (c.toNat : Int) = true ∨ (ltI (c.toNat : Int) = false ∧ dgI (c.toNat : Int) = true) ∨ (ltI (c.toNat : Int) = false ∧ dgI (c.toNat : Int) = false ∧ (c.toNat : Int) = 95) := by
  rw [wdB, wdI] at h
  cases h1 : ltI (c.toNat : Int)
  · cases h2 : dgI (c.toNat : Int)
    · rw [h1, h2] at h; simp at h; exact .inr (.inr ⟨rfl, rfl, by omega⟩)
    · exact .inr (.inl ⟨rfl, rfl⟩)
  · exact .inl rfl

theorem wdB_false {c : UInt8} (h : wdB c = false) : ltI (c.toNat : Int) = false ∧ dgI (c.toNat : Int) = false ∧ ¬ (c.toNat : Int) = 95 := by
  rw [wdB, wdI] at h
  simp only [Bool.or_eq_false_iff, decide_eq_false_iff_not] at h
  exact ⟨h.1.1, h.1.2, h.2⟩

set_option maxHeartbeats 1600000 in
theorem l2run_any (s : ByteArray) (j : Nat) (w : World) (hs : s.size ≤ maxLen) (hj : j ≤ s.size) :
    Calls Tryz.prog 47 #[.string s, .int .i64 j] w fun e w' => e = .returned (.int .i64 (endS wdB s j : Nat)) ∧ w' = w := by
  unfold maxLen at hs
  go_enter Tryz.func47, Tryz.ntmps47
  go_wp2
  go_loop [1] (fun i => ∃ k : Nat, j ≤ k ∧ k ≤ s.size ∧ i = .int .i64 k ∧ endS wdB s j = endS wdB s k) (fun i => s.size - (intOf i).toNat)
  case atStart => exact ⟨j, Nat.le_refl _, hj, rfl, rfl⟩
  case round =>
    obtain ⟨k, hjk, hk, rfl, he⟩ := hrel
    have He := hide he
    clear he
    by_cases hlt : k < s.size
    · have ilt : (k : Int) < (s.size : Int) := by omega
      cases hn : wdB s[k]
      · have Hf := hide (endS_stop hlt hn)
        obtain ⟨h1, h2, h3⟩ := wdB_false hn
        have H1 := hide h1
        have H2 := hide h2
        clear hn h1 h2
        go_wp2_with (first | (go_at_call 46; refine (l2letter_any _ _).mono ?_; rintro e w' ⟨rfl, rfl⟩; rw [unhide H1]) | (go_at_call 49; refine (l2digit_any _ _).mono ?_; rintro e w' ⟨rfl, rfl⟩; rw [unhide H2]))
        go_ret
        exact ⟨ret_int (by rw [unhide He, unhide Hf]), rfl⟩
      · have Hf := hide (endS_step hlt hn)
        rcases wdB_true hn with h1 | ⟨h1, h2⟩ | ⟨h1, h2, h3⟩
        · have H1 := hide h1
          clear hn h1
          go_wp2_with (go_at_call 46; refine (l2letter_any _ _).mono ?_; rintro e w' ⟨rfl, rfl⟩; rw [unhide H1])
          go_round
          case rel => exact ⟨k + 1, by omega, by omega, by go_num, by rw [unhide He, unhide Hf]⟩
          case measure => simp [intOf]; omega
        · have H1 := hide h1
          have H2 := hide h2
          clear hn h1 h2
          go_wp2_with (first | (go_at_call 46; refine (l2letter_any _ _).mono ?_; rintro e w' ⟨rfl, rfl⟩; rw [unhide H1]) | (go_at_call 49; refine (l2digit_any _ _).mono ?_; rintro e w' ⟨rfl, rfl⟩; rw [unhide H2]))
          go_round
          case rel => exact ⟨k + 1, by omega, by omega, by go_num, by rw [unhide He, unhide Hf]⟩
          case measure => simp [intOf]; omega
        · clear hn h1 h2
          go_wp2_with (first | (go_at_call 46; refine (l2letter_any _ _).mono ?_; rintro e w' ⟨rfl, rfl⟩; rw [show ltI 95 = false from by decide]) | (go_at_call 49; refine (l2digit_any _ _).mono ?_; rintro e w' ⟨rfl, rfl⟩; rw [show dgI 95 = false from by decide]))
          go_round
          case rel => exact ⟨k + 1, by omega, by omega, by go_num, by rw [unhide He, unhide Hf]⟩
          case measure => simp [intOf]; omega
    · have Hf := hide (endS_end (p := wdB) (s := s) (j := k) (by omega))
      have ilt : ¬ ((k : Int) < (s.size : Int)) := by omega
      go_wp2
      go_ret
      exact ⟨ret_int (by rw [unhide He, unhide Hf]), rfl⟩

end Go.Proofs.YtcehablmloleaaaGreatDoor

namespace Go.Proofs.YtcehablmloleaaaGreatDoor
open Go.RowKit
set_option linter.unusedVariables false

set_option maxHeartbeats 400000 in
theorem isLetter_any (c : Int) (w : World) :
    Calls Tryz.prog 75 #[.int .u8 c] w fun e w' => e = .returned (.bool (ltI c)) ∧ w' = w := by
  go_enter Tryz.func75, Tryz.ntmps75
  go_wp2
  all_goals
    go_ret
    refine ⟨ret_bool ?_, rfl⟩
    rw [Bool.eq_iff_iff]
    simp_all [ltI]
    try omega

set_option maxHeartbeats 800000 in
theorem wordByte_any (c : Int) (w : World) :
    Calls Tryz.prog 91 #[.int .u8 c] w fun e w' => e = .returned (.bool (wdI c)) ∧ w' = w := by
  cases h1 : ltI c
  · cases h2 : dgI c
    · go_enter Tryz.func91, Tryz.ntmps91
      go_wp2_with (first | (go_at_call 75; refine (isLetter_any _ _).mono ?_; rintro e w' ⟨rfl, rfl⟩; rw [h1]) | (go_at_call 73; refine (isDigit_any _ _).mono ?_; rintro e w' ⟨rfl, rfl⟩; rw [h2]))
      go_ret
      refine ⟨ret_bool ?_, rfl⟩
      rw [wdI, h1, h2]; simp; rfl
    · go_enter Tryz.func91, Tryz.ntmps91
      go_wp2_with (first | (go_at_call 75; refine (isLetter_any _ _).mono ?_; rintro e w' ⟨rfl, rfl⟩; rw [h1]) | (go_at_call 73; refine (isDigit_any _ _).mono ?_; rintro e w' ⟨rfl, rfl⟩; rw [h2]))
      go_ret
      refine ⟨ret_bool ?_, rfl⟩
      rw [wdI, h1, h2]; simp
  · go_enter Tryz.func91, Tryz.ntmps91
    go_wp2_with (go_at_call 75; refine (isLetter_any _ _).mono ?_; rintro e w' ⟨rfl, rfl⟩; rw [h1])
    go_ret
    refine ⟨ret_bool ?_, rfl⟩
    rw [wdI, h1]; simp

set_option maxHeartbeats 800000 in
theorem runOf_dg (s : ByteArray) (w : World) (hs : s.size ≤ maxLen) :
    Calls Tryz.prog 89 #[.string s, .func (Fn.func 73) #[] #[]] w fun e w' => e = .returned (.int .i64 (runL dgB (toL s) : Nat)) ∧ w' = w := by
  unfold maxLen at hs
  rw [← endS_zero]
  go_enter Tryz.func89, Tryz.ntmps89
  go_wp2
  go_loop [5] (fun i => ∃ k : Nat, k ≤ s.size ∧ i = .int .i64 k ∧ endS dgB s 0 = endS dgB s k) (fun i => s.size - (intOf i).toNat)
  case atStart => exact ⟨0, Nat.zero_le _, rfl, rfl⟩
  case round =>
    obtain ⟨k, hk, rfl, he⟩ := hrel
    have He := hide he
    clear he
    by_cases hlt : k < s.size
    · have ilt : (k : Int) < (s.size : Int) := by omega
      cases hn : dgB s[k]
      · have Hf := hide (endS_stop hlt hn)
        have H1 := hide (show dgI (s[k].toNat : Int) = false from hn)
        clear hn
        go_wp2_with (go_at_call 73; refine (isDigit_any _ _).mono ?_; rintro e w' ⟨rfl, rfl⟩; rw [unhide H1])
        go_ret
        exact ⟨ret_int (by rw [unhide He, unhide Hf]), rfl⟩
      · have Hf := hide (endS_step hlt hn)
        have H1 := hide (show dgI (s[k].toNat : Int) = true from hn)
        clear hn
        go_wp2_with (go_at_call 73; refine (isDigit_any _ _).mono ?_; rintro e w' ⟨rfl, rfl⟩; rw [unhide H1])
        go_round
        case rel => exact ⟨k + 1, by omega, by go_num, by rw [unhide He, unhide Hf]⟩
        case measure => simp [intOf]; omega
    · have Hf := hide (endS_end (p := dgB) (s := s) (j := k) (by omega))
      have ilt : ¬ ((k : Int) < (s.size : Int)) := by omega
      go_wp2
      go_ret
      exact ⟨ret_int (by rw [unhide He, unhide Hf]), rfl⟩

set_option maxHeartbeats 800000 in
theorem runOf_wd (s : ByteArray) (w : World) (hs : s.size ≤ maxLen) :
    Calls Tryz.prog 89 #[.string s, .func (Fn.func 91) #[] #[]] w fun e w' => e = .returned (.int .i64 (runL wdB (toL s) : Nat)) ∧ w' = w := by
  unfold maxLen at hs
  rw [← endS_zero]
  go_enter Tryz.func89, Tryz.ntmps89
  go_wp2
  go_loop [5] (fun i => ∃ k : Nat, k ≤ s.size ∧ i = .int .i64 k ∧ endS wdB s 0 = endS wdB s k) (fun i => s.size - (intOf i).toNat)
  case atStart => exact ⟨0, Nat.zero_le _, rfl, rfl⟩
  case round =>
    obtain ⟨k, hk, rfl, he⟩ := hrel
    have He := hide he
    clear he
    by_cases hlt : k < s.size
    · have ilt : (k : Int) < (s.size : Int) := by omega
      cases hn : wdB s[k]
      · have Hf := hide (endS_stop hlt hn)
        have H1 := hide (show wdI (s[k].toNat : Int) = false from hn)
        clear hn
        go_wp2_with (go_at_call 91; refine (wordByte_any _ _).mono ?_; rintro e w' ⟨rfl, rfl⟩; rw [unhide H1])
        go_ret
        exact ⟨ret_int (by rw [unhide He, unhide Hf]), rfl⟩
      · have Hf := hide (endS_step hlt hn)
        have H1 := hide (show wdI (s[k].toNat : Int) = true from hn)
        clear hn
        go_wp2_with (go_at_call 91; refine (wordByte_any _ _).mono ?_; rintro e w' ⟨rfl, rfl⟩; rw [unhide H1])
        go_round
        case rel => exact ⟨k + 1, by omega, by go_num, by rw [unhide He, unhide Hf]⟩
        case measure => simp [intOf]; omega
    · have Hf := hide (endS_end (p := wdB) (s := s) (j := k) (by omega))
      have ilt : ¬ ((k : Int) < (s.size : Int)) := by omega
      go_wp2
      go_ret
      exact ⟨ret_int (by rw [unhide He, unhide Hf]), rfl⟩

set_option maxHeartbeats 800000 in
theorem runOf_nm (s : ByteArray) (w : World) (hs : s.size ≤ maxLen) :
    Calls Tryz.prog 89 #[.string s, .func (Fn.func 93) #[] #[]] w fun e w' => e = .returned (.int .i64 (runL nmB (toL s) : Nat)) ∧ w' = w := by
  unfold maxLen at hs
  rw [← endS_zero]
  go_enter Tryz.func89, Tryz.ntmps89
  go_wp2
  go_loop [5] (fun i => ∃ k : Nat, k ≤ s.size ∧ i = .int .i64 k ∧ endS nmB s 0 = endS nmB s k) (fun i => s.size - (intOf i).toNat)
  case atStart => exact ⟨0, Nat.zero_le _, rfl, rfl⟩
  case round =>
    obtain ⟨k, hk, rfl, he⟩ := hrel
    have He := hide he
    clear he
    by_cases hlt : k < s.size
    · have ilt : (k : Int) < (s.size : Int) := by omega
      cases hn : nmB s[k]
      · have Hf := hide (endS_stop hlt hn)
        have H1 := hide (show nmI (s[k].toNat : Int) = false from hn)
        clear hn
        go_wp2_with (go_at_call 93; refine (nameByte_any _ _).mono ?_; rintro e w' ⟨rfl, rfl⟩; rw [unhide H1])
        go_ret
        exact ⟨ret_int (by rw [unhide He, unhide Hf]), rfl⟩
      · have Hf := hide (endS_step hlt hn)
        have H1 := hide (show nmI (s[k].toNat : Int) = true from hn)
        clear hn
        go_wp2_with (go_at_call 93; refine (nameByte_any _ _).mono ?_; rintro e w' ⟨rfl, rfl⟩; rw [unhide H1])
        go_round
        case rel => exact ⟨k + 1, by omega, by go_num, by rw [unhide He, unhide Hf]⟩
        case measure => simp [intOf]; omega
    · have Hf := hide (endS_end (p := nmB) (s := s) (j := k) (by omega))
      have ilt : ¬ ((k : Int) < (s.size : Int)) := by omega
      go_wp2
      go_ret
      exact ⟨ret_int (by rw [unhide He, unhide Hf]), rfl⟩

end Go.Proofs.YtcehablmloleaaaGreatDoor

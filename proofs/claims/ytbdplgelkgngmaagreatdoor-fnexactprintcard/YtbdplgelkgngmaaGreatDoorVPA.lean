/-
  The walks over names of the language, texts between quotes, and the number of kids. Own work.
-/
import Derived.Test.YtbdplgelkgngmaaGreatDoorMHA
import Derived.Test.YtbdplgelkgngmaaGreatDoorTV
namespace Go.Proofs.YtbdplgelkgngmaaGreatDoor
open Go.RowKit
set_option linter.unusedVariables false

theorem runL_full (p : UInt8 → Bool) (r : List UInt8) : runL p r = r.length ↔ r.all p = true := by
  constructor
  · intro h
    have := runL_all p r
    rwa [h, List.take_length] at this
  · intro h
    have e : r.takeWhile p = r := by
      induction r with
      | nil => rfl
      | cons c r ih =>
        rw [List.all_cons, Bool.and_eq_true] at h
        rw [List.takeWhile_cons, if_pos h.1, ih h.2]
    rw [runL, e]

theorem identB_eq {s : ByteArray} (h0 : 0 < s.size) : identB s = (decide (s.size ≤ 32) && ltI (s[0].toNat : Int) && decide (runL wdB (toL s) = s.size) && !isWd (toL s)) := by
  have h := drop_cons s 0 h0
  rw [List.drop_zero] at h
  have hl : (toL s).length = s.size := toL_size s
  have hr : decide (runL wdB (toL s) = s.size) = (toL s).all wdB := by rw [← hl, Bool.eq_iff_iff, decide_eq_true_iff]; exact runL_full wdB (toL s)
  rw [hr, ← hl]
  generalize (toL s).drop (0 + 1) = q at h
  rw [identB, h]
  rfl

theorem identB_none {s : ByteArray} (h0 : s.size = 0) : identB s = false := by
  have : toL s = [] := List.eq_nil_of_length_eq_zero (by rw [toL_size]; exact h0)
  rw [identB, this]

set_option maxHeartbeats 1600000 in
theorem l2ident_any (s : ByteArray) (w : World) (hs : s.size ≤ 1048576) :
    Calls Tryz.prog 41 #[.string s] w fun e w' => e = .returned (.bool (identB s)) ∧ Below w.heap.size w w' := by
  by_cases h0 : s.size = 0
  · have i0 : ¬ ((0 : Int) < (s.size : Int)) := by omega
    rw [identB_none h0]
    go_enter Tryz.func41, Tryz.ntmps41
    go_wp2
    go_ret
    exact ⟨rfl, Below.refl _ _⟩
  have hp : 0 < s.size := by omega
  have i0 : (0 : Int) < (s.size : Int) := by omega
  have HI := hide (identB_eq hp)
  by_cases h32 : s.size ≤ 32
  case neg =>
    have i32 : ¬ ((s.size : Int) ≤ 32) := by omega
    have i33 : (32 : Int) < (s.size : Int) := by omega
    go_enter Tryz.func41, Tryz.ntmps41
    go_wp2
    go_ret
    exact ⟨ret_bool (by rw [unhide HI]; simp [h32]), Below.refl _ _⟩
  have i32 : (s.size : Int) ≤ 32 := by omega
  cases hl : ltI (s[0].toNat : Int)
  · have Hl := hide hl
    clear hl
    go_enter Tryz.func41, Tryz.ntmps41
    go_wp2_with (go_at_call 68; refine (l2letter_any _ _).mono ?_; rintro e w' ⟨rfl, hw⟩; rw [unhide Hl, hw]; clear hw)
    go_ret
    exact ⟨ret_bool (by rw [unhide HI, unhide Hl]; simp), Below.refl _ _⟩
  have Hl := hide hl
  clear hl
  have HE := hide (endS_zero wdB s)
  by_cases hr : runL wdB (toL s) = s.size
  · have er : (((runL wdB (toL s) : Nat) : Int) == (s.size : Int)) = true := beq_iff_eq.2 (by omega)
    go_enter Tryz.func41, Tryz.ntmps41
    go_wp2_with (first | (go_at_call 68; refine (l2letter_any _ _).mono ?_; rintro e w' ⟨rfl, hw⟩; rw [unhide Hl, hw]; clear hw) | (go_at_call 69; refine (l2run_any s 0 _ (by unfold maxLen; omega) (by omega)).mono ?_; rintro e w' ⟨rfl, hw⟩; rw [unhide HE, hw]; clear hw))
    refine (l2word_any s _).mono ?_
    rintro e w1 ⟨rfl, hb1⟩
    cases hw : isWd (toL s)
    · have Hw := hide hw
      clear hw
      go_wp2
      go_ret
      exact ⟨ret_bool (by rw [unhide HI, unhide Hl, unhide Hw]; simp [h32, hr]), hb1⟩
    · have Hw := hide hw
      clear hw
      go_wp2
      go_ret
      exact ⟨ret_bool (by rw [unhide HI, unhide Hw]; simp), hb1⟩
  · have er : (((runL wdB (toL s) : Nat) : Int) == (s.size : Int)) = false := beq_eq_false_iff_ne.2 (by omega)
    go_enter Tryz.func41, Tryz.ntmps41
    go_wp2_with (first | (go_at_call 68; refine (l2letter_any _ _).mono ?_; rintro e w' ⟨rfl, hw⟩; rw [unhide Hl, hw]; clear hw) | (go_at_call 69; refine (l2run_any s 0 _ (by unfold maxLen; omega) (by omega)).mono ?_; rintro e w' ⟨rfl, hw⟩; rw [unhide HE, hw]; clear hw))
    go_ret
    exact ⟨ret_bool (by rw [unhide HI]; simp [hr]), Below.refl _ _⟩

set_option maxHeartbeats 1600000 in
theorem couldBeName_any (s : ByteArray) (w : World) (hs : s.size ≤ 1048576) :
    Calls Tryz.prog 53 #[.string s] w fun e w' => e = .returned (.bool (identB s)) ∧ w' = w := by
  by_cases h0 : s.size = 0
  · rw [identB_none h0]
    have he := empty_of_size h0
    subst he
    go_enter Tryz.func53, Tryz.ntmps53
    go_wp2
    go_ret
    exact ⟨rfl, rfl⟩
  have hp : 0 < s.size := by omega
  have i0 : (0 : Int) < (s.size : Int) := by omega
  have hne := nonempty_of_size h0
  have HI := hide (identB_eq hp)
  by_cases h32 : s.size ≤ 32
  case neg =>
    have i32 : ¬ ((s.size : Int) ≤ 32) := by omega
    have i33 : (32 : Int) < (s.size : Int) := by omega
    go_enter Tryz.func53, Tryz.ntmps53
    go_wp2
    go_ret
    exact ⟨ret_bool (by rw [unhide HI]; simp [h32]), rfl⟩
  have i32 : (s.size : Int) ≤ 32 := by omega
  cases hl : ltI (s[0].toNat : Int)
  · have Hl := hide hl
    clear hl
    go_enter Tryz.func53, Tryz.ntmps53
    go_wp2_with (go_at_call 74; refine (isLetter_any _ _).mono ?_; rintro e w' ⟨rfl, hw⟩; rw [unhide Hl, hw]; clear hw)
    go_ret
    exact ⟨ret_bool (by rw [unhide HI, unhide Hl]; simp), rfl⟩
  have Hl := hide hl
  clear hl
  by_cases hr : runL wdB (toL s) = s.size
  · have er : (((runL wdB (toL s) : Nat) : Int) == (s.size : Int)) = true := beq_iff_eq.2 (by omega)
    go_enter Tryz.func53, Tryz.ntmps53
    go_wp2_with (first | (go_at_call 74; refine (isLetter_any _ _).mono ?_; rintro e w' ⟨rfl, hw⟩; rw [unhide Hl, hw]; clear hw) | (go_at_call 75; refine (runOf_wd s _ (by unfold maxLen; omega)).mono ?_; rintro e w' ⟨rfl, hw⟩; rw [hw]; clear hw))
    refine (isWord_any s _).mono ?_
    rintro e w1 ⟨rfl, hw1⟩
    rw [hw1]
    clear hw1
    cases hw : isWd (toL s)
    · have Hw := hide hw
      clear hw
      go_wp2
      go_ret
      exact ⟨ret_bool (by rw [unhide HI, unhide Hl, unhide Hw]; simp [h32, hr]), rfl⟩
    · have Hw := hide hw
      clear hw
      go_wp2
      go_ret
      exact ⟨ret_bool (by rw [unhide HI, unhide Hw]; simp), rfl⟩
  · have er : (((runL wdB (toL s) : Nat) : Int) == (s.size : Int)) = false := beq_eq_false_iff_ne.2 (by omega)
    go_enter Tryz.func53, Tryz.ntmps53
    go_wp2_with (first | (go_at_call 74; refine (isLetter_any _ _).mono ?_; rintro e w' ⟨rfl, hw⟩; rw [unhide Hl, hw]; clear hw) | (go_at_call 75; refine (runOf_wd s _ (by unfold maxLen; omega)).mono ?_; rintro e w' ⟨rfl, hw⟩; rw [hw]; clear hw))
    go_ret
    exact ⟨ret_bool (by rw [unhide HI]; simp [hr]), rfl⟩

theorem quotedB_eq (s : ByteArray) : quotedB s = (decide (s.size ≤ 32) && allNm s.data.toList) := rfl

theorem quotedB_or (s : ByteArray) : quotedB s = (decide (s.size = 0) || vnB s) := by
  rw [quotedB_eq, vnB]
  by_cases h : s.size = 0
  · have e := empty_of_size h
    subst e
    rfl
  · rw [show decide (s.size = 0) = false from decide_eq_false h, Bool.false_or, show decide (1 ≤ s.size ∧ s.size ≤ 32) = decide (s.size ≤ 32) by rw [decide_eq_decide]; omega]

set_option maxHeartbeats 800000 in
theorem l2quoted_any (s : ByteArray) (w : World) (hs : s.size ≤ 1048576) :
    Calls Tryz.prog 66 #[.string s] w fun e w' => e = .returned (.bool (quotedB s)) ∧ w' = w := by
  by_cases h0 : s.size = 0
  · have e := empty_of_size h0
    subst e
    go_enter Tryz.func66, Tryz.ntmps66
    go_wp2
    go_ret
    exact ⟨rfl, rfl⟩
  · have hne := nonempty_of_size h0
    have Hq := hide (show quotedB s = vnB s by rw [quotedB_or, decide_eq_false h0, Bool.false_or])
    go_enter Tryz.func66, Tryz.ntmps66
    go_wp2_with (go_at_call 85; refine (sValidName_any _ _ (by unfold maxLen; omega)).mono ?_; rintro e w' ⟨rfl, hw⟩; rw [hw]; clear hw)
    go_ret
    exact ⟨ret_bool (unhide Hq).symm, rfl⟩

set_option maxHeartbeats 1600000 in
theorem l2kids_any (op : Int) (w : World) :
    Calls Tryz.prog 65 #[.int .i64 op] w fun e w' => e = .returned (.int .i64 (kidN op)) ∧ w' = w := by
  go_enter Tryz.func65, Tryz.ntmps65
  go_wp2
  all_goals
    go_ret
    refine ⟨ret_int ?_, rfl⟩
    unfold kidN
    simp_all
    try omega

end Go.Proofs.YtbdplgelkgngmaaGreatDoor

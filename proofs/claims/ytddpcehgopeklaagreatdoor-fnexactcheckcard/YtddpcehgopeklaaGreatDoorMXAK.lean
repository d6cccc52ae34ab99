/-
  TS, TI, TW, TV. Own work.
-/
import Derived.Test.YtddpcehgopeklaaGreatDoorMXAC
import Derived.Test.YtddpcehgopeklaaGreatDoorMXAJ
import Derived.Test.YtddpcehgopeklaaGreatDoorMXAF
import Derived.Test.YtddpcehgopeklaaGreatDoorMXAD
namespace Go.Proofs.YtddpcehgopeklaaGreatDoor
open Go.RowKit
set_option linter.unusedVariables false

set_option maxHeartbeats 400000 in
theorem l2letter_any (c : Int) (w : World) :
    Calls Tryz.prog 79 #[.int .u8 c] w fun e w' => e = .returned (.bool (ltI c)) ∧ w' = w := by
  go_enter Tryz.func79, Tryz.ntmps79
  go_wp2
  all_goals
    go_ret
    refine ⟨ret_bool ?_, rfl⟩
    rw [Bool.eq_iff_iff]
    simp_all [ltI]
    try omega

set_option maxHeartbeats 400000 in
theorem l2digit_any (c : Int) (w : World) :
    Calls Tryz.prog 102 #[.int .u8 c] w fun e w' => e = .returned (.bool (dgI c)) ∧ w' = w := by
  go_enter Tryz.func102, Tryz.ntmps102
  go_wp2
  all_goals
    go_ret
    refine ⟨ret_bool ?_, rfl⟩
    rw [Bool.eq_iff_iff]
    simp_all [dgI]
    try omega

theorem wdB_true {c : UInt8} (h : wdB c = true) : ltI (c.toNat : Int) = true ∨ (ltI (c.toNat : Int) = false ∧ dgI (c.toNat : Int) = true) ∨ (ltI (c.toNat : Int) = false ∧ dgI (c.toNat : Int) = false ∧ (c.toNat : Int) = 95) := by
  rw [wdB, wdI] at h
  cases h1 : ltI (c.toNat : Int)
  · cases h2 : dgI (c.toNat : Int)
    · rw [h1, h2] at h; simp at h; exact .inr (.inr ⟨rfl, rfl, by omega⟩)
    · exact .inr (.inl ⟨rfl, rfl⟩)
  · exact .inl rfl

theorem wdB_false {c : UInt8} (h : wdB c = false) : ltI (c.toNat : Int) = false ∧ dgI (c.toNat : Int) = false ∧ ¬ (c.toNat : Int) = 95 := by
  rw [wdB, wdI] at h
  simp only [Bool.or_eq_false_iff, decide_eq_false_iff_not] at h
  exact ⟨h.1.1, h.1.2, h.2⟩

set_option maxHeartbeats 1600000 in
theorem l2run_any (s : ByteArray) (j : Nat) (w : World) (hs : s.size ≤ maxLen) (hj : j ≤ s.size) :
    Calls Tryz.prog 80 #[.string s, .int .i64 j] w fun e w' => e = .returned (.int .i64 (endS wdB s j : Nat)) ∧ w' = w := by
  unfold maxLen at hs
  go_enter Tryz.func80, Tryz.ntmps80
  go_wp2
  go_loop [1] (fun i => ∃ k : Nat, j ≤ k ∧ k ≤ s.size ∧ i = .int .i64 k ∧ endS wdB s j = endS wdB s k) (fun i => s.size - (intOf i).toNat)
  case atStart => exact ⟨j, Nat.le_refl _, hj, rfl, rfl⟩
  case round =>
    obtain ⟨k, hjk, hk, rfl, he⟩ := hrel
    have He := hide he
    clear he
    by_cases hlt : k < s.size
    · have ilt : (k : Int) < (s.size : Int) := by omega
      cases hn : wdB s[k]
      · have Hf := hide (endS_stop hlt hn)
        obtain ⟨h1, h2, h3⟩ := wdB_false hn
        have H1 := hide h1
        have H2 := hide h2
        clear hn h1 h2
        go_wp2_with (first | (go_at_call 79; refine (l2letter_any _ _).mono ?_; rintro e w' ⟨rfl, rfl⟩; rw [unhide H1]) | (go_at_call 102; refine (l2digit_any _ _).mono ?_; rintro e w' ⟨rfl, rfl⟩; rw [unhide H2]))
        go_ret
        exact ⟨ret_int (by rw [unhide He, unhide Hf]), rfl⟩
      · have Hf := hide (endS_step hlt hn)
        rcases wdB_true hn with h1 | ⟨h1, h2⟩ | ⟨h1, h2, h3⟩
        · have H1 := hide h1
          clear hn h1
          go_wp2_with (go_at_call 79; refine (l2letter_any _ _).mono ?_; rintro e w' ⟨rfl, rfl⟩; rw [unhide H1])
          go_round
          case rel => exact ⟨k + 1, by omega, by omega, by go_num, by rw [unhide He, unhide Hf]⟩
          case measure => simp [intOf]; omega
        · have H1 := hide h1
          have H2 := hide h2
          clear hn h1 h2
          go_wp2_with (first | (go_at_call 79; refine (l2letter_any _ _).mono ?_; rintro e w' ⟨rfl, rfl⟩; rw [unhide H1]) | (go_at_call 102; refine (l2digit_any _ _).mono ?_; rintro e w' ⟨rfl, rfl⟩; rw [unhide H2]))
          go_round
          case rel => exact ⟨k + 1, by omega, by omega, by go_num, by rw [unhide He, unhide Hf]⟩
          case measure => simp [intOf]; omega
        · clear hn h1 h2
          go_wp2_with (first | (go_at_call 79; refine (l2letter_any _ _).mono ?_; rintro e w' ⟨rfl, rfl⟩; rw [show ltI 95 = false from by decide]) | (go_at_call 102; refine (l2digit_any _ _).mono ?_; rintro e w' ⟨rfl, rfl⟩; rw [show dgI 95 = false from by decide]))
          go_round
          case rel => exact ⟨k + 1, by omega, by omega, by go_num, by rw [unhide He, unhide Hf]⟩
          case measure => simp [intOf]; omega
    · have Hf := hide (endS_end (p := wdB) (s := s) (j := k) (by omega))
      have ilt : ¬ ((k : Int) < (s.size : Int)) := by omega
      go_wp2
      go_ret
      exact ⟨ret_int (by rw [unhide He, unhide Hf]), rfl⟩

end Go.Proofs.YtddpcehgopeklaaGreatDoor

namespace Go.Proofs.YtddpcehgopeklaaGreatDoor
open Go.RowKit
set_option linter.unusedVariables false

set_option maxHeartbeats 400000 in
theorem isLetter_any (c : Int) (w : World) :
    Calls Tryz.prog 107 #[.int .u8 c] w fun e w' => e = .returned (.bool (ltI c)) ∧ w' = w := by
  go_enter Tryz.func107, Tryz.ntmps107
  go_wp2
  all_goals
    go_ret
    refine ⟨ret_bool ?_, rfl⟩
    rw [Bool.eq_iff_iff]
    simp_all [ltI]
    try omega

set_option maxHeartbeats 800000 in
theorem wordByte_any (c : Int) (w : World) :
    Calls Tryz.prog 109 #[.int .u8 c] w fun e w' => e = .returned (.bool (wdI c)) ∧ w' = w := by
  cases h1 : ltI c
  · cases h2 : dgI c
    · go_enter Tryz.func109, Tryz.ntmps109
      go_wp2_with (first | (go_at_call 107; refine (isLetter_any _ _).mono ?_; rintro e w' ⟨rfl, rfl⟩; rw [h1]) | (go_at_call 117; refine (isDigit_any _ _).mono ?_; rintro e w' ⟨rfl, rfl⟩; rw [h2]))
      go_ret
      refine ⟨ret_bool ?_, rfl⟩
      rw [wdI, h1, h2]; simp; rfl
    · go_enter Tryz.func109, Tryz.ntmps109
      go_wp2_with (first | (go_at_call 107; refine (isLetter_any _ _).mono ?_; rintro e w' ⟨rfl, rfl⟩; rw [h1]) | (go_at_call 117; refine (isDigit_any _ _).mono ?_; rintro e w' ⟨rfl, rfl⟩; rw [h2]))
      go_ret
      refine ⟨ret_bool ?_, rfl⟩
      rw [wdI, h1, h2]; simp
  · go_enter Tryz.func109, Tryz.ntmps109
    go_wp2_with (go_at_call 107; refine (isLetter_any _ _).mono ?_; rintro e w' ⟨rfl, rfl⟩; rw [h1])
    go_ret
    refine ⟨ret_bool ?_, rfl⟩
    rw [wdI, h1]; simp

set_option maxHeartbeats 800000 in
theorem runOf_dg (s : ByteArray) (w : World) (hs : s.size ≤ maxLen) :
    Calls Tryz.prog 108 #[.string s, .func (Fn.func 117) #[] #[]] w fun e w' => e = .returned (.int .i64 (runL dgB (toL s) : Nat)) ∧ w' = w := by
  unfold maxLen at hs
  rw [← endS_zero]
  go_enter Tryz.func108, Tryz.ntmps108
  go_wp2
  go_loop [5] (fun i => ∃ k : Nat, k ≤ s.size ∧ i = .int .i64 k ∧ endS dgB s 0 = endS dgB s k) (fun i => s.size - (intOf i).toNat)
  case atStart => exact ⟨0, Nat.zero_le _, rfl, rfl⟩
  case round =>
    obtain ⟨k, hk, rfl, he⟩ := hrel
    have He := hide he
    clear he
    by_cases hlt : k < s.size
    · have ilt : (k : Int) < (s.size : Int) := by omega
      cases hn : dgB s[k]
      · have Hf := hide (endS_stop hlt hn)
        have H1 := hide (show dgI (s[k].toNat : Int) = false from hn)
        clear hn
        go_wp2_with (go_at_call 117; refine (isDigit_any _ _).mono ?_; rintro e w' ⟨rfl, rfl⟩; rw [unhide H1])
        go_ret
        exact ⟨ret_int (by rw [unhide He, unhide Hf]), rfl⟩
      · have Hf := hide (endS_step hlt hn)
        have H1 := hide (show dgI (s[k].toNat : Int) = true from hn)
        clear hn
        go_wp2_with (go_at_call 117; refine (isDigit_any _ _).mono ?_; rintro e w' ⟨rfl, rfl⟩; rw [unhide H1])
        go_round
        case rel => exact ⟨k + 1, by omega, by go_num, by rw [unhide He, unhide Hf]⟩
        case measure => simp [intOf]; omega
    · have Hf := hide (endS_end (p := dgB) (s := s) (j := k) (by omega))
      have ilt : ¬ ((k : Int) < (s.size : Int)) := by omega
      go_wp2
      go_ret
      exact ⟨ret_int (by rw [unhide He, unhide Hf]), rfl⟩

set_option maxHeartbeats 800000 in
theorem runOf_wd (s : ByteArray) (w : World) (hs : s.size ≤ maxLen) :
    Calls Tryz.prog 108 #[.string s, .func (Fn.func 109) #[] #[]] w fun e w' => e = .returned (.int .i64 (runL wdB (toL s) : Nat)) ∧ w' = w := by
  unfold maxLen at hs
  rw [← endS_zero]
  go_enter Tryz.func108, Tryz.ntmps108
  go_wp2
  go_loop [5] (fun i => ∃ k : Nat, k ≤ s.size ∧ i = .int .i64 k ∧ endS wdB s 0 = endS wdB s k) (fun i => s.size - (intOf i).toNat)
  case atStart => exact ⟨0, Nat.zero_le _, rfl, rfl⟩
  case round =>
    obtain ⟨k, hk, rfl, he⟩ := hrel
    have He := hide he
    clear he
    by_cases hlt : k < s.size
    · have ilt : (k : Int) < (s.size : Int) := by omega
      cases hn : wdB s[k]
      · have Hf := hide (endS_stop hlt hn)
        have H1 := hide (show wdI (s[k].toNat : Int) = false from hn)
        clear hn
        go_wp2_with (go_at_call 109; refine (wordByte_any _ _).mono ?_; rintro e w' ⟨rfl, rfl⟩; rw [unhide H1])
        go_ret
        exact ⟨ret_int (by rw [unhide He, unhide Hf]), rfl⟩
      · have Hf := hide (endS_step hlt hn)
        have H1 := hide (show wdI (s[k].toNat : Int) = true from hn)
        clear hn
        go_wp2_with (go_at_call 109; refine (wordByte_any _ _).mono ?_; rintro e w' ⟨rfl, rfl⟩; rw [unhide H1])
        go_round
        case rel => exact ⟨k + 1, by omega, by go_num, by rw [unhide He, unhide Hf]⟩
        case measure => simp [intOf]; omega
    · have Hf := hide (endS_end (p := wdB) (s := s) (j := k) (by omega))
      have ilt : ¬ ((k : Int) < (s.size : Int)) := by omega
      go_wp2
      go_ret
      exact ⟨ret_int (by rw [unhide He, unhide Hf]), rfl⟩

end Go.Proofs.YtddpcehgopeklaaGreatDoor

namespace Go.Proofs.YtddpcehgopeklaaGreatDoor
open Go.RowKit
set_option linter.unusedVariables false

theorem isWd_mem {l : List UInt8} : isWd l = true ↔ l ∈ wordsL := by rw [isWd, List.contains_iff_mem]

theorem isWd_hit {s : ByteArray} {x : List UInt8} (h : (s.toList == x) = true) (hx : x ∈ wordsL) : isWd (toL s) = true := by
  rw [beq_iff_eq, ByteArray.toList_eq] at h
  rw [isWd_mem, toL, h]; exact hx

theorem isWd_miss {s : ByteArray} (h : ∀ x ∈ wordsL, (s.toList == x) = false) : isWd (toL s) = false := by
  cases hw : isWd (toL s)
  · rfl
  · have := h _ (isWd_mem.1 hw)
    rw [ByteArray.toList_eq, toL] at this
    simp at this

set_option maxHeartbeats 6400000 in
theorem isWord_any (s : ByteArray) (w : World) :
    Calls Tryz.prog 110 #[.string s] w fun e w' => e = .returned (.bool (isWd (toL s))) ∧ w' = w := by
  rcases Bool.eq_false_or_eq_true (s.toList == [108, 101, 116]) with h0 | h0
  · rw [isWd_hit h0 (by decide)]
    go_enter Tryz.func110, Tryz.ntmps110
    go_wp2
    go_ret
    exact ⟨rfl, rfl⟩
  rcases Bool.eq_false_or_eq_true (s.toList == [119, 104, 101, 110]) with h1 | h1
  · rw [isWd_hit h1 (by decide)]
    go_enter Tryz.func110, Tryz.ntmps110
    go_wp2
    go_ret
    exact ⟨rfl, rfl⟩
  rcases Bool.eq_false_or_eq_true (s.toList == [101, 108, 115, 101]) with h2 | h2
  · rw [isWd_hit h2 (by decide)]
    go_enter Tryz.func110, Tryz.ntmps110
    go_wp2
    go_ret
    exact ⟨rfl, rfl⟩
  rcases Bool.eq_false_or_eq_true (s.toList == [100, 101, 110, 121]) with h3 | h3
  · rw [isWd_hit h3 (by decide)]
    go_enter Tryz.func110, Tryz.ntmps110
    go_wp2
    go_ret
    exact ⟨rfl, rfl⟩
  rcases Bool.eq_false_or_eq_true (s.toList == [103, 114, 97, 110, 116]) with h4 | h4
  · rw [isWd_hit h4 (by decide)]
    go_enter Tryz.func110, Tryz.ntmps110
    go_wp2
    go_ret
    exact ⟨rfl, rfl⟩
  rcases Bool.eq_false_or_eq_true (s.toList == [105, 102]) with h5 | h5
  · rw [isWd_hit h5 (by decide)]
    go_enter Tryz.func110, Tryz.ntmps110
    go_wp2
    go_ret
    exact ⟨rfl, rfl⟩
  rcases Bool.eq_false_or_eq_true (s.toList == [116, 104, 101, 110]) with h6 | h6
  · rw [isWd_hit h6 (by decide)]
    go_enter Tryz.func110, Tryz.ntmps110
    go_wp2
    go_ret
    exact ⟨rfl, rfl⟩
  rcases Bool.eq_false_or_eq_true (s.toList == [110, 111, 116]) with h7 | h7
  · rw [isWd_hit h7 (by decide)]
    go_enter Tryz.func110, Tryz.ntmps110
    go_wp2
    go_ret
    exact ⟨rfl, rfl⟩
  rcases Bool.eq_false_or_eq_true (s.toList == [97, 110, 100]) with h8 | h8
  · rw [isWd_hit h8 (by decide)]
    go_enter Tryz.func110, Tryz.ntmps110
    go_wp2
    go_ret
    exact ⟨rfl, rfl⟩
  rcases Bool.eq_false_or_eq_true (s.toList == [111, 114]) with h9 | h9
  · rw [isWd_hit h9 (by decide)]
    go_enter Tryz.func110, Tryz.ntmps110
    go_wp2
    go_ret
    exact ⟨rfl, rfl⟩
  rcases Bool.eq_false_or_eq_true (s.toList == [105, 110]) with h10 | h10
  · rw [isWd_hit h10 (by decide)]
    go_enter Tryz.func110, Tryz.ntmps110
    go_wp2
    go_ret
    exact ⟨rfl, rfl⟩
  rcases Bool.eq_false_or_eq_true (s.toList == [119, 105, 116, 104, 105, 110]) with h11 | h11
  · rw [isWd_hit h11 (by decide)]
    go_enter Tryz.func110, Tryz.ntmps110
    go_wp2
    go_ret
    exact ⟨rfl, rfl⟩
  rcases Bool.eq_false_or_eq_true (s.toList == [115, 105, 122, 101]) with h12 | h12
  · rw [isWd_hit h12 (by decide)]
    go_enter Tryz.func110, Tryz.ntmps110
    go_wp2
    go_ret
    exact ⟨rfl, rfl⟩
  rcases Bool.eq_false_or_eq_true (s.toList == [116, 114, 117, 101]) with h13 | h13
  · rw [isWd_hit h13 (by decide)]
    go_enter Tryz.func110, Tryz.ntmps110
    go_wp2
    go_ret
    exact ⟨rfl, rfl⟩
  rcases Bool.eq_false_or_eq_true (s.toList == [102, 97, 108, 115, 101]) with h14 | h14
  · rw [isWd_hit h14 (by decide)]
    go_enter Tryz.func110, Tryz.ntmps110
    go_wp2
    go_ret
    exact ⟨rfl, rfl⟩
  rw [isWd_miss (s := s) (by
    intro x hx
    simp only [wordsL, List.mem_cons, List.not_mem_nil, or_false] at hx
    rcases hx with rfl | rfl | rfl | rfl | rfl | rfl | rfl | rfl | rfl | rfl | rfl | rfl | rfl | rfl | rfl <;> assumption)]
  go_enter Tryz.func110, Tryz.ntmps110
  go_wp2
  go_ret
  exact ⟨rfl, rfl⟩

end Go.Proofs.YtddpcehgopeklaaGreatDoor

namespace Go.Proofs.YtddpcehgopeklaaGreatDoor
open Go.RowKit
set_option linter.unusedVariables false

/-- a list of texts as cells -/
def textsV (L : List (List UInt8)) : Array Value := (L.map fun l => Value.string (ofL l)).toArray

theorem textsV_at {L : List (List UInt8)} {k : Nat} {x : List UInt8} (h : L[k]? = some x) : (textsV L)[k]? = some (.string (ofL x)) := by
  simp [textsV, h]

theorem beq_ofL_true {s : ByteArray} {x : List UInt8} (h : (s.toList == (ofL x).toList) = true) : toL s = x := by
  rw [beq_iff_eq, ByteArray.toList_eq, ByteArray.toList_eq] at h
  exact h

theorem beq_ofL_false {s : ByteArray} {x : List UInt8} (h : (s.toList == (ofL x).toList) = false) : toL s ≠ x := by
  rw [beq_eq_false_iff_ne, ByteArray.toList_eq, ByteArray.toList_eq] at h
  exact h

/-- none of the first is it -/
def noneOf (L : List (List UInt8)) (k : Nat) (l : List UInt8) : Prop := ∀ i, i < k → L[i]? ≠ some l

theorem noneOf.next {L : List (List UInt8)} {k : Nat} {l x : List UInt8} (h : noneOf L k l) (hx : L[k]? = some x) (hn : l ≠ x) : noneOf L (k + 1) l := fun i hi e => by
  by_cases hk : i = k
  · subst hk; rw [hx] at e; exact hn (Option.some.inj e).symm
  · exact h i (by omega) e

theorem noneOf.all {L : List (List UInt8)} {l : List UInt8} (h : noneOf L L.length l) : L.contains l = false := by
  rw [← Bool.not_eq_true, List.contains_iff_mem]
  intro hm
  obtain ⟨i, hi, e⟩ := List.getElem_of_mem hm
  exact h i hi (by rw [List.getElem?_eq_getElem hi, e])

theorem mem_of_at {L : List (List UInt8)} {k : Nat} {x : List UInt8} (h : L[k]? = some x) : L.contains x = true := by
  rw [List.contains_iff_mem]; exact List.mem_of_getElem? h

set_option maxHeartbeats 1600000 in
theorem l2word_any (s : ByteArray) (w : World) :
    Calls Tryz.prog 81 #[.string s] w fun e w' => e = .returned (.bool (isWd (toL s))) ∧ Below w.heap.size w w' := by
  have R : Row (w.alloc (.cells #[.string ⟨#[108, 101, 116]⟩, .string ⟨#[119, 104, 101, 110]⟩, .string ⟨#[101, 108, 115, 101]⟩, .string ⟨#[100, 101, 110, 121]⟩, .string ⟨#[103, 114, 97, 110, 116]⟩, .string ⟨#[105, 102]⟩, .string ⟨#[116, 104, 101, 110]⟩, .string ⟨#[110, 111, 116]⟩, .string ⟨#[97, 110, 100]⟩, .string ⟨#[111, 114]⟩, .string ⟨#[105, 110]⟩, .string ⟨#[119, 105, 116, 104, 105, 110]⟩, .string ⟨#[115, 105, 122, 101]⟩, .string ⟨#[116, 114, 117, 101]⟩, .string ⟨#[102, 97, 108, 115, 101]⟩] 9)) w.heap.size (textsV wordsL) 9 := Row.new w (textsV wordsL) 9
  have B0 := (Below.refl w.heap.size w).alloc (Nat.le_refl _) (.cells #[.string ⟨#[108, 101, 116]⟩, .string ⟨#[119, 104, 101, 110]⟩, .string ⟨#[101, 108, 115, 101]⟩, .string ⟨#[100, 101, 110, 121]⟩, .string ⟨#[103, 114, 97, 110, 116]⟩, .string ⟨#[105, 102]⟩, .string ⟨#[116, 104, 101, 110]⟩, .string ⟨#[110, 111, 116]⟩, .string ⟨#[97, 110, 100]⟩, .string ⟨#[111, 114]⟩, .string ⟨#[105, 110]⟩, .string ⟨#[119, 105, 116, 104, 105, 110]⟩, .string ⟨#[115, 105, 122, 101]⟩, .string ⟨#[116, 114, 117, 101]⟩, .string ⟨#[102, 97, 108, 115, 101]⟩] 9)
  go_enter Tryz.func81, Tryz.ntmps81
  go_wp2
  generalize w.alloc (.cells #[.string ⟨#[108, 101, 116]⟩, .string ⟨#[119, 104, 101, 110]⟩, .string ⟨#[101, 108, 115, 101]⟩, .string ⟨#[100, 101, 110, 121]⟩, .string ⟨#[103, 114, 97, 110, 116]⟩, .string ⟨#[105, 102]⟩, .string ⟨#[116, 104, 101, 110]⟩, .string ⟨#[110, 111, 116]⟩, .string ⟨#[97, 110, 100]⟩, .string ⟨#[111, 114]⟩, .string ⟨#[105, 110]⟩, .string ⟨#[119, 105, 116, 104, 105, 110]⟩, .string ⟨#[115, 105, 122, 101]⟩, .string ⟨#[116, 114, 117, 101]⟩, .string ⟨#[102, 97, 108, 115, 101]⟩] 9) = W at R B0 ⊢
  go_loop [7] (fun i => ∃ k : Nat, k ≤ 15 ∧ i = .int .i64 k ∧ noneOf wordsL k (toL s)) (fun i => 15 - (intOf i).toNat)
  case atStart => exact ⟨0, by omega, rfl, fun i hi => by omega⟩
  case round =>
    obtain ⟨k, hk, rfl, hn⟩ := hrel
    by_cases hlt : k < 15
    · have ilt : (k : Int) < 15 := by omega
      obtain ⟨x, hx⟩ : ∃ x, wordsL[k]? = some x := ⟨wordsL[k]'hlt, List.getElem?_eq_getElem hlt⟩
      have hc := (R.cell k).trans (textsV_at hx)
      rcases Bool.eq_false_or_eq_true (s.toList == (ofL x).toList) with h | h
      · have Hf := hide (show isWd (toL s) = true by rw [beq_ofL_true h]; exact mem_of_at hx)
        clear hn hx
        go_wp2
        go_ret
        exact ⟨ret_bool (unhide Hf).symm, B0⟩
      · have Hf := hide (hn.next hx (beq_ofL_false h))
        clear hn hx
        go_wp2
        go_round
        case rel => exact ⟨k + 1, by omega, by go_num, unhide Hf⟩
        case measure => simp [intOf]; omega
    · have e : k = 15 := by omega
      subst e
      have Hf := hide (show isWd (toL s) = false from noneOf.all hn)
      clear hn
      go_wp2
      go_ret
      exact ⟨ret_bool (unhide Hf).symm, B0⟩

end Go.Proofs.YtddpcehgopeklaaGreatDoor

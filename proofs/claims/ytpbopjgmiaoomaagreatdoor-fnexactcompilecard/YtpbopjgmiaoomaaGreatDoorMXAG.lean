/-
  TW, TV, VPA. Own work.
-/
import Derived.Test.YtpbopjgmiaoomaaGreatDoorTI
import Derived.Test.YtpbopjgmiaoomaaGreatDoorMXAE
namespace Go.Proofs.YtpbopjgmiaoomaaGreatDoor
open Go.RowKit
set_option linter.unusedVariables false

theorem isWd_mem {l : List UInt8} : isWd l = true ↔ l ∈ wordsL := by rw [isWd, List.contains_iff_mem]

theorem isWd_hit {s : ByteArray} {x : List UInt8} (h : (s.toList == x) = true) (hx : x ∈ wordsL) : isWd (toL s) = true := by
  rw [beq_iff_eq, ByteArray.toList_eq] at h
  rw [isWd_mem, toL, h]; exact hx

theorem isWd_miss {s : ByteArray} (h : ∀ x ∈ wordsL, (s.toList == x) = false) : isWd (toL s) = false := by
  cases hw : isWd (toL s)
  · rfl
  · have := h _ (isWd_mem.1 hw)
    rw [ByteArray.toList_eq, toL] at this
    simp at this

set_option maxHeartbeats 6400000 in
theorem isWord_any (s : ByteArray) (w : World) :
    Calls Tryz.prog 116 #[.string s] w fun e w' => e = .returned (.bool (isWd (toL s))) ∧ w' = w := by
  rcases Bool.eq_false_or_eq_true (s.toList == [108, 101, 116]) with h0 | h0
  · rw [isWd_hit h0 (by decide)]
    go_enter Tryz.func116, Tryz.ntmps116
    go_wp2
    go_ret
    exact ⟨rfl, rfl⟩
  rcases Bool.eq_false_or_eq_true (s.toList == [119, 104, 101, 110]) with h1 | h1
  · rw [isWd_hit h1 (by decide)]
    go_enter Tryz.func116, Tryz.ntmps116
    go_wp2
    go_ret
    exact ⟨rfl, rfl⟩
  rcases Bool.eq_false_or_eq_true (s.toList == [101, 108, 115, 101]) with h2 | h2
  · rw [isWd_hit h2 (by decide)]
    go_enter Tryz.func116, Tryz.ntmps116
    go_wp2
    go_ret
    exact ⟨rfl, rfl⟩
  rcases Bool.eq_false_or_eq_true (s.toList == [100, 101, 110, 121]) with h3 | h3
  · rw [isWd_hit h3 (by decide)]
    go_enter Tryz.func116, Tryz.ntmps116
    go_wp2
    go_ret
    exact ⟨rfl, rfl⟩
  rcases Bool.eq_false_or_eq_true (s.toList == [103, 114, 97, 110, 116]) with h4 | h4
  · rw [isWd_hit h4 (by decide)]
    go_enter Tryz.func116, Tryz.ntmps116
    go_wp2
    go_ret
    exact ⟨rfl, rfl⟩
  rcases Bool.eq_false_or_eq_true (s.toList == [105, 102]) with h5 | h5
  · rw [isWd_hit h5 (by decide)]
    go_enter Tryz.func116, Tryz.ntmps116
    go_wp2
    go_ret
    exact ⟨rfl, rfl⟩
  rcases Bool.eq_false_or_eq_true (s.toList == [116, 104, 101, 110]) with h6 | h6
  · rw [isWd_hit h6 (by decide)]
    go_enter Tryz.func116, Tryz.ntmps116
    go_wp2
    go_ret
    exact ⟨rfl, rfl⟩
  rcases Bool.eq_false_or_eq_true (s.toList == [110, 111, 116]) with h7 | h7
  · rw [isWd_hit h7 (by decide)]
    go_enter Tryz.func116, Tryz.ntmps116
    go_wp2
    go_ret
    exact ⟨rfl, rfl⟩
  rcases Bool.eq_false_or_eq_true (s.toList == [97, 110, 100]) with h8 | h8
  · rw [isWd_hit h8 (by decide)]
    go_enter Tryz.func116, Tryz.ntmps116
    go_wp2
    go_ret
    exact ⟨rfl, rfl⟩
  rcases Bool.eq_false_or_eq_true (s.toList == [111, 114]) with h9 | h9
  · rw [isWd_hit h9 (by decide)]
    go_enter Tryz.func116, Tryz.ntmps116
    go_wp2
    go_ret
    exact ⟨rfl, rfl⟩
  rcases Bool.eq_false_or_eq_true (s.toList == [105, 110]) with h10 | h10
  · rw [isWd_hit h10 (by decide)]
    go_enter Tryz.func116, Tryz.ntmps116
    go_wp2
    go_ret
    exact ⟨rfl, rfl⟩
  rcases Bool.eq_false_or_eq_true (s.toList == [119, 105, 116, 104, 105, 110]) with h11 | h11
  · rw [isWd_hit h11 (by decide)]
    go_enter Tryz.func116, Tryz.ntmps116
    go_wp2
    go_ret
    exact ⟨rfl, rfl⟩
  rcases Bool.eq_false_or_eq_true (s.toList == [115, 105, 122, 101]) with h12 | h12
  · rw [isWd_hit h12 (by decide)]
    go_enter Tryz.func116, Tryz.ntmps116
    go_wp2
    go_ret
    exact ⟨rfl, rfl⟩
  rcases Bool.eq_false_or_eq_true (s.toList == [116, 114, 117, 101]) with h13 | h13
  · rw [isWd_hit h13 (by decide)]
    go_enter Tryz.func116, Tryz.ntmps116
    go_wp2
    go_ret
    exact ⟨rfl, rfl⟩
  rcases Bool.eq_false_or_eq_true (s.toList == [102, 97, 108, 115, 101]) with h14 | h14
  · rw [isWd_hit h14 (by decide)]
    go_enter Tryz.func116, Tryz.ntmps116
    go_wp2
    go_ret
    exact ⟨rfl, rfl⟩
  rw [isWd_miss (s := s) (by
    intro x hx
    simp only [wordsL, List.mem_cons, List.not_mem_nil, or_false] at hx
    rcases hx with rfl | rfl | rfl | rfl | rfl | rfl | rfl | rfl | rfl | rfl | rfl | rfl | rfl | rfl | rfl <;> assumption)]
  go_enter Tryz.func116, Tryz.ntmps116
  go_wp2
  go_ret
  exact ⟨rfl, rfl⟩

end Go.Proofs.YtpbopjgmiaoomaaGreatDoor

namespace Go.Proofs.YtpbopjgmiaoomaaGreatDoor
open Go.RowKit
set_option linter.unusedVariables false

/-- a list of texts as cells -/
def textsV (L : List (List UInt8)) : Array Value := (L.map fun l => Value.string (ofL l)).toArray

theorem textsV_at {L : List (List UInt8)} {k : Nat} {x : List UInt8} (h : L[k]? = some x) : (textsV L)[k]? = some (.string (ofL x)) := by
  simp [textsV, h]

theorem beq_ofL_true {s : ByteArray} {x : List UInt8} (h : (s.toList == (ofL x).toList) = true) : toL s = x := by
  rw [beq_iff_eq, ByteArray.toList_eq, ByteArray.toList_eq] at h
  exact h

theorem beq_ofL_false {s : ByteArray} {x : List UInt8} (h : (s.toList == (ofL x).toList) = false) : toL s ≠ x := by
  rw [beq_eq_false_iff_ne, ByteArray.toList_eq, ByteArray.toList_eq] at h
  exact h

/-- none of the first is it -/
def noneOf (L : List (List UInt8)) (k : Nat) (l : List UInt8) : Prop := ∀ i, i < k → L[i]? ≠ some l

theorem noneOf.next {L : List (List UInt8)} {k : Nat} {l x : List UInt8} (h : noneOf L k l) (hx : L[k]? = some x) (hn : l ≠ x) : noneOf L (k + 1) l := fun i hi e => by
  by_cases hk : i = k
  · subst hk; rw [hx] at e; exact hn (Option.some.inj e).symm
  · exact h i (by omega) e

theorem noneOf.all {L : List (List UInt8)} {l : List UInt8} (h : noneOf L L.length l) : L.contains l = false := by
  rw [← Bool.not_eq_true, List.contains_iff_mem]
  intro hm
  obtain ⟨i, hi, e⟩ := List.getElem_of_mem hm
  exact h i hi (by rw [List.getElem?_eq_getElem hi, e])

theorem mem_of_at {L : List (List UInt8)} {k : Nat} {x : List UInt8} (h : L[k]? = some x) : L.contains x = true := by
  rw [List.contains_iff_mem]; exact List.mem_of_getElem? h

set_option maxHeartbeats 1600000 in
theorem l2word_any (s : ByteArray) (w : World) :
    Calls Tryz.prog 95 #[.string s] w fun e w' => e = .returned (.bool (isWd (toL s))) ∧ Below w.heap.size w w' := by
  have R : Row (w.alloc (.cells #[.string ⟨#[108, 101, 116]⟩, .string ⟨#[119, 104, 101, 110]⟩, .string ⟨#[101, 108, 115, 101]⟩, .string ⟨#[100, 101, 110, 121]⟩, .string ⟨#[103, 114, 97, 110, 116]⟩, .string ⟨#[105, 102]⟩, .string ⟨#[116, 104, 101, 110]⟩, .string ⟨#[110, 111, 116]⟩, .string ⟨#[97, 110, 100]⟩, .string ⟨#[111, 114]⟩, .string ⟨#[105, 110]⟩, .string ⟨#[119, 105, 116, 104, 105, 110]⟩, .string ⟨#[115, 105, 122, 101]⟩, .string ⟨#[116, 114, 117, 101]⟩, .string ⟨#[102, 97, 108, 115, 101]⟩] 9)) w.heap.size (textsV wordsL) 9 := Row.new w (textsV wordsL) 9
  have B0 := (Below.refl w.heap.size w).alloc (Nat.le_refl _) (.cells #[.string ⟨#[108, 101, 116]⟩, .string ⟨#[119, 104, 101, 110]⟩, .string ⟨#[101, 108, 115, 101]⟩, .string ⟨#[100, 101, 110, 121]⟩, .string ⟨#[103, 114, 97, 110, 116]⟩, .string ⟨#[105, 102]⟩, .string ⟨#[116, 104, 101, 110]⟩, .string ⟨#[110, 111, 116]⟩, .string ⟨#[97, 110, 100]⟩, .string ⟨#[111, 114]⟩, .string ⟨#[105, 110]⟩, .string ⟨#[119, 105, 116, 104, 105, 110]⟩, .string ⟨#[115, 105, 122, 101]⟩, .string ⟨#[116, 114, 117, 101]⟩, .string ⟨#[102, 97, 108, 115, 101]⟩] 9)
  go_enter Tryz.func95, Tryz.ntmps95
  go_wp2
  generalize w.alloc (.cells #[.string ⟨#[108, 101, 116]⟩, .string ⟨#[119, 104, 101, 110]⟩, .string ⟨#[101, 108, 115, 101]⟩, .string ⟨#[100, 101, 110, 121]⟩, .string ⟨#[103, 114, 97, 110, 116]⟩, .string ⟨#[105, 102]⟩, .string ⟨#[116, 104, 101, 110]⟩, .string ⟨#[110, 111, 116]⟩, .string ⟨#[97, 110, 100]⟩, .string ⟨#[111, 114]⟩, .string ⟨#[105, 110]⟩, .string ⟨#[119, 105, 116, 104, 105, 110]⟩, .string ⟨#[115, 105, 122, 101]⟩, .string ⟨#[116, 114, 117, 101]⟩, .string ⟨#[102, 97, 108, 115, 101]⟩] 9) = W at R B0 ⊢
  go_loop [7] (fun i => ∃ k : Nat, k ≤ 15 ∧ i = .int .i64 k ∧ noneOf wordsL k (toL s)) (fun i => 15 - (intOf i).toNat)
  case atStart => exact ⟨0, by omega, rfl, fun i hi => by omega⟩
  case round =>
    obtain ⟨k, hk, rfl, hn⟩ := hrel
    by_cases hlt : k < 15
    · have ilt : (k : Int) < 15 := by omega
      obtain ⟨x, hx⟩ : ∃ x, wordsL[k]? = some x := ⟨wordsL[k]'hlt, List.getElem?_eq_getElem hlt⟩
      have hc := (R.cell k).trans (textsV_at hx)
      rcases Bool.eq_false_or_eq_true (s.toList == (ofL x).toList) with h | h
      · have Hf := hide (show isWd (toL s) = true by rw [beq_ofL_true h]; exact mem_of_at hx)
        clear hn hx
        go_wp2
        go_ret
        exact ⟨ret_bool (unhide Hf).symm, B0⟩
      · have Hf := hide (hn.next hx (beq_ofL_false h))
        clear hn hx
        go_wp2
        go_round
        case rel => exact ⟨k + 1, by omega, by go_num, unhide Hf⟩
        case measure => simp [intOf]; omega
    · have e : k = 15 := by omega
      subst e
      have Hf := hide (show isWd (toL s) = false from noneOf.all hn)
      clear hn
      go_wp2
      go_ret
      exact ⟨ret_bool (unhide Hf).symm, B0⟩

end Go.Proofs.YtpbopjgmiaoomaaGreatDoor

namespace Go.Proofs.YtpbopjgmiaoomaaGreatDoor
open Go.RowKit
set_option linter.unusedVariables false

theorem runL_full (p : UInt8 → Bool) (r : List UInt8) : runL p r = r.length ↔ r.all p = true := by
  constructor
  · intro h
    have := runL_all p r
    rwa [h, List.take_length] at this
  · intro h
    have e : r.takeWhile p = r := by
      induction r with
      | nil => rfl
      | cons c r ih =>
        rw [List.all_cons, Bool.and_eq_true] at h
        rw [List.takeWhile_cons, if_pos h.1, ih h.2]
    rw [runL, e]

theorem identB_eq {s : ByteArray} (h0 : 0 < s.size) : identB s = (decide (s.size ≤ 32) && ltI (s[0].toNat : Int) && decide (runL wdB (toL s) = s.size) && !isWd (toL s)) := by
  have h := drop_cons s 0 h0
  rw [List.drop_zero] at h
  have hl : (toL s).length = s.size := toL_size s
  have hr : decide (runL wdB (toL s) = s.size) = (toL s).all wdB := by rw [← hl, Bool.eq_iff_iff, decide_eq_true_iff]; exact runL_full wdB (toL s)
  rw [hr, ← hl]
  generalize (toL s).drop (0 + 1) = q at h
  rw [identB, h]
  rfl

theorem identB_none {s : ByteArray} (h0 : s.size = 0) : identB s = false := by
  have : toL s = [] := List.eq_nil_of_length_eq_zero (by rw [toL_size]; exact h0)
  rw [identB, this]

set_option maxHeartbeats 1600000 in
theorem l2ident_any (s : ByteArray) (w : World) (hs : s.size ≤ 1048576) :
    Calls Tryz.prog 70 #[.string s] w fun e w' => e = .returned (.bool (identB s)) ∧ Below w.heap.size w w' := by
  by_cases h0 : s.size = 0
  · have i0 : ¬ ((0 : Int) < (s.size : Int)) := by omega
    rw [identB_none h0]
    go_enter Tryz.func70, Tryz.ntmps70
    go_wp2
    go_ret
    exact ⟨rfl, Below.refl _ _⟩
  have hp : 0 < s.size := by omega
  have i0 : (0 : Int) < (s.size : Int) := by omega
  have HI := hide (identB_eq hp)
  by_cases h32 : s.size ≤ 32
  case neg =>
    have i32 : ¬ ((s.size : Int) ≤ 32) := by omega
    have i33 : (32 : Int) < (s.size : Int) := by omega
    go_enter Tryz.func70, Tryz.ntmps70
    go_wp2
    go_ret
    exact ⟨ret_bool (by rw [unhide HI]; simp [h32]), Below.refl _ _⟩
  have i32 : (s.size : Int) ≤ 32 := by omega
  cases hl : ltI (s[0].toNat : Int)
  · have Hl := hide hl
    clear hl
    go_enter Tryz.func70, Tryz.ntmps70
    go_wp2_with (go_at_call 93; refine (l2letter_any _ _).mono ?_; rintro e w' ⟨rfl, hw⟩; rw [unhide Hl, hw]; clear hw)
    go_ret
    exact ⟨ret_bool (by rw [unhide HI, unhide Hl]; simp), Below.refl _ _⟩
  have Hl := hide hl
  clear hl
  have HE := hide (endS_zero wdB s)
  by_cases hr : runL wdB (toL s) = s.size
  · have er : (((runL wdB (toL s) : Nat) : Int) == (s.size : Int)) = true := beq_iff_eq.2 (by omega)
    go_enter Tryz.func70, Tryz.ntmps70
    go_wp2_with (first | (go_at_call 93; refine (l2letter_any _ _).mono ?_; rintro e w' ⟨rfl, hw⟩; rw [unhide Hl, hw]; clear hw) | (go_at_call 94; refine (l2run_any s 0 _ (by unfold maxLen; omega) (by omega)).mono ?_; rintro e w' ⟨rfl, hw⟩; rw [unhide HE, hw]; clear hw))
    refine (l2word_any s _).mono ?_
    rintro e w1 ⟨rfl, hb1⟩
    cases hw : isWd (toL s)
    · have Hw := hide hw
      clear hw
      go_wp2
      go_ret
      exact ⟨ret_bool (by rw [unhide HI, unhide Hl, unhide Hw]; simp [h32, hr]), hb1⟩
    · have Hw := hide hw
      clear hw
      go_wp2
      go_ret
      exact ⟨ret_bool (by rw [unhide HI, unhide Hw]; simp), hb1⟩
  · have er : (((runL wdB (toL s) : Nat) : Int) == (s.size : Int)) = false := beq_eq_false_iff_ne.2 (by omega)
    go_enter Tryz.func70, Tryz.ntmps70
    go_wp2_with (first | (go_at_call 93; refine (l2letter_any _ _).mono ?_; rintro e w' ⟨rfl, hw⟩; rw [unhide Hl, hw]; clear hw) | (go_at_call 94; refine (l2run_any s 0 _ (by unfold maxLen; omega) (by omega)).mono ?_; rintro e w' ⟨rfl, hw⟩; rw [unhide HE, hw]; clear hw))
    go_ret
    exact ⟨ret_bool (by rw [unhide HI]; simp [hr]), Below.refl _ _⟩

set_option maxHeartbeats 1600000 in
theorem couldBeName_any (s : ByteArray) (w : World) (hs : s.size ≤ 1048576) :
    Calls Tryz.prog 100 #[.string s] w fun e w' => e = .returned (.bool (identB s)) ∧ w' = w := by
  by_cases h0 : s.size = 0
  · rw [identB_none h0]
    have he := empty_of_size h0
    subst he
    go_enter Tryz.func100, Tryz.ntmps100
    go_wp2
    go_ret
    exact ⟨rfl, rfl⟩
  have hp : 0 < s.size := by omega
  have i0 : (0 : Int) < (s.size : Int) := by omega
  have hne := nonempty_of_size h0
  have HI := hide (identB_eq hp)
  by_cases h32 : s.size ≤ 32
  case neg =>
    have i32 : ¬ ((s.size : Int) ≤ 32) := by omega
    have i33 : (32 : Int) < (s.size : Int) := by omega
    go_enter Tryz.func100, Tryz.ntmps100
    go_wp2
    go_ret
    exact ⟨ret_bool (by rw [unhide HI]; simp [h32]), rfl⟩
  have i32 : (s.size : Int) ≤ 32 := by omega
  cases hl : ltI (s[0].toNat : Int)
  · have Hl := hide hl
    clear hl
    go_enter Tryz.func100, Tryz.ntmps100
    go_wp2_with (go_at_call 113; refine (isLetter_any _ _).mono ?_; rintro e w' ⟨rfl, hw⟩; rw [unhide Hl, hw]; clear hw)
    go_ret
    exact ⟨ret_bool (by rw [unhide HI, unhide Hl]; simp), rfl⟩
  have Hl := hide hl
  clear hl
  by_cases hr : runL wdB (toL s) = s.size
  · have er : (((runL wdB (toL s) : Nat) : Int) == (s.size : Int)) = true := beq_iff_eq.2 (by omega)
    go_enter Tryz.func100, Tryz.ntmps100
    go_wp2_with (first | (go_at_call 113; refine (isLetter_any _ _).mono ?_; rintro e w' ⟨rfl, hw⟩; rw [unhide Hl, hw]; clear hw) | (go_at_call 114; refine (runOf_wd s _ (by unfold maxLen; omega)).mono ?_; rintro e w' ⟨rfl, hw⟩; rw [hw]; clear hw))
    refine (isWord_any s _).mono ?_
    rintro e w1 ⟨rfl, hw1⟩
    rw [hw1]
    clear hw1
    cases hw : isWd (toL s)
    · have Hw := hide hw
      clear hw
      go_wp2
      go_ret
      exact ⟨ret_bool (by rw [unhide HI, unhide Hl, unhide Hw]; simp [h32, hr]), rfl⟩
    · have Hw := hide hw
      clear hw
      go_wp2
      go_ret
      exact ⟨ret_bool (by rw [unhide HI, unhide Hw]; simp), rfl⟩
  · have er : (((runL wdB (toL s) : Nat) : Int) == (s.size : Int)) = false := beq_eq_false_iff_ne.2 (by omega)
    go_enter Tryz.func100, Tryz.ntmps100
    go_wp2_with (first | (go_at_call 113; refine (isLetter_any _ _).mono ?_; rintro e w' ⟨rfl, hw⟩; rw [unhide Hl, hw]; clear hw) | (go_at_call 114; refine (runOf_wd s _ (by unfold maxLen; omega)).mono ?_; rintro e w' ⟨rfl, hw⟩; rw [hw]; clear hw))
    go_ret
    exact ⟨ret_bool (by rw [unhide HI]; simp [hr]), rfl⟩

theorem quotedB_eq (s : ByteArray) : quotedB s = (decide (s.size ≤ 32) && allNm s.data.toList) := rfl

theorem quotedB_or (s : ByteArray) : quotedB s = (decide (s.size = 0) || vnB s) := by
  rw [quotedB_eq, vnB]
  by_cases h : s.size = 0
  · have e := empty_of_size h
    subst e
    rfl
  · rw [show decide (s.size = 0) = false from decide_eq_false h, Bool.false_or, show decide (1 ≤ s.size ∧ s.size ≤ 32) = decide (s.size ≤ 32) by rw [decide_eq_decide]; omega]

set_option maxHeartbeats 800000 in
theorem l2quoted_any (s : ByteArray) (w : World) (hs : s.size ≤ 1048576) :
    Calls Tryz.prog 91 #[.string s] w fun e w' => e = .returned (.bool (quotedB s)) ∧ w' = w := by
  by_cases h0 : s.size = 0
  · have e := empty_of_size h0
    subst e
    go_enter Tryz.func91, Tryz.ntmps91
    go_wp2
    go_ret
    exact ⟨rfl, rfl⟩
  · have hne := nonempty_of_size h0
    have Hq := hide (show quotedB s = vnB s by rw [quotedB_or, decide_eq_false h0, Bool.false_or])
    go_enter Tryz.func91, Tryz.ntmps91
    go_wp2_with (go_at_call 107; refine (sValidName_any _ _ (by unfold maxLen; omega)).mono ?_; rintro e w' ⟨rfl, hw⟩; rw [hw]; clear hw)
    go_ret
    exact ⟨ret_bool (unhide Hq).symm, rfl⟩

set_option maxHeartbeats 1600000 in
theorem l2kids_any (op : Int) (w : World) :
    Calls Tryz.prog 90 #[.int .i64 op] w fun e w' => e = .returned (.int .i64 (kidN op)) ∧ w' = w := by
  go_enter Tryz.func90, Tryz.ntmps90
  go_wp2
  all_goals
    go_ret
    refine ⟨ret_int ?_, rfl⟩
    unfold kidN
    simp_all
    try omega

end Go.Proofs.YtpbopjgmiaoomaaGreatDoor

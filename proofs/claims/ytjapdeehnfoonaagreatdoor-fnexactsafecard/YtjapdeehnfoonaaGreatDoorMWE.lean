/-
  TW, TV, VPA, Slices0, Slices. Own work.
-/
import Derived.Test.YtjapdeehnfoonaaGreatDoorTI
import Derived.Test.YtjapdeehnfoonaaGreatDoorMWA
import Derived.Test.YtjapdeehnfoonaaGreatDoorMWD
import Derived.RegionTactic
import Derived.ChangeAlike
import Derived.Deep.QuietTactic
import Derived.BigQuiet
namespace Go.Proofs.YtjapdeehnfoonaaGreatDoor
open Go.RowKit
set_option linter.unusedVariables false

theorem isWd_mem {l : List UInt8} : isWd l = true ↔ l ∈ wordsL := by rw [isWd, List.contains_iff_mem]

theorem isWd_hit {s : ByteArray} {x : List UInt8} (h : (s.toList == x) = true) (hx : x ∈ wordsL) : isWd (toL s) = true := by
  rw [beq_iff_eq, ByteArray.toList_eq] at h
  rw [isWd_mem, toL, h]; exact hx

theorem isWd_miss {s : ByteArray} (h : ∀ x ∈ wordsL, (s.toList == x) = false) : isWd (toL s) = false := by
  cases hw : isWd (toL s)
  · rfl
  · have := h _ (isWd_mem.1 hw)
    rw [ByteArray.toList_eq, toL] at this
    simp at this

set_option maxHeartbeats 6400000 in
theorem isWord_any (s : ByteArray) (w : World) :
    Calls Tryz.prog 82 #[.string s] w fun e w' => e = .returned (.bool (isWd (toL s))) ∧ w' = w := by
  rcases Bool.eq_false_or_eq_true (s.toList == [108, 101, 116]) with h0 | h0
  · rw [isWd_hit h0 (by decide)]
    go_enter Tryz.func82, Tryz.ntmps82
    go_wp2
    go_ret
    exact ⟨rfl, rfl⟩
  rcases Bool.eq_false_or_eq_true (s.toList == [119, 104, 101, 110]) with h1 | h1
  · rw [isWd_hit h1 (by decide)]
    go_enter Tryz.func82, Tryz.ntmps82
    go_wp2
    go_ret
    exact ⟨rfl, rfl⟩
  rcases Bool.eq_false_or_eq_true (s.toList == [101, 108, 115, 101]) with h2 | h2
  · rw [isWd_hit h2 (by decide)]
    go_enter Tryz.func82, Tryz.ntmps82
    go_wp2
    go_ret
    exact ⟨rfl, rfl⟩
  rcases Bool.eq_false_or_eq_true (s.toList == [100, 101, 110, 121]) with h3 | h3
  · rw [isWd_hit h3 (by decide)]
    go_enter Tryz.func82, Tryz.ntmps82
    go_wp2
    go_ret
    exact ⟨rfl, rfl⟩
  rcases Bool.eq_false_or_eq_true (s.toList == [103, 114, 97, 110, 116]) with h4 | h4
  · rw [isWd_hit h4 (by decide)]
    go_enter Tryz.func82, Tryz.ntmps82
    go_wp2
    go_ret
    exact ⟨rfl, rfl⟩
  rcases Bool.eq_false_or_eq_true (s.toList == [105, 102]) with h5 | h5
  · rw [isWd_hit h5 (by decide)]
    go_enter Tryz.func82, Tryz.ntmps82
    go_wp2
    go_ret
    exact ⟨rfl, rfl⟩
  rcases Bool.eq_false_or_eq_true (s.toList == [116, 104, 101, 110]) with h6 | h6
  · rw [isWd_hit h6 (by decide)]
    go_enter Tryz.func82, Tryz.ntmps82
    go_wp2
    go_ret
    exact ⟨rfl, rfl⟩
  rcases Bool.eq_false_or_eq_true (s.toList == [110, 111, 116]) with h7 | h7
  · rw [isWd_hit h7 (by decide)]
    go_enter Tryz.func82, Tryz.ntmps82
    go_wp2
    go_ret
    exact ⟨rfl, rfl⟩
  rcases Bool.eq_false_or_eq_true (s.toList == [97, 110, 100]) with h8 | h8
  · rw [isWd_hit h8 (by decide)]
    go_enter Tryz.func82, Tryz.ntmps82
    go_wp2
    go_ret
    exact ⟨rfl, rfl⟩
  rcases Bool.eq_false_or_eq_true (s.toList == [111, 114]) with h9 | h9
  · rw [isWd_hit h9 (by decide)]
    go_enter Tryz.func82, Tryz.ntmps82
    go_wp2
    go_ret
    exact ⟨rfl, rfl⟩
  rcases Bool.eq_false_or_eq_true (s.toList == [105, 110]) with h10 | h10
  · rw [isWd_hit h10 (by decide)]
    go_enter Tryz.func82, Tryz.ntmps82
    go_wp2
    go_ret
    exact ⟨rfl, rfl⟩
  rcases Bool.eq_false_or_eq_true (s.toList == [119, 105, 116, 104, 105, 110]) with h11 | h11
  · rw [isWd_hit h11 (by decide)]
    go_enter Tryz.func82, Tryz.ntmps82
    go_wp2
    go_ret
    exact ⟨rfl, rfl⟩
  rcases Bool.eq_false_or_eq_true (s.toList == [115, 105, 122, 101]) with h12 | h12
  · rw [isWd_hit h12 (by decide)]
    go_enter Tryz.func82, Tryz.ntmps82
    go_wp2
    go_ret
    exact ⟨rfl, rfl⟩
  rcases Bool.eq_false_or_eq_true (s.toList == [116, 114, 117, 101]) with h13 | h13
  · rw [isWd_hit h13 (by decide)]
    go_enter Tryz.func82, Tryz.ntmps82
    go_wp2
    go_ret
    exact ⟨rfl, rfl⟩
  rcases Bool.eq_false_or_eq_true (s.toList == [102, 97, 108, 115, 101]) with h14 | h14
  · rw [isWd_hit h14 (by decide)]
    go_enter Tryz.func82, Tryz.ntmps82
    go_wp2
    go_ret
    exact ⟨rfl, rfl⟩
  rw [isWd_miss (s := s) (by
    intro x hx
    simp only [wordsL, List.mem_cons, List.not_mem_nil, or_false] at hx
    rcases hx with rfl | rfl | rfl | rfl | rfl | rfl | rfl | rfl | rfl | rfl | rfl | rfl | rfl | rfl | rfl <;> assumption)]
  go_enter Tryz.func82, Tryz.ntmps82
  go_wp2
  go_ret
  exact ⟨rfl, rfl⟩

end Go.Proofs.YtjapdeehnfoonaaGreatDoor

namespace Go.Proofs.YtjapdeehnfoonaaGreatDoor
open Go.RowKit
set_option linter.unusedVariables false

/-- a list of texts as cells -/
def textsV (L : List (List UInt8)) : Array Value := (L.map fun l => Value.string (ofL l)).toArray

theorem textsV_at {L : List (List UInt8)} {k : Nat} {x : List UInt8} (h : L[k]? = some x) : (textsV L)[k]? = some (.string (ofL x)) := by
  simp [textsV, h]

theorem beq_ofL_true {s : ByteArray} {x : List UInt8} (h : (s.toList == (ofL x).toList) = true) : toL s = x := by
  rw [beq_iff_eq, ByteArray.toList_eq, ByteArray.toList_eq] at h
  exact h

theorem beq_ofL_false {s : ByteArray} {x : List UInt8} (h : (s.toList == (ofL x).toList) = false) : toL s ≠ x := by
  rw [beq_eq_false_iff_ne, ByteArray.toList_eq, ByteArray.toList_eq] at h
  exact h

/-- none of the first is it -/
def noneOf (L : List (List UInt8)) (k : Nat) (l : List UInt8) : Prop := ∀ i, i < k → L[i]? ≠ some l

theorem noneOf.next {L : List (List UInt8)} {k : Nat} {l x : List UInt8} (h : noneOf L k l) (hx : L[k]? = some x) (hn : l ≠ x) : noneOf L (k + 1) l := fun i hi e => by
  by_cases hk : i = k
  · subst hk; rw [hx] at e; exact hn (Option.some.inj e).symm
  · exact h i (by omega) e

theorem noneOf.all {L : List (List UInt8)} {l : List UInt8} (h : noneOf L L.length l) : L.contains l = false := by
  rw [← Bool.not_eq_true, List.contains_iff_mem]
  intro hm
  obtain ⟨i, hi, e⟩ := List.getElem_of_mem hm
  exact h i hi (by rw [List.getElem?_eq_getElem hi, e])

theorem mem_of_at {L : List (List UInt8)} {k : Nat} {x : List UInt8} (h : L[k]? = some x) : L.contains x = true := by
  rw [List.contains_iff_mem]; exact List.mem_of_getElem? h

set_option maxHeartbeats 1600000 in
theorem l2word_any (s : ByteArray) (w : World) :
    Calls Tryz.prog 63 #[.string s] w fun e w' => e = .returned (.bool (isWd (toL s))) ∧ Below w.heap.size w w' := by
  have R : Row (w.alloc (.cells #[.string ⟨#[108, 101, 116]⟩, .string ⟨#[119, 104, 101, 110]⟩, .string ⟨#[101, 108, 115, 101]⟩, .string ⟨#[100, 101, 110, 121]⟩, .string ⟨#[103, 114, 97, 110, 116]⟩, .string ⟨#[105, 102]⟩, .string ⟨#[116, 104, 101, 110]⟩, .string ⟨#[110, 111, 116]⟩, .string ⟨#[97, 110, 100]⟩, .string ⟨#[111, 114]⟩, .string ⟨#[105, 110]⟩, .string ⟨#[119, 105, 116, 104, 105, 110]⟩, .string ⟨#[115, 105, 122, 101]⟩, .string ⟨#[116, 114, 117, 101]⟩, .string ⟨#[102, 97, 108, 115, 101]⟩] 9)) w.heap.size (textsV wordsL) 9 := Row.new w (textsV wordsL) 9
  have B0 := (Below.refl w.heap.size w).alloc (Nat.le_refl _) (.cells #[.string ⟨#[108, 101, 116]⟩, .string ⟨#[119, 104, 101, 110]⟩, .string ⟨#[101, 108, 115, 101]⟩, .string ⟨#[100, 101, 110, 121]⟩, .string ⟨#[103, 114, 97, 110, 116]⟩, .string ⟨#[105, 102]⟩, .string ⟨#[116, 104, 101, 110]⟩, .string ⟨#[110, 111, 116]⟩, .string ⟨#[97, 110, 100]⟩, .string ⟨#[111, 114]⟩, .string ⟨#[105, 110]⟩, .string ⟨#[119, 105, 116, 104, 105, 110]⟩, .string ⟨#[115, 105, 122, 101]⟩, .string ⟨#[116, 114, 117, 101]⟩, .string ⟨#[102, 97, 108, 115, 101]⟩] 9)
  go_enter Tryz.func63, Tryz.ntmps63
  go_wp2
  generalize w.alloc (.cells #[.string ⟨#[108, 101, 116]⟩, .string ⟨#[119, 104, 101, 110]⟩, .string ⟨#[101, 108, 115, 101]⟩, .string ⟨#[100, 101, 110, 121]⟩, .string ⟨#[103, 114, 97, 110, 116]⟩, .string ⟨#[105, 102]⟩, .string ⟨#[116, 104, 101, 110]⟩, .string ⟨#[110, 111, 116]⟩, .string ⟨#[97, 110, 100]⟩, .string ⟨#[111, 114]⟩, .string ⟨#[105, 110]⟩, .string ⟨#[119, 105, 116, 104, 105, 110]⟩, .string ⟨#[115, 105, 122, 101]⟩, .string ⟨#[116, 114, 117, 101]⟩, .string ⟨#[102, 97, 108, 115, 101]⟩] 9) = W at R B0 ⊢
  go_loop [7] (fun i => ∃ k : Nat, k ≤ 15 ∧ i = .int .i64 k ∧ noneOf wordsL k (toL s)) (fun i => 15 - (intOf i).toNat)
  case atStart => exact ⟨0, by omega, rfl, fun i hi => by omega⟩
  case round =>
    obtain ⟨k, hk, rfl, hn⟩ := hrel
    by_cases hlt : k < 15
    · have ilt : (k : Int) < 15 := by omega
      obtain ⟨x, hx⟩ : ∃ x, wordsL[k]? = some x := ⟨wordsL[k]'hlt, List.getElem?_eq_getElem hlt⟩
      have hc := (R.cell k).trans (textsV_at hx)
      rcases Bool.eq_false_or_eq_true (s.toList == (ofL x).toList) with h | h
      · have Hf := hide (show isWd (toL s) = true by rw [beq_ofL_true h]; exact mem_of_at hx)
        clear hn hx
        go_wp2
        go_ret
        exact ⟨ret_bool (unhide Hf).symm, B0⟩
      · have Hf := hide (hn.next hx (beq_ofL_false h))
        clear hn hx
        go_wp2
        go_round
        case rel => exact ⟨k + 1, by omega, by go_num, unhide Hf⟩
        case measure => simp [intOf]; omega
    · have e : k = 15 := by omega
      subst e
      have Hf := hide (show isWd (toL s) = false from noneOf.all hn)
      clear hn
      go_wp2
      go_ret
      exact ⟨ret_bool (unhide Hf).symm, B0⟩

end Go.Proofs.YtjapdeehnfoonaaGreatDoor

namespace Go.Proofs.YtjapdeehnfoonaaGreatDoor
open Go.RowKit
set_option linter.unusedVariables false

theorem runL_full (p : UInt8 → Bool) (r : List UInt8) : runL p r = r.length ↔ r.all p = true := by
  constructor
  · intro h
    have := runL_all p r
    rwa [h, List.take_length] at this
  · intro h
    have e : r.takeWhile p = r := by
      induction r with
      | nil => rfl
      | cons c r ih =>
        rw [List.all_cons, Bool.and_eq_true] at h
        rw [List.takeWhile_cons, if_pos h.1, ih h.2]
    rw [runL, e]

theorem identB_eq {s : ByteArray} (h0 : 0 < s.size) : identB s = (decide (s.size ≤ 32) && ltI (s[0].toNat : Int) && decide (runL wdB (toL s) = s.size) && !isWd (toL s)) := by
  have h := drop_cons s 0 h0
  rw [List.drop_zero] at h
  have hl : (toL s).length = s.size := toL_size s
  have hr : decide (runL wdB (toL s) = s.size) = (toL s).all wdB := by rw [← hl, Bool.eq_iff_iff, decide_eq_true_iff]; exact runL_full wdB (toL s)
  rw [hr, ← hl]
  generalize (toL s).drop (0 + 1) = q at h
  rw [identB, h]
  rfl

theorem identB_none {s : ByteArray} (h0 : s.size = 0) : identB s = false := by
  have : toL s = [] := List.eq_nil_of_length_eq_zero (by rw [toL_size]; exact h0)
  rw [identB, this]

set_option maxHeartbeats 1600000 in
theorem l2ident_any (s : ByteArray) (w : World) (hs : s.size ≤ 1048576) :
    Calls Tryz.prog 43 #[.string s] w fun e w' => e = .returned (.bool (identB s)) ∧ Below w.heap.size w w' := by
  by_cases h0 : s.size = 0
  · have i0 : ¬ ((0 : Int) < (s.size : Int)) := by omega
    rw [identB_none h0]
    go_enter Tryz.func43, Tryz.ntmps43
    go_wp2
    go_ret
    exact ⟨rfl, Below.refl _ _⟩
  have hp : 0 < s.size := by omega
  have i0 : (0 : Int) < (s.size : Int) := by omega
  have HI := hide (identB_eq hp)
  by_cases h32 : s.size ≤ 32
  case neg =>
    have i32 : ¬ ((s.size : Int) ≤ 32) := by omega
    have i33 : (32 : Int) < (s.size : Int) := by omega
    go_enter Tryz.func43, Tryz.ntmps43
    go_wp2
    go_ret
    exact ⟨ret_bool (by rw [unhide HI]; simp [h32]), Below.refl _ _⟩
  have i32 : (s.size : Int) ≤ 32 := by omega
  cases hl : ltI (s[0].toNat : Int)
  · have Hl := hide hl
    clear hl
    go_enter Tryz.func43, Tryz.ntmps43
    go_wp2_with (go_at_call 61; refine (l2letter_any _ _).mono ?_; rintro e w' ⟨rfl, hw⟩; rw [unhide Hl, hw]; clear hw)
    go_ret
    exact ⟨ret_bool (by rw [unhide HI, unhide Hl]; simp), Below.refl _ _⟩
  have Hl := hide hl
  clear hl
  have HE := hide (endS_zero wdB s)
  by_cases hr : runL wdB (toL s) = s.size
  · have er : (((runL wdB (toL s) : Nat) : Int) == (s.size : Int)) = true := beq_iff_eq.2 (by omega)
    go_enter Tryz.func43, Tryz.ntmps43
    go_wp2_with (first | (go_at_call 61; refine (l2letter_any _ _).mono ?_; rintro e w' ⟨rfl, hw⟩; rw [unhide Hl, hw]; clear hw) | (go_at_call 62; refine (l2run_any s 0 _ (by unfold maxLen; omega) (by omega)).mono ?_; rintro e w' ⟨rfl, hw⟩; rw [unhide HE, hw]; clear hw))
    refine (l2word_any s _).mono ?_
    rintro e w1 ⟨rfl, hb1⟩
    cases hw : isWd (toL s)
    · have Hw := hide hw
      clear hw
      go_wp2
      go_ret
      exact ⟨ret_bool (by rw [unhide HI, unhide Hl, unhide Hw]; simp [h32, hr]), hb1⟩
    · have Hw := hide hw
      clear hw
      go_wp2
      go_ret
      exact ⟨ret_bool (by rw [unhide HI, unhide Hw]; simp), hb1⟩
  · have er : (((runL wdB (toL s) : Nat) : Int) == (s.size : Int)) = false := beq_eq_false_iff_ne.2 (by omega)
    go_enter Tryz.func43, Tryz.ntmps43
    go_wp2_with (first | (go_at_call 61; refine (l2letter_any _ _).mono ?_; rintro e w' ⟨rfl, hw⟩; rw [unhide Hl, hw]; clear hw) | (go_at_call 62; refine (l2run_any s 0 _ (by unfold maxLen; omega) (by omega)).mono ?_; rintro e w' ⟨rfl, hw⟩; rw [unhide HE, hw]; clear hw))
    go_ret
    exact ⟨ret_bool (by rw [unhide HI]; simp [hr]), Below.refl _ _⟩

set_option maxHeartbeats 1600000 in
theorem couldBeName_any (s : ByteArray) (w : World) (hs : s.size ≤ 1048576) :
    Calls Tryz.prog 68 #[.string s] w fun e w' => e = .returned (.bool (identB s)) ∧ w' = w := by
  by_cases h0 : s.size = 0
  · rw [identB_none h0]
    have he := empty_of_size h0
    subst he
    go_enter Tryz.func68, Tryz.ntmps68
    go_wp2
    go_ret
    exact ⟨rfl, rfl⟩
  have hp : 0 < s.size := by omega
  have i0 : (0 : Int) < (s.size : Int) := by omega
  have hne := nonempty_of_size h0
  have HI := hide (identB_eq hp)
  by_cases h32 : s.size ≤ 32
  case neg =>
    have i32 : ¬ ((s.size : Int) ≤ 32) := by omega
    have i33 : (32 : Int) < (s.size : Int) := by omega
    go_enter Tryz.func68, Tryz.ntmps68
    go_wp2
    go_ret
    exact ⟨ret_bool (by rw [unhide HI]; simp [h32]), rfl⟩
  have i32 : (s.size : Int) ≤ 32 := by omega
  cases hl : ltI (s[0].toNat : Int)
  · have Hl := hide hl
    clear hl
    go_enter Tryz.func68, Tryz.ntmps68
    go_wp2_with (go_at_call 79; refine (isLetter_any _ _).mono ?_; rintro e w' ⟨rfl, hw⟩; rw [unhide Hl, hw]; clear hw)
    go_ret
    exact ⟨ret_bool (by rw [unhide HI, unhide Hl]; simp), rfl⟩
  have Hl := hide hl
  clear hl
  by_cases hr : runL wdB (toL s) = s.size
  · have er : (((runL wdB (toL s) : Nat) : Int) == (s.size : Int)) = true := beq_iff_eq.2 (by omega)
    go_enter Tryz.func68, Tryz.ntmps68
    go_wp2_with (first | (go_at_call 79; refine (isLetter_any _ _).mono ?_; rintro e w' ⟨rfl, hw⟩; rw [unhide Hl, hw]; clear hw) | (go_at_call 80; refine (runOf_wd s _ (by unfold maxLen; omega)).mono ?_; rintro e w' ⟨rfl, hw⟩; rw [hw]; clear hw))
    refine (isWord_any s _).mono ?_
    rintro e w1 ⟨rfl, hw1⟩
    rw [hw1]
    clear hw1
    cases hw : isWd (toL s)
    · have Hw := hide hw
      clear hw
      go_wp2
      go_ret
      exact ⟨ret_bool (by rw [unhide HI, unhide Hl, unhide Hw]; simp [h32, hr]), rfl⟩
    · have Hw := hide hw
      clear hw
      go_wp2
      go_ret
      exact ⟨ret_bool (by rw [unhide HI, unhide Hw]; simp), rfl⟩
  · have er : (((runL wdB (toL s) : Nat) : Int) == (s.size : Int)) = false := beq_eq_false_iff_ne.2 (by omega)
    go_enter Tryz.func68, Tryz.ntmps68
    go_wp2_with (first | (go_at_call 79; refine (isLetter_any _ _).mono ?_; rintro e w' ⟨rfl, hw⟩; rw [unhide Hl, hw]; clear hw) | (go_at_call 80; refine (runOf_wd s _ (by unfold maxLen; omega)).mono ?_; rintro e w' ⟨rfl, hw⟩; rw [hw]; clear hw))
    go_ret
    exact ⟨ret_bool (by rw [unhide HI]; simp [hr]), rfl⟩

theorem quotedB_eq (s : ByteArray) : quotedB s = (decide (s.size ≤ 32) && allNm s.data.toList) := rfl

theorem quotedB_or (s : ByteArray) : quotedB s = (decide (s.size = 0) || vnB s) := by
  rw [quotedB_eq, vnB]
  by_cases h : s.size = 0
  · have e := empty_of_size h
    subst e
    rfl
  · rw [show decide (s.size = 0) = false from decide_eq_false h, Bool.false_or, show decide (1 ≤ s.size ∧ s.size ≤ 32) = decide (s.size ≤ 32) by rw [decide_eq_decide]; omega]

set_option maxHeartbeats 800000 in
theorem l2quoted_any (s : ByteArray) (w : World) (hs : s.size ≤ 1048576) :
    Calls Tryz.prog 59 #[.string s] w fun e w' => e = .returned (.bool (quotedB s)) ∧ w' = w := by
  by_cases h0 : s.size = 0
  · have e := empty_of_size h0
    subst e
    go_enter Tryz.func59, Tryz.ntmps59
    go_wp2
    go_ret
    exact ⟨rfl, rfl⟩
  · have hne := nonempty_of_size h0
    have Hq := hide (show quotedB s = vnB s by rw [quotedB_or, decide_eq_false h0, Bool.false_or])
    go_enter Tryz.func59, Tryz.ntmps59
    go_wp2_with (go_at_call 73; refine (sValidName_any _ _ (by unfold maxLen; omega)).mono ?_; rintro e w' ⟨rfl, hw⟩; rw [hw]; clear hw)
    go_ret
    exact ⟨ret_bool (unhide Hq).symm, rfl⟩

set_option maxHeartbeats 1600000 in
theorem l2kids_any (op : Int) (w : World) :
    Calls Tryz.prog 58 #[.int .i64 op] w fun e w' => e = .returned (.int .i64 (kidN op)) ∧ w' = w := by
  go_enter Tryz.func58, Tryz.ntmps58
  go_wp2
  all_goals
    go_ret
    refine ⟨ret_int ?_, rfl⟩
    unfold kidN
    simp_all
    try omega

end Go.Proofs.YtjapdeehnfoonaaGreatDoor

namespace Go.Proofs.YtjapdeehnfoonaaGreatDoor
open Go.RowKit

set_option maxHeartbeats 800000 in
theorem allNames_any (a : Option Addr) (n c : Nat) (ss : List ByteArray) (w : World) (h : Strs w a n c ss) :
    Calls Tryz.prog 83 #[.slice a n c] w fun e w' => e = .returned (.bool (allB ss)) ∧ w' = w := by
  have hn : n ≤ 9223372036854775807 := by have := h.cap; have := h.small; unfold maxLen at this; omega
  go_enter Tryz.func83, Tryz.ntmps83
  go_wp2
  go_loop [4, 7] (fun _ i => ∃ k : Nat, k ≤ n ∧ i = .int .i64 k ∧ ∀ j, j < k → vnB (nth ss j) = true) (fun _ i => n - (intOf i).toNat)
  case atStart => exact ⟨0, Nat.zero_le _, rfl, fun j hj => by omega⟩
  case round =>
    obtain ⟨k, hk, rfl, ha⟩ := hrel
    have Ha := hide ha
    clear ha
    by_cases hlt : k < n
    · obtain ⟨b, off, ha', _, hc⟩ := h.cells k hlt
      have hsz := h.sizes k hlt
      subst ha'
      cases hv : vnB (nth ss k)
      · have Hv := hide hv
        have Hf := hide (allB_not ss k (by have := h.len; omega) hv)
        clear hv
        go_wp2_with (go_at_call 89; refine (iValidName_any _ _ hsz).mono ?_; rintro e w' ⟨rfl, rfl⟩; rw [unhide Hv])
        go_ret
        exact ⟨ret_bool (unhide Hf).symm, rfl⟩
      · have Hv := hide hv
        clear hv
        go_wp2_with (go_at_call 89; refine (iValidName_any _ _ hsz).mono ?_; rintro e w' ⟨rfl, rfl⟩; rw [unhide Hv])
        go_round
        case rel =>
          refine ⟨k + 1, by omega, by go_num, fun j hj => ?_⟩
          by_cases e : j = k
          · subst e; exact unhide Hv
          · exact unhide Ha j (by omega)
        case measure => simp [intOf]; omega
    · go_wp2
      go_ret
      exact ⟨ret_bool (allB_of ss fun j hj => unhide Ha j (by have := h.len; omega)).symm, rfl⟩

end Go.Proofs.YtjapdeehnfoonaaGreatDoor

namespace Go.Proofs.YtjapdeehnfoonaaGreatDoor
open Go.RowKit

set_option maxHeartbeats 800000 in
theorem strictlyRising_any (a : Option Addr) (n c : Nat) (ss : List ByteArray) (w : World) (h : Strs w a n c ss) :
    Calls Tryz.prog 84 #[.slice a n c] w fun e w' => e = .returned (.bool (risB ss)) ∧ Below w.heap.size w w' := by
  have hn : n ≤ 9223372036854775807 := by have := h.cap; have := h.small; unfold maxLen at this; omega
  have Hl := hide h.len
  go_enter Tryz.func84, Tryz.ntmps84
  go_wp2
  go_loopw [3] (fun i wr => ∃ k : Nat, 0 < k ∧ (k ≤ n ∨ k = 1) ∧ i = .int .i64 k ∧ (∀ j, 0 < j → j < k → sl (nth ss (j - 1)) (nth ss j) = true) ∧ Below w.heap.size w wr) (fun i _ => n + 1 - (intOf i).toNat)
  case atStart => exact ⟨1, by omega, .inr rfl, rfl, fun j hj hj' => by omega, Below.refl _ _⟩
  case round =>
    obtain ⟨k, hk0, hk, rfl, ha, hb⟩ := hrel
    have Ha := hide ha
    clear ha
    by_cases hlt : k < n
    · obtain ⟨b, off, ha', hbl, hc⟩ := (h.below hb (Nat.le_refl _)).at (by omega)
      have hc1 := hc (k - 1) (by omega)
      have hc2 := hc k hlt
      clear hc
      subst ha'
      have i1 : (0 : Int) ≤ (k : Int) - 1 := by omega
      have i2 : (k : Int) - 1 < (n : Int) := by omega
      have i3 : (k : Int) < (n : Int) := by omega
      have t1 : ((k : Int) - 1).toNat = k - 1 := by omega
      cases hs : Op.bytesLess (nth ss (k - 1)).toList (nth ss k).toList
      · have Hf := hide (risB_not ss (k - 1) k (by omega) (by have := h.len; omega) hs)
        go_wp2
        go_quiet (fail)
        go_wp2
        go_ret
        exact ⟨ret_bool (unhide Hf).symm, below_drewN hb _⟩
      · go_wp2
        go_quiet (fail)
        go_wp2
        go_roundw
        case rel =>
          refine ⟨k + 1, by omega, .inl (by omega), by go_num, fun j hj hj' => ?_, ?_⟩
          · by_cases e : j = k
            · subst e; exact hs
            · exact unhide Ha j hj (by omega)
          · exact below_drewN hb _
        case measure => simp [intOf]; omega
    · go_wp2
      go_ret
      exact ⟨ret_bool (risB_of_near ss fun j hj hj' => unhide Ha j hj (by have := h.len; omega)).symm, hb⟩

set_option maxHeartbeats 800000 in
theorem iIsSet_any (a : Option Addr) (n c : Nat) (ss : List ByteArray) (w : World) (h : Strs w a n c ss) :
    Calls Tryz.prog 69 #[.slice a n c] w fun e w' => e = .returned (.bool (setB ss)) ∧ Below w.heap.size w w' := by
  have hl := h.len
  by_cases h64 : n ≤ 64
  · have g : (n : Int) ≤ 64 := by omega
    have Hs := hide (setB_short ss (by omega))
    clear hl
    cases ha : allB ss
    · have Ha := hide ha
      clear ha
      go_enter Tryz.func69, Tryz.ntmps69
      go_wp2_with (go_at_call 83; refine (allNames_any _ _ _ _ _ h).mono ?_; rintro e w' ⟨rfl, rfl⟩; rw [unhide Ha])
      go_ret
      exact ⟨ret_bool (by rw [unhide Hs, unhide Ha]; rfl), Below.refl _ _⟩
    · have Ha := hide ha
      clear ha
      go_enter Tryz.func69, Tryz.ntmps69
      go_wp2_with (first | (go_at_call 83; refine (allNames_any _ _ _ _ _ h).mono ?_; rintro e w' ⟨rfl, rfl⟩; rw [unhide Ha]) | (go_at_call 84; refine (strictlyRising_any _ _ _ _ _ h).mono ?_; rintro e w' ⟨rfl, hb⟩))
      go_ret
      exact ⟨ret_bool (by rw [unhide Hs, unhide Ha]; rfl), hb⟩
  · have g : (64 : Int) < (n : Int) := by omega
    have Hs := hide (setB_long ss (by omega))
    clear hl
    go_enter Tryz.func69, Tryz.ntmps69
    go_wp2
    go_ret
    exact ⟨ret_bool (unhide Hs).symm, Below.refl _ _⟩

set_option maxHeartbeats 1600000 in
theorem sIsSet_any (a : Option Addr) (n c : Nat) (ss : List ByteArray) (w : World) (h : Strs w a n c ss) :
    Calls Tryz.prog 60 #[.slice a n c] w fun e w' => e = .returned (.bool (setB ss)) ∧ w' = w := by
  have hl := h.len
  by_cases h64 : n ≤ 64
  · have g : (n : Int) ≤ 64 := by omega
    have Hs := hide (setB_short ss (by omega))
    have Hl := hide hl
    clear hl
    go_enter Tryz.func60, Tryz.ntmps60
    go_wp2
    go_loop [2, 3, 4, 5, 11] (fun _ _ _ _ i => ∃ k : Nat, k ≤ n ∧ i = .int .i64 k ∧ (∀ j, j < k → vnB (nth ss j) = true) ∧ (∀ i j, i < k → i < j → j < n → sl (nth ss i) (nth ss j) = true)) (fun _ _ _ _ i => n - (intOf i).toNat)
    case atStart => exact ⟨0, Nat.zero_le _, rfl, fun j hj => by omega, fun i j hi => by omega⟩
    case round =>
      obtain ⟨k, hk, rfl, ha, hp⟩ := hrel
      have Ha := hide ha
      have Hp := hide hp
      clear ha hp
      by_cases hlt : k < n
      · obtain ⟨b, off, ha', _, hc⟩ := h.at (by omega)
        have hck := hc k hlt
        have Hc := hide hc
        clear hc
        have hsz := h.sizes k hlt
        subst ha'
        cases hv : vnB (nth ss k)
        · have Hv := hide hv
          have Hf := hide (allB_not ss k (by have := unhide Hl; omega) hv)
          clear hv
          go_wp2_with (go_at_call 73; refine (sValidName_any _ _ hsz).mono ?_; rintro e w' ⟨rfl, rfl⟩; rw [unhide Hv])
          go_ret
          exact ⟨ret_bool (by rw [unhide Hs, unhide Hf]; rfl), rfl⟩
        · have Hv := hide hv
          clear hv
          go_wp2_with (go_at_call 73; refine (sValidName_any _ _ hsz).mono ?_; rintro e w' ⟨rfl, rfl⟩; rw [unhide Hv])
          go_loop [5] (fun i => ∃ m : Nat, k < m ∧ m ≤ n ∧ i = .int .i64 m ∧ ∀ j, k < j → j < m → sl (nth ss k) (nth ss j) = true) (fun i => n - (intOf i).toNat)
          case atStart => exact ⟨k + 1, by omega, by omega, by go_num, fun j hj hj' => by omega⟩
          case round =>
            obtain ⟨m, hkm, hm, rfl, hq⟩ := hrel
            have Hq := hide hq
            clear hq
            by_cases hmn : m < n
            · have hcm := unhide Hc m hmn
              cases hs : Op.bytesLess (nth ss k).toList (nth ss m).toList
              · have Hf := hide (risB_not ss k m hkm (by have := unhide Hl; omega) hs)
                go_wp2
                go_ret
                exact ⟨ret_bool (by rw [unhide Hs, unhide Hf, Bool.and_false]), rfl⟩
              · go_wp2
                go_round
                case rel =>
                  refine ⟨m + 1, by omega, by omega, by go_num, fun j hj hj' => ?_⟩
                  by_cases e : j = m
                  · subst e; exact hs
                  · exact unhide Hq j hj (by omega)
                case measure => simp [intOf]; omega
            · go_wp2
              go_round
              case rel =>
                refine ⟨k + 1, by omega, by go_num, fun j hj => ?_, fun i j hi hij hj => ?_⟩
                · by_cases e : j = k
                  · subst e; exact unhide Hv
                  · exact unhide Ha j (by omega)
                · by_cases e : i = k
                  · subst e; exact unhide Hq j hij (by omega)
                  · exact unhide Hp i j (by omega) hij hj
              case measure => simp [intOf]; omega
      · go_wp2
        go_ret
        have e1 : allB ss = true := allB_of ss fun j hj => unhide Ha j (by have := unhide Hl; omega)
        have e2 : risB ss = true := (risB_iff ss).2 fun i j hij hj => unhide Hp i j (by have := unhide Hl; omega) hij (by have := unhide Hl; omega)
        exact ⟨ret_bool (by rw [unhide Hs, e1, e2]; rfl), rfl⟩
  · have g : (64 : Int) < (n : Int) := by omega
    have Hs := hide (setB_long ss (by omega))
    clear hl
    go_enter Tryz.func60, Tryz.ntmps60
    go_wp2
    go_ret
    exact ⟨ret_bool (unhide Hs).symm, rfl⟩

end Go.Proofs.YtjapdeehnfoonaaGreatDoor

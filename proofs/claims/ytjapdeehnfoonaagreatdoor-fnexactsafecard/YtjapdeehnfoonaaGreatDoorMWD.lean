/-
  TN, DgI, Names, TS. Own work.
-/
import Derived.Test.YtjapdeehnfoonaaGreatDoorMWA
import Derived.WalkKit
import Derived.WalkSpells
import Derived.WalkLawsBesides
import Derived.Test.YtjapdeehnfoonaaGreatDoorMWB
namespace Go.Proofs.YtjapdeehnfoonaaGreatDoor
open Go.RowKit

theorem lvV_from : ∀ (l : List UInt8) (n : Int), l.foldl (fun n x => n * 10 + ((x.toNat : Int) - 48)) n = n * 10 ^ l.length + lvV l
  | [], n => by simp [lvV]
  | x :: xs, n => by
    have e : lvV (x :: xs) = (0 * 10 + ((x.toNat : Int) - 48)) * 10 ^ xs.length + lvV xs := lvV_from xs _
    rw [List.foldl_cons, lvV_from xs, e, List.length_cons, Int.pow_succ]
    rw [Int.add_mul, Int.add_mul]
    have : n * 10 * 10 ^ xs.length = n * (10 ^ xs.length * 10) := by rw [Int.mul_assoc, Int.mul_comm 10]
    omega

theorem lvV_cons (x : UInt8) (l : List UInt8) : lvV (x :: l) = ((x.toNat : Int) - 48) * 10 ^ l.length + lvV l := by
  rw [lvV, List.foldl_cons, lvV_from]
  simp

theorem lvV_lt : ∀ (a b : List UInt8), a.length = b.length → a.all dgB = true → b.all dgB = true → (a < b ↔ lvV a < lvV b)
  | [], [], _, _, _ => by simp
  | [], _ :: _, h, _, _ => by simp at h
  | _ :: _, [], h, _, _ => by simp at h
  | x :: xs, y :: ys, h, ha, hb => by
    have h' : xs.length = ys.length := by simpa using h
    rw [List.all_cons, Bool.and_eq_true] at ha hb
    have ih := lvV_lt xs ys h' ha.2 hb.2
    obtain ⟨a1, a2⟩ := lvV_bound _ xs rfl ha.2
    obtain ⟨b1, b2⟩ := lvV_bound _ ys rfl hb.2
    rw [lvV_cons, lvV_cons, List.cons_lt_cons_iff, ih, h']
    rw [h'] at a2
    have hp : (0 : Int) < 10 ^ ys.length := by omega
    generalize (10 : Int) ^ ys.length = p at *
    rcases Nat.lt_trichotomy x.toNat y.toNat with e | e | e
    · have h1 : x < y := UInt8.lt_iff_toNat_lt.2 e
      have : ((x.toNat : Int) - 48 + 1) * p ≤ ((y.toNat : Int) - 48) * p := Int.mul_le_mul_of_nonneg_right (by omega) (by omega)
      rw [Int.add_mul] at this
      constructor
      · intro _; omega
      · intro _; exact .inl h1
    · have h1 : x = y := UInt8.toNat_inj.1 e
      subst h1
      constructor
      · rintro (h | ⟨_, h⟩)
        · exact absurd h (by simp [UInt8.lt_irrefl])
        · omega
      · intro h; exact .inr ⟨rfl, by omega⟩
    · have h1 : y < x := UInt8.lt_iff_toNat_lt.2 e
      have : ((y.toNat : Int) - 48 + 1) * p ≤ ((x.toNat : Int) - 48) * p := Int.mul_le_mul_of_nonneg_right (by omega) (by omega)
      rw [Int.add_mul] at this
      constructor
      · rintro (h | ⟨h, _⟩)
        · exfalso; have h2 := UInt8.lt_iff_toNat_lt.1 h; omega
        · subst h; omega
      · intro h; omega

def maxT : List UInt8 := [57, 50, 50, 51, 51, 55, 50, 48, 51, 54, 56, 53, 52, 55, 55, 53, 56, 48, 55]

theorem maxT_v : lvV maxT = 9223372036854775807 := by decide

theorem runL_all (p : UInt8 → Bool) (r : List UInt8) : (r.take (runL p r)).all p = true := by
  have : r.take (runL p r) = r.takeWhile p := by
    obtain ⟨t, ht⟩ := List.takeWhile_prefix p (l := r)
    rw [runL]
    have e : (r.takeWhile p ++ t).take (r.takeWhile p).length = r.takeWhile p := by simp
    rw [ht] at e
    exact e
  rw [this, List.all_takeWhile]

theorem lvV_take_le (k : Nat) (d : List UInt8) (h : d.all dgB = true) : 0 ≤ lvV (d.take k) ∧ lvV (d.take k) ≤ lvV d := by
  have h1 : (d.take k).all dgB = true := by rw [List.all_eq_true] at h ⊢; exact fun x hx => h x (List.mem_of_mem_take hx)
  have h2 : (d.drop k).all dgB = true := by rw [List.all_eq_true] at h ⊢; exact fun x hx => h x (List.mem_of_mem_drop hx)
  obtain ⟨a1, _⟩ := lvV_bound _ _ rfl h1
  obtain ⟨b1, b2⟩ := lvV_bound _ _ rfl h2
  refine ⟨a1, ?_⟩
  conv => rhs; rw [← List.take_append_drop k d, lvV, List.foldl_append, lvV_from]
  have hp : (1 : Int) ≤ 10 ^ (d.drop k).length := by omega
  have := Int.mul_le_mul_of_nonneg_left hp a1
  have e : lvV (d.take k) = List.foldl (fun n x => n * 10 + ((x.toNat : Int) - 48)) 0 (d.take k) := rfl
  rw [← e]
  omega

end Go.Proofs.YtjapdeehnfoonaaGreatDoor

namespace Go.Proofs.YtjapdeehnfoonaaGreatDoor
open Go.RowKit

set_option maxHeartbeats 400000 in
theorem isDigit_any (c : Int) (w : World) :
    Calls Tryz.prog 88 #[.int .u8 c] w fun e w' => e = .returned (.bool (dgI c)) ∧ w' = w := by
  go_enter Tryz.func88, Tryz.ntmps88
  go_wp2
  all_goals
    go_ret
    refine ⟨ret_bool ?_, rfl⟩
    rw [Bool.eq_iff_iff]
    simp_all [dgI]
    try omega

end Go.Proofs.YtjapdeehnfoonaaGreatDoor

namespace Go.Proofs.YtjapdeehnfoonaaGreatDoor
open Go.RowKit

set_option maxHeartbeats 800000 in
theorem l1nameByte_any (c : Int) (w : World) :
    Calls Tryz.prog 86 #[.int .u8 c] w fun e w' => e = .returned (.bool (nmI c)) ∧ w' = w := by
  go_enter Tryz.func86, Tryz.ntmps86
  go_wp2
  all_goals
    go_ret
    refine ⟨ret_bool ?_, rfl⟩
    rw [Bool.eq_iff_iff]
    simp_all [nmI]
    try omega

set_option maxHeartbeats 800000 in
theorem nameByte_any (c : Int) (w : World) :
    Calls Tryz.prog 78 #[.int .u8 c] w fun e w' => e = .returned (.bool (nmI c)) ∧ w' = w := by
  go_enter Tryz.func78, Tryz.ntmps78
  go_wp2_with (go_at_call 88; refine (isDigit_any _ _).mono ?_; rintro e w' ⟨rfl, rfl⟩)
  all_goals
    go_ret
    refine ⟨ret_bool ?_, rfl⟩
    rw [Bool.eq_iff_iff]
    simp_all [nmI, dgI]
    try omega

set_option maxHeartbeats 800000 in
theorem nameBytes_any (s : ByteArray) (w : World) (hs : s.size ≤ maxLen) :
    Calls Tryz.prog 67 #[.string s] w fun e w' => e = .returned (.bool (decide (s.size ≤ 32) && allNm s.data.toList)) ∧ w' = w := by
  unfold maxLen at hs
  by_cases h32 : s.size ≤ 32
  · go_enter Tryz.func67, Tryz.ntmps67
    go_wp2
    go_loop [3, 9] (fun _ i => ∃ k : Nat, k ≤ s.size ∧ i = .int .i64 k ∧ allNm (s.data.toList.take k) = true) (fun _ i => s.size - (intOf i).toNat)
    case atStart => exact ⟨0, Nat.zero_le _, rfl, rfl⟩
    case round =>
      obtain ⟨k, hk, rfl, ha⟩ := hrel
      have Ha := hide ha
      clear ha
      by_cases hlt : k < s.size
      · cases hn : nmI ((s[k]).toNat : Int)
        · have Hf := hide (allNm_false s k hlt hn)
          have Hn := hide hn
          clear hn
          go_wp2_with (go_at_call 78; refine (nameByte_any _ _).mono ?_; rintro e w' ⟨rfl, rfl⟩; rw [unhide Hn])
          go_ret
          exact ⟨ret_bool (by rw [unhide Hf]; simp), rfl⟩
        · have Hn := hide hn
          clear hn
          go_wp2_with (go_at_call 78; refine (nameByte_any _ _).mono ?_; rintro e w' ⟨rfl, rfl⟩; rw [unhide Hn])
          go_round
          case rel => exact ⟨k + 1, by omega, by go_num, by rw [take_snoc s k hlt, allNm_snoc, unhide Ha, unhide Hn]; rfl⟩
          case measure => simp [intOf]; omega
      · go_wp2
        go_ret
        refine ⟨ret_bool ?_, rfl⟩
        have := unhide Ha
        rw [List.take_of_length_le (by simp; omega)] at this
        simp [this]
  · go_enter Tryz.func67, Tryz.ntmps67
    have h' : 32 < s.size := by omega
    go_wp2
    go_ret
    exact ⟨ret_bool (by simp [h32]), rfl⟩

set_option maxHeartbeats 800000 in
theorem sValidName_any (s : ByteArray) (w : World) (hs : s.size ≤ maxLen) :
    Calls Tryz.prog 73 #[.string s] w fun e w' => e = .returned (.bool (vnB s)) ∧ w' = w := by
  unfold maxLen at hs
  by_cases h1 : s.size < 1
  · have h1' : s.size = 0 := by omega
    go_enter Tryz.func73, Tryz.ntmps73
    go_wp2
    go_ret
    exact ⟨ret_bool (by simp [vnB, h1']), rfl⟩
  · by_cases h32 : s.size ≤ 32
    · have hc1 : ¬ ((s.size : Int) < 1) := by omega
      have hc2 : ¬ ((32 : Int) < (s.size : Int)) := by omega
      go_enter Tryz.func73, Tryz.ntmps73
      go_wp2
      go_loop [3] (fun i => ∃ k : Nat, k ≤ s.size ∧ i = .int .i64 k ∧ allNm (s.data.toList.take k) = true) (fun i => s.size - (intOf i).toNat)
      case atStart => exact ⟨0, Nat.zero_le _, rfl, rfl⟩
      case round =>
        obtain ⟨k, hk, rfl, ha⟩ := hrel
        have Ha := hide ha
        clear ha
        by_cases hlt : k < s.size
        · cases hn : nmI ((s[k]).toNat : Int)
          · have Hf := hide (allNm_false s k hlt hn)
            have Hn := hide hn
            clear hn
            go_wp2_with (go_at_call 86; refine (l1nameByte_any _ _).mono ?_; rintro e w' ⟨rfl, rfl⟩; rw [unhide Hn])
            go_ret
            exact ⟨ret_bool (by rw [vnB, unhide Hf]; simp), rfl⟩
          · have Hn := hide hn
            clear hn
            go_wp2_with (go_at_call 86; refine (l1nameByte_any _ _).mono ?_; rintro e w' ⟨rfl, rfl⟩; rw [unhide Hn])
            go_round
            case rel => exact ⟨k + 1, by omega, by go_num, by rw [take_snoc s k hlt, allNm_snoc, unhide Ha, unhide Hn]; rfl⟩
            case measure => simp [intOf]; omega
        · go_wp2
          go_ret
          refine ⟨ret_bool ?_, rfl⟩
          have := unhide Ha
          rw [List.take_of_length_le (by simp; omega)] at this
          simp [vnB, this, h32]; omega
    · have hc1 : ¬ ((s.size : Int) < 1) := by omega
      have hc2 : ((32 : Int) < (s.size : Int)) := by omega
      go_enter Tryz.func73, Tryz.ntmps73
      go_wp2
      go_ret
      exact ⟨ret_bool (by simp [vnB, h32]), rfl⟩

set_option maxHeartbeats 800000 in
theorem iValidName_any (s : ByteArray) (w : World) (hs : s.size ≤ maxLen) :
    Calls Tryz.prog 89 #[.string s] w fun e w' => e = .returned (.bool (vnB s)) ∧ w' = w := by
  by_cases h1 : s.size = 0
  · have he : s = ByteArray.empty := by
      cases s with | mk d => cases d with | mk l => simp [ByteArray.size] at h1; subst h1; rfl
    subst he
    go_enter Tryz.func89, Tryz.ntmps89
    go_wp2
    go_ret
    exact ⟨rfl, rfl⟩
  · have hne : s.toList.isEmpty = false := by
      rw [ByteArray.toList_eq]
      cases s with | mk d => cases d with | mk l => simp [ByteArray.size] at h1 ⊢; exact h1
    go_enter Tryz.func89, Tryz.ntmps89
    go_wp2_with (go_at_call 67; refine (nameBytes_any _ _ hs).mono ?_; rintro e w' ⟨rfl, rfl⟩)
    go_ret
    refine ⟨ret_bool ?_, rfl⟩
    rw [vnB]
    congr 1
    rw [decide_eq_decide]
    omega

end Go.Proofs.YtjapdeehnfoonaaGreatDoor

namespace Go.Proofs.YtjapdeehnfoonaaGreatDoor
open Go.RowKit
set_option linter.unusedVariables false

set_option maxHeartbeats 400000 in
theorem l2letter_any (c : Int) (w : World) :
    Calls Tryz.prog 61 #[.int .u8 c] w fun e w' => e = .returned (.bool (ltI c)) ∧ w' = w := by
  go_enter Tryz.func61, Tryz.ntmps61
  go_wp2
  all_goals
    go_ret
    refine ⟨ret_bool ?_, rfl⟩
    rw [Bool.eq_iff_iff]
    simp_all [ltI]
    try omega

set_option maxHeartbeats 400000 in
theorem l2digit_any (c : Int) (w : World) :
    Calls Tryz.prog 74 #[.int .u8 c] w fun e w' => e = .returned (.bool (dgI c)) ∧ w' = w := by
  go_enter Tryz.func74, Tryz.ntmps74
  go_wp2
  all_goals
    go_ret
    refine ⟨ret_bool ?_, rfl⟩
    rw [Bool.eq_iff_iff]
    simp_all [dgI]
    try omega

theorem wdB_true {c : UInt8} (h : wdB c = true) : ltI (c.toNat : Int) = true ∨ (ltI (c.toNat : Int) = false ∧ dgI (c.toNat : Int) = true) ∨ (ltI (c.toNat : Int) = false ∧ dgI (c.toNat : Int) = false ∧ (c.toNat : Int) = 95) := by
  rw [wdB, wdI] at h
  cases h1 : ltI (c.toNat : Int)
  · cases h2 : dgI (c.toNat : Int)
    · rw [h1, h2] at h; simp at h; exact .inr (.inr ⟨rfl, rfl, by omega⟩)
    · exact .inr (.inl ⟨rfl, rfl⟩)
  · exact .inl rfl

theorem wdB_false {c : UInt8} (h : wdB c = false) : ltI (c.toNat : Int) = false ∧ dgI (c.toNat : Int) = false ∧ ¬ (c.toNat : Int) = 95 := by
  rw [wdB, wdI] at h
  simp only [Bool.or_eq_false_iff, decide_eq_false_iff_not] at h
  exact ⟨h.1.1, h.1.2, h.2⟩

set_option maxHeartbeats 1600000 in
theorem l2run_any (s : ByteArray) (j : Nat) (w : World) (hs : s.size ≤ maxLen) (hj : j ≤ s.size) :
    Calls Tryz.prog 62 #[.string s, .int .i64 j] w fun e w' => e = .returned (.int .i64 (endS wdB s j : Nat)) ∧ w' = w := by
  unfold maxLen at hs
  go_enter Tryz.func62, Tryz.ntmps62
  go_wp2
  go_loop [1] (fun i => ∃ k : Nat, j ≤ k ∧ k ≤ s.size ∧ i = .int .i64 k ∧ endS wdB s j = endS wdB s k) (fun i => s.size - (intOf i).toNat)
  case atStart => exact ⟨j, Nat.le_refl _, hj, rfl, rfl⟩
  case round =>
    obtain ⟨k, hjk, hk, rfl, he⟩ := hrel
    have He := hide he
    clear he
    by_cases hlt : k < s.size
    · have ilt : (k : Int) < (s.size : Int) := by omega
      cases hn : wdB s[k]
      · have Hf := hide (endS_stop hlt hn)
        obtain ⟨h1, h2, h3⟩ := wdB_false hn
        have H1 := hide h1
        have H2 := hide h2
        clear hn h1 h2
        go_wp2_with (first | (go_at_call 61; refine (l2letter_any _ _).mono ?_; rintro e w' ⟨rfl, rfl⟩; rw [unhide H1]) | (go_at_call 74; refine (l2digit_any _ _).mono ?_; rintro e w' ⟨rfl, rfl⟩; rw [unhide H2]))
        go_ret
        exact ⟨ret_int (by rw [unhide He, unhide Hf]), rfl⟩
      · have Hf := hide (endS_step hlt hn)
        rcases wdB_true hn with h1 | ⟨h1, h2⟩ | ⟨h1, h2, h3⟩
        · have H1 := hide h1
          clear hn h1
          go_wp2_with (go_at_call 61; refine (l2letter_any _ _).mono ?_; rintro e w' ⟨rfl, rfl⟩; rw [unhide H1])
          go_round
          case rel => exact ⟨k + 1, by omega, by omega, by go_num, by rw [unhide He, unhide Hf]⟩
          case measure => simp [intOf]; omega
        · have H1 := hide h1
          have H2 := hide h2
          clear hn h1 h2
          go_wp2_with (first | (go_at_call 61; refine (l2letter_any _ _).mono ?_; rintro e w' ⟨rfl, rfl⟩; rw [unhide H1]) | (go_at_call 74; refine (l2digit_any _ _).mono ?_; rintro e w' ⟨rfl, rfl⟩; rw [unhide H2]))
          go_round
          case rel => exact ⟨k + 1, by omega, by omega, by go_num, by rw [unhide He, unhide Hf]⟩
          case measure => simp [intOf]; omega
        · clear hn h1 h2
          go_wp2_with (first | (go_at_call 61; refine (l2letter_any _ _).mono ?_; rintro e w' ⟨rfl, rfl⟩; rw [show ltI 95 = false from by decide]) | (go_at_call 74; refine (l2digit_any _ _).mono ?_; rintro e w' ⟨rfl, rfl⟩; rw [show dgI 95 = false from by decide]))
          go_round
          case rel => exact ⟨k + 1, by omega, by omega, by go_num, by rw [unhide He, unhide Hf]⟩
          case measure => simp [intOf]; omega
    · have Hf := hide (endS_end (p := wdB) (s := s) (j := k) (by omega))
      have ilt : ¬ ((k : Int) < (s.size : Int)) := by omega
      go_wp2
      go_ret
      exact ⟨ret_int (by rw [unhide He, unhide Hf]), rfl⟩

end Go.Proofs.YtjapdeehnfoonaaGreatDoor

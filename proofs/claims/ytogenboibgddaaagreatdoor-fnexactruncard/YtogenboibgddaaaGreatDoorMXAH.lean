/-
  PickW, WIS, Calc4, MI. Own work.
-/
import Derived.Test.YtogenboibgddaaaGreatDoorMXAC
import Derived.Test.YtogenboibgddaaaGreatDoorMXAE
import Derived.Test.YtogenboibgddaaaGreatDoorCalc3
import Derived.Deep.RegionHeld3
namespace Go.Proofs.YtogenboibgddaaaGreatDoor
open Go.RowKit

set_option maxHeartbeats 800000 in
theorem l1has_any (a : Option Addr) (n c : Nat) (ss : List ByteArray) (s : ByteArray) (w : World) (h : Strs w a n c ss) :
    Calls Tryz.prog 73 #[.slice a n c, .string s] w fun e w' => e = .returned (.bool (hasB ss s)) ∧ w' = w := by
  have hn : n ≤ 9223372036854775807 := by have := h.cap; have := h.small; unfold maxLen at this; omega
  go_enter Tryz.func73, Tryz.ntmps73
  go_wp2
  go_loop [6, 9] (fun _ i => ∃ k : Nat, k ≤ n ∧ i = .int .i64 k ∧ ∀ j, j < k → eqS (nth ss j) s = false) (fun _ i => n - (intOf i).toNat)
  case atStart => exact ⟨0, Nat.zero_le _, rfl, fun j hj => by omega⟩
  case round =>
    obtain ⟨k, hk, rfl, ha⟩ := hrel
    have Ha := hide ha
    clear ha
    by_cases hlt : k < n
    · obtain ⟨b, off, ha', _, hc⟩ := h.cells k hlt
      subst ha'
      cases hv : ((nth ss k).toList == s.toList)
      · go_wp2
        go_round
        case rel =>
          refine ⟨k + 1, by omega, by go_num, fun j hj => ?_⟩
          by_cases e : j = k
          · subst e; exact hv
          · exact unhide Ha j (by omega)
        case measure => simp [intOf]; omega
      · have Hf := hide (hasB_at ss s k (by have := h.len; omega) hv)
        go_wp2
        go_ret
        exact ⟨ret_bool (unhide Hf).symm, rfl⟩
    · go_wp2
      go_ret
      exact ⟨ret_bool (hasB_none ss s fun j hj => unhide Ha j (by have := h.len; omega)).symm, rfl⟩

set_option maxHeartbeats 1600000 in
theorem l1pick_any (a : Option Addr) (n c : Nat) (ss : List ByteArray) (a' : Option Addr) (n' c' : Nat) (tt : List ByteArray) (q : Bool) (w : World) (h : Strs w a n c ss) (h' : Strs w a' n' c' tt) (hsm : n ≤ 1048576) :
    Calls Tryz.prog 102 #[.slice a n c, .slice a' n' c', .bool q] w fun e w' => ∃ x cx, e = .returned (.slice x (pick ss tt q).length cx) ∧ w'.ownsRow w.heap.size 9 1 (.slice x (pick ss tt q).length cx) (pick ss tt q).length ((pick ss tt q).map Value.string) ∧ Below w.heap.size w w' := by
  obtain ⟨i, hi, hz0, hz1, hz2⟩ := info_parts infoS
  have Hl := hide h.len
  go_enter Tryz.func102, Tryz.ntmps102
  go_wp2
  go_loopw [7, 9, 12] (fun v _ i wr => ∃ k : Nat, k ≤ n ∧ i = .int .i64 k ∧ wr.ownsRow w.heap.size 9 1 v (pick (ss.take k) tt q).length ((pick (ss.take k) tt q).map Value.string) ∧ Below w.heap.size w wr) (fun _ _ i _ => n - (intOf i).toNat)
  case atStart => exact ⟨0, Nat.zero_le _, rfl, World.ownsRow_nil _ _ _ _, Below.refl _ _⟩
  case round =>
    obtain ⟨k, hk, rfl, hown, hb⟩ := hrel
    by_cases hlt : k < n
    · obtain ⟨b, off, ha', hbl, hc⟩ := (h.below hb (Nat.le_refl _)).cells k hlt
      have g' := h'.below hb (Nat.le_refl _)
      subst ha'
      have hkl : k < ss.length := by have := unhide Hl; omega
      have hpl : (pick (ss.take k) tt q).length ≤ k := Nat.le_trans (pick_len _ _ _) (List.length_take_le _ _)
      generalize hP : pick (ss.take k) tt q = P at *
      have HP := hide hP
      clear hP
      cases hv : (hasB tt (nth ss k) == q)
      · have Hn := hide (pick_no ss tt q k hkl hv)
        go_wp2_with (go_at_call 73; refine (l1has_any _ _ _ _ _ _ g').mono ?_; rintro e w' ⟨rfl, rfl⟩)
        go_roundw
        case rel => exact ⟨k + 1, by omega, by go_num, by rw [unhide Hn, unhide HP]; exact hown, hb⟩
        case measure => simp [intOf]; omega
      · have Hn := hide (pick_yes ss tt q k hkl hv)
        have hbs := hb.size
        go_wp2_with (first
          | (go_at_call 73; refine (l1has_any _ _ _ _ _ _ g').mono ?_; rintro e w2 ⟨rfl, hw2⟩; rw [hw2]; clear hw2)
          | (at_builtin; refine wpList_append_own _ rfl _ _ 26 rfl w.heap.size 9 i (.string ByteArray.empty) 1 16 Tryz.underlying26 hi hz0 hz1 hz2 rfl (by decide) _ _ _ rfl (hown.alloc _) ⟨wr.heap.size, 0, none⟩ 1 1 [.string (nth ss k)] rfl rfl ?c1 ?c2 ?c3 ?c4 ?c5 ?_))
        case c1 => exact cell_one_new _ _ _
        case c2 => intro u hu; simp at hu; subst hu; rfl
        case c3 => unfold maxLen; omega
        case c4 => omega
        case c5 => simp; omega
        intro v' w1 hown' hgrow _
        have hb1 : Below w.heap.size w w1 := (hb.alloc hbs _).grown hgrow (by simp; omega) (fun k hk => (hown.lt k hk).1)
        clear hgrow hown
        go_wp2
        go_roundw
        case rel => exact ⟨k + 1, by omega, by go_num, by rw [unhide Hn, unhide HP, List.map_append, List.length_append]; exact hown', hb1⟩
        case measure => simp [intOf]; omega
    · have e : k = n := by omega
      subst e
      go_wp2
      go_ret
      have e1 : ss.take k = ss := List.take_of_length_le (by have := unhide Hl; omega)
      rw [e1] at hown
      obtain ⟨x, cx, hf⟩ := owns_form hown
      subst hf
      exact ⟨x, cx, rfl, hown, hb⟩

end Go.Proofs.YtogenboibgddaaaGreatDoor

namespace Go.Proofs.YtogenboibgddaaaGreatDoor
open Go.RowKit

set_option maxHeartbeats 800000 in
theorem sWithin_any (a : Option Addr) (n c : Nat) (ss : List ByteArray) (a' : Option Addr) (n' c' : Nat) (tt : List ByteArray) (w : World) (h : Strs w a n c ss) (h' : Strs w a' n' c' tt) :
    Calls Tryz.prog 74 #[.slice a n c, .slice a' n' c'] w fun e w' => e = .returned (.bool (withinB ss tt)) ∧ Below w.heap.size w w' := by
  cases v1 : setB ss
  · go_enter Tryz.func74, Tryz.ntmps74
    go_wp2_with fail
    refine (sIsSet_any _ _ _ _ _ h).mono ?_
    rintro e w1 ⟨rfl, rfl⟩
    go_wp2_with fail
    go_ret
    exact ⟨ret_bool (by simp [withinB, v1]), Below.refl _ _⟩
  · cases v2 : setB tt
    · go_enter Tryz.func74, Tryz.ntmps74
      go_wp2_with fail
      refine (sIsSet_any _ _ _ _ _ h).mono ?_
      rintro e w1 ⟨rfl, rfl⟩
      go_wp2_with fail
      refine (sIsSet_any _ _ _ _ _ h').mono ?_
      rintro e w1 ⟨rfl, rfl⟩
      go_wp2_with fail
      go_ret
      exact ⟨ret_bool (by simp [withinB, v2]), Below.refl _ _⟩
    · have hn := (set_parts v1).1
      go_enter Tryz.func74, Tryz.ntmps74
      go_wp2_with fail
      refine (sIsSet_any _ _ _ _ _ h).mono ?_
      rintro e w1 ⟨rfl, rfl⟩
      go_wp2_with fail
      refine (sIsSet_any _ _ _ _ _ h').mono ?_
      rintro e w1 ⟨rfl, rfl⟩
      go_wp2_with fail
      refine (l1pick_any _ _ _ _ _ _ _ _ _ _ h h' (by have := h.len; omega)).mono ?_
      rintro e w1 ⟨x, cx, rfl, ho, hb⟩
      clear ho
      go_wp2_with fail
      go_ret
      refine ⟨ret_bool ?_, hb⟩
      simp only [withinB, v1, v2, Bool.true_and]
      rw [Bool.eq_iff_iff]; simp

end Go.Proofs.YtogenboibgddaaaGreatDoor

namespace Go.Proofs.YtogenboibgddaaaGreatDoor
open Go.RowKit

theorem big_of (a : Int) : bigI (decide (a < 0)) 0 (a.natAbs : Int) = a := by
  by_cases h : a < 0
  · simp [bigI, h]; omega
  · simp [bigI, h]; omega

theorem big_not (n : Bool) (x : Int) : bigI (!n) 0 x = -bigI n 0 x := by cases n <;> simp [bigI]

theorem ret_pairs {p q : Int × Int} (h : p = q) : Ending.returned (.tuple #[.int .i64 p.1, .int .i64 p.2]) = .returned (.tuple #[.int .i64 q.1, .int .i64 q.2]) := by rw [h]
theorem ret_pairs' {x c : Int} {q : Int × Int} (h : q = (x, c)) : Ending.returned (.tuple #[.int .i64 x, .int .i64 c]) = .returned (.tuple #[.int .i64 q.1, .int .i64 q.2]) := by rw [h]

theorem mul_sign (a b hi lo : Int) (h : hi * 18446744073709551616 + lo = (a.natAbs : Int) * (b.natAbs : Int)) : bigI (!(decide (a < 0) == decide (b < 0))) hi lo = a * b := by
  by_cases h1 : a < 0 <;> by_cases h2 : b < 0
  · have e1 : (a.natAbs : Int) = -a := by omega
    have e2 : (b.natAbs : Int) = -b := by omega
    rw [e1, e2, Int.neg_mul_neg] at h
    simp [bigI, h1, h2, h]
  · have e1 : (a.natAbs : Int) = -a := by omega
    have e2 : (b.natAbs : Int) = b := by omega
    rw [e1, e2, Int.neg_mul] at h
    simp [bigI, h1, h2, h]
  · have e1 : (a.natAbs : Int) = a := by omega
    have e2 : (b.natAbs : Int) = -b := by omega
    rw [e1, e2, Int.mul_neg] at h
    simp [bigI, h1, h2, h]
  · have e1 : (a.natAbs : Int) = a := by omega
    have e2 : (b.natAbs : Int) = b := by omega
    rw [e1, e2] at h
    simp [bigI, h1, h2, h]

theorem div_sign (a b : Int) : bigI (!(decide (a < 0) == decide (b < 0))) 0 ((a.natAbs : Int) / (b.natAbs : Int)) = a.tdiv b := by
  by_cases h1 : a < 0 <;> by_cases h2 : b < 0
  · have e1 : (a.natAbs : Int) = -a := by omega
    have e2 : (b.natAbs : Int) = -b := by omega
    have : a.tdiv b = (-a).tdiv (-b) := by rw [Int.neg_tdiv, Int.tdiv_neg, Int.neg_neg]
    rw [this, Int.tdiv_eq_ediv_of_nonneg (by omega)]
    simp [bigI, h1, h2, e1, e2]
  · have e1 : (a.natAbs : Int) = -a := by omega
    have e2 : (b.natAbs : Int) = b := by omega
    have : a.tdiv b = -((-a).tdiv b) := by rw [Int.neg_tdiv, Int.neg_neg]
    rw [this, Int.tdiv_eq_ediv_of_nonneg (by omega)]
    simp [bigI, h1, h2, e1, e2]
  · have e1 : (a.natAbs : Int) = a := by omega
    have e2 : (b.natAbs : Int) = -b := by omega
    have : a.tdiv b = -(a.tdiv (-b)) := by rw [Int.tdiv_neg, Int.neg_neg]
    rw [this, Int.tdiv_eq_ediv_of_nonneg (by omega)]
    simp [bigI, h1, h2, e1, e2]
  · have e1 : (a.natAbs : Int) = a := by omega
    have e2 : (b.natAbs : Int) = b := by omega
    rw [Int.tdiv_eq_ediv_of_nonneg (by omega)]
    simp [bigI, h1, h2, e1, e2]

theorem mod_sign (a b : Int) : bigI (decide (a < 0)) 0 ((a.natAbs : Int) % (b.natAbs : Int)) = a.tmod b := by
  have hb : ∀ x : Int, x.tmod b = x.tmod (b.natAbs : Int) := fun x => by
    by_cases h2 : b < 0
    · have e2 : (b.natAbs : Int) = -b := by omega
      rw [e2, Int.tmod_neg]
    · have e2 : (b.natAbs : Int) = b := by omega
      rw [e2]
  rw [hb]
  by_cases h1 : a < 0
  · have e1 : (a.natAbs : Int) = -a := by omega
    have : a.tmod (b.natAbs : Int) = -((-a).tmod (b.natAbs : Int)) := by rw [Int.neg_tmod, Int.neg_neg]
    rw [this, Int.tmod_eq_emod_of_nonneg (by omega)]
    simp [bigI, h1, e1]
  · have e1 : (a.natAbs : Int) = a := by omega
    rw [Int.tmod_eq_emod_of_nonneg (by omega)]
    simp [bigI, h1, e1]

variable {a b : Int} {w : World}

set_option maxHeartbeats 1600000 in
theorem sCalc_1 (ha : I64 a) (hb : I64 b) :
    Calls Tryz.prog 67 #[.int .i64 1, .int .i64 a, .int .i64 b] w fun e w' => e = .returned (.tuple #[.int .i64 (calcF 1 a b).1, .int .i64 (calcF 1 a b).2]) ∧ Below w.heap.size w w' := by
  have hx : (a.natAbs : Int) ≤ 9223372036854775808 := by have := ha.lo; have := ha.hi; omega
  have hy : (b.natAbs : Int) ≤ 9223372036854775808 := by have := hb.lo; have := hb.hi; omega
  go_enter Tryz.func67, Tryz.ntmps67
  go_wp2_with fail
  refine (l1bigOf_any a w ha).mono ?_
  rintro e w1 ⟨rfl, hb1⟩
  have B1 := hb1.alloc hb1.size (.cells #[.bool (decide (a < 0)), .int .u64 0, .int .u64 (a.natAbs : Int)] 150)
  have R1 := Row.new w1 #[.bool (decide (a < 0)), .int .u64 0, .int .u64 (a.natAbs : Int)] 150
  go_wp2_with fail
  refine (l1bigOf_any b _ hb).mono ?_
  rintro e w2 ⟨rfl, hb2⟩
  have B2 := (B1.trans (hb2.mono B1.size)).alloc (Nat.le_trans B1.size hb2.size) (.cells #[.bool (decide (b < 0)), .int .u64 0, .int .u64 (b.natAbs : Int)] 150)
  have R1' := (R1.after hb2 (Nat.le_refl _)).alloc (.cells #[.bool (decide (b < 0)), .int .u64 0, .int .u64 (b.natAbs : Int)] 150)
  have R2 := Row.new w2 #[.bool (decide (b < 0)), .int .u64 0, .int .u64 (b.natAbs : Int)] 150
  have z2 := hb2.size
  simp only [World.size_alloc] at z2
  have hlt : w1.heap.size < w2.heap.size := by omega
  clear R1 B1 hb1 hb2 z2
  have c0 := R1'.cell 0
  have c1 := R1'.cell 1
  have c2 := R1'.cell 2
  simp at c0 c1 c2
  go_wp2_with fail
  refine (l1sum_any _ _ _ _ _ (by omega) hx (by omega) hy).mono ?_
  rintro e w3 ⟨v, rfl, hv, hb3⟩
  obtain ⟨q, hi, lo, rfl, q1, q2, q3, q4, hq⟩ := hv
  have B3 := B2.trans (hb3.mono B2.size)
  rw [big_of, big_of] at hq
  have Hq := hide hq
  clear hq c0 c1 c2 R1' R2 B2 hb3 hlt
  go_wp2_with fail
  refine (l1small_any q hi lo _ q1 q2 q3 q4).mono ?_
  rintro e w4 ⟨rfl, hb4⟩
  rw [unhide Hq]
  generalize hf : fit (a + b) = f
  have Hf := hide hf
  clear hf
  go_wp2
  go_ret2
  exact ⟨ret_pairs (by rw [← unhide Hf]; rfl), B3.trans (hb4.mono B3.size)⟩

set_option maxHeartbeats 1600000 in
theorem sCalc_2 (ha : I64 a) (hb : I64 b) :
    Calls Tryz.prog 67 #[.int .i64 2, .int .i64 a, .int .i64 b] w fun e w' => e = .returned (.tuple #[.int .i64 (calcF 2 a b).1, .int .i64 (calcF 2 a b).2]) ∧ Below w.heap.size w w' := by
  have hx : (a.natAbs : Int) ≤ 9223372036854775808 := by have := ha.lo; have := ha.hi; omega
  have hy : (b.natAbs : Int) ≤ 9223372036854775808 := by have := hb.lo; have := hb.hi; omega
  go_enter Tryz.func67, Tryz.ntmps67
  go_wp2_with fail
  refine (l1bigOf_any a w ha).mono ?_
  rintro e w1 ⟨rfl, hb1⟩
  have B1 := hb1.alloc hb1.size (.cells #[.bool (decide (a < 0)), .int .u64 0, .int .u64 (a.natAbs : Int)] 150)
  have R1 := Row.new w1 #[.bool (decide (a < 0)), .int .u64 0, .int .u64 (a.natAbs : Int)] 150
  go_wp2_with fail
  refine (l1bigOf_any b _ hb).mono ?_
  rintro e w2 ⟨rfl, hb2⟩
  have B2 := (B1.trans (hb2.mono B1.size)).alloc (Nat.le_trans B1.size hb2.size) (.cells #[.bool (!decide (b < 0)), .int .u64 0, .int .u64 (b.natAbs : Int)] 150)
  have R1' := (R1.after hb2 (Nat.le_refl _)).alloc (.cells #[.bool (!decide (b < 0)), .int .u64 0, .int .u64 (b.natAbs : Int)] 150)
  have z2 := hb2.size
  simp only [World.size_alloc] at z2
  have hlt : w1.heap.size < w2.heap.size := by omega
  clear R1 B1 hb1 hb2 z2
  have c0 := R1'.cell 0
  have c1 := R1'.cell 1
  have c2 := R1'.cell 2
  simp at c0 c1 c2
  go_wp2_with fail
  refine (l1sum_any _ _ _ _ _ (by omega) hx (by omega) hy).mono ?_
  rintro e w3 ⟨v, rfl, hv, hb3⟩
  obtain ⟨q, hi, lo, rfl, q1, q2, q3, q4, hq⟩ := hv
  have B3 := B2.trans (hb3.mono B2.size)
  rw [big_not, big_of, big_of] at hq
  have Hq := hide hq
  clear hq c0 c1 c2 R1' B2 hb3 hlt
  go_wp2_with fail
  refine (l1small_any q hi lo _ q1 q2 q3 q4).mono ?_
  rintro e w4 ⟨rfl, hb4⟩
  rw [unhide Hq]
  generalize hf : fit (a + -b) = f
  have Hf := hide hf
  clear hf
  go_wp2
  go_ret2
  exact ⟨ret_pairs (by rw [← unhide Hf, ← Int.sub_eq_add_neg]; rfl), B3.trans (hb4.mono B3.size)⟩

set_option maxHeartbeats 1600000 in
theorem sCalc_3 (ha : I64 a) (hb : I64 b) :
    Calls Tryz.prog 67 #[.int .i64 3, .int .i64 a, .int .i64 b] w fun e w' => e = .returned (.tuple #[.int .i64 (calcF 3 a b).1, .int .i64 (calcF 3 a b).2]) ∧ Below w.heap.size w w' := by
  have hx : (a.natAbs : Int) ≤ 9223372036854775808 := by have := ha.lo; have := ha.hi; omega
  have hy : (b.natAbs : Int) ≤ 9223372036854775808 := by have := hb.lo; have := hb.hi; omega
  go_enter Tryz.func67, Tryz.ntmps67
  go_wp2_with fail
  refine (l1bigOf_any a w ha).mono ?_
  rintro e w1 ⟨rfl, hb1⟩
  have B1 := hb1.alloc hb1.size (.cells #[.bool (decide (a < 0)), .int .u64 0, .int .u64 (a.natAbs : Int)] 150)
  have R1 := Row.new w1 #[.bool (decide (a < 0)), .int .u64 0, .int .u64 (a.natAbs : Int)] 150
  go_wp2_with fail
  refine (l1bigOf_any b _ hb).mono ?_
  rintro e w2 ⟨rfl, hb2⟩
  have B2 := (B1.trans (hb2.mono B1.size)).alloc (Nat.le_trans B1.size hb2.size) (.cells #[.bool (decide (b < 0)), .int .u64 0, .int .u64 (b.natAbs : Int)] 150)
  have R1' := (R1.after hb2 (Nat.le_refl _)).alloc (.cells #[.bool (decide (b < 0)), .int .u64 0, .int .u64 (b.natAbs : Int)] 150)
  have R2 := Row.new w2 #[.bool (decide (b < 0)), .int .u64 0, .int .u64 (b.natAbs : Int)] 150
  have z2 := hb2.size
  simp only [World.size_alloc] at z2
  have hlt : w1.heap.size < w2.heap.size := by omega
  clear R1 B1 hb1 hb2 z2
  have c0 := R1'.cell 0
  have c1 := R1'.cell 1
  have c2 := R1'.cell 2
  simp at c0 c1 c2
  go_wp2_with fail
  refine (l1times_any _ _ _ ⟨by omega, hx⟩ ⟨by omega, hy⟩).mono ?_
  rintro e w3 ⟨⟨hi, lo, rfl, q1, q2, q3, q4, hq⟩, rfl⟩
  have Hq := hide (mul_sign a b hi lo hq)
  clear hq
  go_wp2_with fail
  refine (l1small_any _ hi lo _ q1 q2 q3 q4).mono ?_
  rintro e w4 ⟨rfl, hb4⟩
  rw [unhide Hq]
  generalize hf : fit (a * b) = f
  have Hf := hide hf
  clear hf
  go_wp2
  go_ret2
  exact ⟨ret_pairs (by rw [← unhide Hf]; rfl), B2.trans (hb4.mono B2.size)⟩

end Go.Proofs.YtogenboibgddaaaGreatDoor

namespace Go.Proofs.YtogenboibgddaaaGreatDoor
open Go.RowKit

set_option maxHeartbeats 800000 in
theorem sMinus_any (a : Option Addr) (n c : Nat) (ss : List ByteArray) (a' : Option Addr) (n' c' : Nat) (tt : List ByteArray) (w : World) (h : Strs w a n c ss) (h' : Strs w a' n' c' tt) :
    Calls Tryz.prog 70 #[.slice a n c, .slice a' n' c'] w fun e w' => minusAns w ss tt e w' := by
  cases v1 : setB ss
  · have Hn := hide (show minusL ss tt = [] by simp [minusL, v1])
    go_enter Tryz.func70, Tryz.ntmps70
    go_wp2_with fail
    refine (sIsSet_any _ _ _ _ _ h).mono ?_
    rintro e w1 ⟨rfl, rfl⟩
    rw [v1]
    go_wp2_with fail
    go_ret
    exact minusAns_nil (unhide Hn) (Below.refl _ _)
  · cases v2 : setB tt
    · have Hn := hide (show minusL ss tt = [] by simp [minusL, v2])
      go_enter Tryz.func70, Tryz.ntmps70
      go_wp2_with fail
      refine (sIsSet_any _ _ _ _ _ h).mono ?_
      rintro e w1 ⟨rfl, rfl⟩
      rw [v1]
      go_wp2_with fail
      refine (sIsSet_any _ _ _ _ _ h').mono ?_
      rintro e w1 ⟨rfl, rfl⟩
      rw [v2]
      go_wp2_with fail
      go_ret
      exact minusAns_nil (unhide Hn) (Below.refl _ _)
    · have hn := (minus_parts v1).1
      have Hn := hide (show minusL ss tt = pick ss tt false by simp [minusL, v1, v2])
      go_enter Tryz.func70, Tryz.ntmps70
      go_wp2_with fail
      refine (sIsSet_any _ _ _ _ _ h).mono ?_
      rintro e w1 ⟨rfl, rfl⟩
      rw [v1]
      go_wp2_with fail
      refine (sIsSet_any _ _ _ _ _ h').mono ?_
      rintro e w1 ⟨rfl, rfl⟩
      rw [v2]
      go_wp2_with fail
      refine (l1pick_any _ _ _ _ _ _ _ _ _ _ h h' (by have := h.len; omega)).mono ?_
      rintro e w1 ⟨x, cx, rfl, ho, hb⟩
      go_wp2_with fail
      go_ret
      unfold minusAns
      rw [unhide Hn]
      exact ⟨x, cx, rfl, ho, hb⟩

end Go.Proofs.YtogenboibgddaaaGreatDoor

/-
  Checked arithmetic: the specification's Calc. Own work.
-/
import Derived.Test.YtemekdkeggibaaaDoorCalc3
import Derived.Test.YtemekdkeggibaaaDoorCMem
import Derived.Deep.RegionHeld3
namespace Go.Proofs.YtemekdkeggibaaaDoor
open Go.RowKit

theorem big_of (a : Int) : bigI (decide (a < 0)) 0 (a.natAbs : Int) = a := by
  by_cases h : a < 0
  · simp [bigI, h]; omega
  · simp [bigI, h]; omega

theorem big_not (n : Bool) (x : Int) : bigI (!n) 0 x = -bigI n 0 x := by cases n <;> simp [bigI]

theorem ret_pairs {p q : Int × Int} (h : p = q) : Ending.returned (.tuple #[.int .i64 p.1, .int .i64 p.2]) = .returned (.tuple #[.int .i64 q.1, .int .i64 q.2]) := by rw [h]
theorem ret_pairs' {x c : Int} {q : Int × Int} (h : q = (x, c)) : Ending.returned (.tuple #[.int .i64 x, .int .i64 c]) = .returned (.tuple #[.int .i64 q.1, .int .i64 q.2]) := by rw [h]

/-- both numbers lie in their boxes -/
structure Boxes (w : World) (b1 b2 : Nat) (n1 : Bool) (x1 : Int) (n2 : Bool) (x2 : Int) : Prop where
  r1 : Row w b1 #[.bool n1, .int .u64 0, .int .u64 x1] 31
  r2 : Row w b2 #[.bool n2, .int .u64 0, .int .u64 x2] 31

theorem mul_sign (a b hi lo : Int) (h : hi * 18446744073709551616 + lo = (a.natAbs : Int) * (b.natAbs : Int)) : bigI (!(decide (a < 0) == decide (b < 0))) hi lo = a * b := by
  by_cases h1 : a < 0 <;> by_cases h2 : b < 0
  · have e1 : (a.natAbs : Int) = -a := by omega
    have e2 : (b.natAbs : Int) = -b := by omega
    rw [e1, e2, Int.neg_mul_neg] at h
    simp [bigI, h1, h2, h]
  · have e1 : (a.natAbs : Int) = -a := by omega
    have e2 : (b.natAbs : Int) = b := by omega
    rw [e1, e2, Int.neg_mul] at h
    simp [bigI, h1, h2, h]
  · have e1 : (a.natAbs : Int) = a := by omega
    have e2 : (b.natAbs : Int) = -b := by omega
    rw [e1, e2, Int.mul_neg] at h
    simp [bigI, h1, h2, h]
  · have e1 : (a.natAbs : Int) = a := by omega
    have e2 : (b.natAbs : Int) = b := by omega
    rw [e1, e2] at h
    simp [bigI, h1, h2, h]

theorem div_sign (a b : Int) : bigI (!(decide (a < 0) == decide (b < 0))) 0 ((a.natAbs : Int) / (b.natAbs : Int)) = a.tdiv b := by
  by_cases h1 : a < 0 <;> by_cases h2 : b < 0
  · have e1 : (a.natAbs : Int) = -a := by omega
    have e2 : (b.natAbs : Int) = -b := by omega
    have : a.tdiv b = (-a).tdiv (-b) := by rw [Int.neg_tdiv, Int.tdiv_neg, Int.neg_neg]
    rw [this, Int.tdiv_eq_ediv_of_nonneg (by omega)]
    simp [bigI, h1, h2, e1, e2]
  · have e1 : (a.natAbs : Int) = -a := by omega
    have e2 : (b.natAbs : Int) = b := by omega
    have : a.tdiv b = -((-a).tdiv b) := by rw [Int.neg_tdiv, Int.neg_neg]
    rw [this, Int.tdiv_eq_ediv_of_nonneg (by omega)]
    simp [bigI, h1, h2, e1, e2]
  · have e1 : (a.natAbs : Int) = a := by omega
    have e2 : (b.natAbs : Int) = -b := by omega
    have : a.tdiv b = -(a.tdiv (-b)) := by rw [Int.tdiv_neg, Int.neg_neg]
    rw [this, Int.tdiv_eq_ediv_of_nonneg (by omega)]
    simp [bigI, h1, h2, e1, e2]
  · have e1 : (a.natAbs : Int) = a := by omega
    have e2 : (b.natAbs : Int) = b := by omega
    rw [Int.tdiv_eq_ediv_of_nonneg (by omega)]
    simp [bigI, h1, h2, e1, e2]

theorem mod_sign (a b : Int) : bigI (decide (a < 0)) 0 ((a.natAbs : Int) % (b.natAbs : Int)) = a.tmod b := by
  have hb : ∀ x : Int, x.tmod b = x.tmod (b.natAbs : Int) := fun x => by
    by_cases h2 : b < 0
    · have e2 : (b.natAbs : Int) = -b := by omega
      rw [e2, Int.tmod_neg]
    · have e2 : (b.natAbs : Int) = b := by omega
      rw [e2]
  rw [hb]
  by_cases h1 : a < 0
  · have e1 : (a.natAbs : Int) = -a := by omega
    have : a.tmod (b.natAbs : Int) = -((-a).tmod (b.natAbs : Int)) := by rw [Int.neg_tmod, Int.neg_neg]
    rw [this, Int.tmod_eq_emod_of_nonneg (by omega)]
    simp [bigI, h1, e1]
  · have e1 : (a.natAbs : Int) = a := by omega
    rw [Int.tmod_eq_emod_of_nonneg (by omega)]
    simp [bigI, h1, e1]

variable {a b : Int} {w : World}

set_option maxHeartbeats 1600000 in
theorem sCalc_1 (ha : I64 a) (hb : I64 b) :
    Calls Tryd.prog 5 #[.int .i64 1, .int .i64 a, .int .i64 b] w fun e w' => e = .returned (.tuple #[.int .i64 (calcF 1 a b).1, .int .i64 (calcF 1 a b).2]) ∧ Below w.heap.size w w' := by
  have hx : (a.natAbs : Int) ≤ 9223372036854775808 := by have := ha.lo; have := ha.hi; omega
  have hy : (b.natAbs : Int) ≤ 9223372036854775808 := by have := hb.lo; have := hb.hi; omega
  go_enter Tryd.func5, Tryd.ntmps5
  go_wp2_with fail
  refine (l1bigOf_any a w ha).mono ?_
  rintro e w1 ⟨rfl, hb1⟩
  have B1 := hb1.alloc hb1.size (.cells #[.bool (decide (a < 0)), .int .u64 0, .int .u64 (a.natAbs : Int)] 31)
  have R1 := Row.new w1 #[.bool (decide (a < 0)), .int .u64 0, .int .u64 (a.natAbs : Int)] 31
  go_wp2_with fail
  refine (l1bigOf_any b _ hb).mono ?_
  rintro e w2 ⟨rfl, hb2⟩
  have B2 := (B1.trans (hb2.mono B1.size)).alloc (Nat.le_trans B1.size hb2.size) (.cells #[.bool (decide (b < 0)), .int .u64 0, .int .u64 (b.natAbs : Int)] 31)
  have R1' := (R1.after hb2 (Nat.le_refl _)).alloc (.cells #[.bool (decide (b < 0)), .int .u64 0, .int .u64 (b.natAbs : Int)] 31)
  have R2 := Row.new w2 #[.bool (decide (b < 0)), .int .u64 0, .int .u64 (b.natAbs : Int)] 31
  have z2 := hb2.size
  simp only [World.size_alloc] at z2
  have hlt : w1.heap.size < w2.heap.size := by omega
  clear R1 B1 hb1 hb2 z2
  have c0 := R1'.cell 0
  have c1 := R1'.cell 1
  have c2 := R1'.cell 2
  simp at c0 c1 c2
  go_wp2_with fail
  refine (l1sum_any _ _ _ _ _ (by omega) hx (by omega) hy).mono ?_
  rintro e w3 ⟨v, rfl, hv, hb3⟩
  obtain ⟨q, hi, lo, rfl, q1, q2, q3, q4, hq⟩ := hv
  have B3 := B2.trans (hb3.mono B2.size)
  rw [big_of, big_of] at hq
  have Hq := hide hq
  clear hq c0 c1 c2 R1' R2 B2 hb3 hlt
  go_wp2_with fail
  refine (l1small_any q hi lo _ q1 q2 q3 q4).mono ?_
  rintro e w4 ⟨rfl, hb4⟩
  rw [unhide Hq]
  generalize hf : fit (a + b) = f
  have Hf := hide hf
  clear hf
  go_wp2
  go_ret2
  exact ⟨ret_pairs (by rw [← unhide Hf]; rfl), B3.trans (hb4.mono B3.size)⟩

set_option maxHeartbeats 1600000 in
theorem sCalc_2 (ha : I64 a) (hb : I64 b) :
    Calls Tryd.prog 5 #[.int .i64 2, .int .i64 a, .int .i64 b] w fun e w' => e = .returned (.tuple #[.int .i64 (calcF 2 a b).1, .int .i64 (calcF 2 a b).2]) ∧ Below w.heap.size w w' := by
  have hx : (a.natAbs : Int) ≤ 9223372036854775808 := by have := ha.lo; have := ha.hi; omega
  have hy : (b.natAbs : Int) ≤ 9223372036854775808 := by have := hb.lo; have := hb.hi; omega
  go_enter Tryd.func5, Tryd.ntmps5
  go_wp2_with fail
  refine (l1bigOf_any a w ha).mono ?_
  rintro e w1 ⟨rfl, hb1⟩
  have B1 := hb1.alloc hb1.size (.cells #[.bool (decide (a < 0)), .int .u64 0, .int .u64 (a.natAbs : Int)] 31)
  have R1 := Row.new w1 #[.bool (decide (a < 0)), .int .u64 0, .int .u64 (a.natAbs : Int)] 31
  go_wp2_with fail
  refine (l1bigOf_any b _ hb).mono ?_
  rintro e w2 ⟨rfl, hb2⟩
  have B2 := (B1.trans (hb2.mono B1.size)).alloc (Nat.le_trans B1.size hb2.size) (.cells #[.bool (!decide (b < 0)), .int .u64 0, .int .u64 (b.natAbs : Int)] 31)
  have R1' := (R1.after hb2 (Nat.le_refl _)).alloc (.cells #[.bool (!decide (b < 0)), .int .u64 0, .int .u64 (b.natAbs : Int)] 31)
  have z2 := hb2.size
  simp only [World.size_alloc] at z2
  have hlt : w1.heap.size < w2.heap.size := by omega
  clear R1 B1 hb1 hb2 z2
  have c0 := R1'.cell 0
  have c1 := R1'.cell 1
  have c2 := R1'.cell 2
  simp at c0 c1 c2
  go_wp2_with fail
  refine (l1sum_any _ _ _ _ _ (by omega) hx (by omega) hy).mono ?_
  rintro e w3 ⟨v, rfl, hv, hb3⟩
  obtain ⟨q, hi, lo, rfl, q1, q2, q3, q4, hq⟩ := hv
  have B3 := B2.trans (hb3.mono B2.size)
  rw [big_not, big_of, big_of] at hq
  have Hq := hide hq
  clear hq c0 c1 c2 R1' B2 hb3 hlt
  go_wp2_with fail
  refine (l1small_any q hi lo _ q1 q2 q3 q4).mono ?_
  rintro e w4 ⟨rfl, hb4⟩
  rw [unhide Hq]
  generalize hf : fit (a + -b) = f
  have Hf := hide hf
  clear hf
  go_wp2
  go_ret2
  exact ⟨ret_pairs (by rw [← unhide Hf, ← Int.sub_eq_add_neg]; rfl), B3.trans (hb4.mono B3.size)⟩

set_option maxHeartbeats 1600000 in
theorem sCalc_3 (ha : I64 a) (hb : I64 b) :
    Calls Tryd.prog 5 #[.int .i64 3, .int .i64 a, .int .i64 b] w fun e w' => e = .returned (.tuple #[.int .i64 (calcF 3 a b).1, .int .i64 (calcF 3 a b).2]) ∧ Below w.heap.size w w' := by
  have hx : (a.natAbs : Int) ≤ 9223372036854775808 := by have := ha.lo; have := ha.hi; omega
  have hy : (b.natAbs : Int) ≤ 9223372036854775808 := by have := hb.lo; have := hb.hi; omega
  go_enter Tryd.func5, Tryd.ntmps5
  go_wp2_with fail
  refine (l1bigOf_any a w ha).mono ?_
  rintro e w1 ⟨rfl, hb1⟩
  have B1 := hb1.alloc hb1.size (.cells #[.bool (decide (a < 0)), .int .u64 0, .int .u64 (a.natAbs : Int)] 31)
  have R1 := Row.new w1 #[.bool (decide (a < 0)), .int .u64 0, .int .u64 (a.natAbs : Int)] 31
  go_wp2_with fail
  refine (l1bigOf_any b _ hb).mono ?_
  rintro e w2 ⟨rfl, hb2⟩
  have B2 := (B1.trans (hb2.mono B1.size)).alloc (Nat.le_trans B1.size hb2.size) (.cells #[.bool (decide (b < 0)), .int .u64 0, .int .u64 (b.natAbs : Int)] 31)
  have R1' := (R1.after hb2 (Nat.le_refl _)).alloc (.cells #[.bool (decide (b < 0)), .int .u64 0, .int .u64 (b.natAbs : Int)] 31)
  have R2 := Row.new w2 #[.bool (decide (b < 0)), .int .u64 0, .int .u64 (b.natAbs : Int)] 31
  have z2 := hb2.size
  simp only [World.size_alloc] at z2
  have hlt : w1.heap.size < w2.heap.size := by omega
  clear R1 B1 hb1 hb2 z2
  have c0 := R1'.cell 0
  have c1 := R1'.cell 1
  have c2 := R1'.cell 2
  simp at c0 c1 c2
  go_wp2_with fail
  refine (l1times_any _ _ _ ⟨by omega, hx⟩ ⟨by omega, hy⟩).mono ?_
  rintro e w3 ⟨⟨hi, lo, rfl, q1, q2, q3, q4, hq⟩, rfl⟩
  have Hq := hide (mul_sign a b hi lo hq)
  clear hq
  go_wp2_with fail
  refine (l1small_any _ hi lo _ q1 q2 q3 q4).mono ?_
  rintro e w4 ⟨rfl, hb4⟩
  rw [unhide Hq]
  generalize hf : fit (a * b) = f
  have Hf := hide hf
  clear hf
  go_wp2
  go_ret2
  exact ⟨ret_pairs (by rw [← unhide Hf]; rfl), B2.trans (hb4.mono B2.size)⟩

end Go.Proofs.YtemekdkeggibaaaDoor

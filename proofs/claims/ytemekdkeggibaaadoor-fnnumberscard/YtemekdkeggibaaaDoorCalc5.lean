/-
  Checked arithmetic: the specification's Calc, no operation, and division by zero. Own work.
-/
import Derived.Test.YtemekdkeggibaaaDoorCalc4
namespace Go.Proofs.YtemekdkeggibaaaDoor
open Go.RowKit
variable {a b : Int} {w : World}

set_option maxHeartbeats 1600000 in
theorem sCalc_0 (ha : I64 a) (hb : I64 b) (op : Int) (h1 : op ≠ 1) (h2 : op ≠ 2) (h3 : op ≠ 3) (h4 : op ≠ 4) (h5 : op ≠ 5) :
    Calls Tryd.prog 5 #[.int .i64 op, .int .i64 a, .int .i64 b] w fun e w' => e = .returned (.tuple #[.int .i64 (calcF op a b).1, .int .i64 (calcF op a b).2]) ∧ Below w.heap.size w w' := by
  have hx : (a.natAbs : Int) ≤ 9223372036854775808 := by have := ha.lo; have := ha.hi; omega
  have hy : (b.natAbs : Int) ≤ 9223372036854775808 := by have := hb.lo; have := hb.hi; omega
  have e1 : (op == 1) = false := beq_eq_false_iff_ne.2 h1
  have e2 : (op == 2) = false := beq_eq_false_iff_ne.2 h2
  have e3 : (op == 3) = false := beq_eq_false_iff_ne.2 h3
  have e4 : (op == 4) = false := beq_eq_false_iff_ne.2 h4
  have e5 : (op == 5) = false := beq_eq_false_iff_ne.2 h5
  have Hf := hide (show calcF op a b = (0, 4) by rw [calcF, if_neg h1, if_neg h2, if_neg h3, if_neg h4, if_neg h5])
  clear h1 h2 h3 h4 h5
  go_enter Tryd.func5, Tryd.ntmps5
  go_wp2_with fail
  refine (l1bigOf_any a w ha).mono ?_
  rintro e w1 ⟨rfl, hb1⟩
  have B1 := hb1.alloc hb1.size (.cells #[.bool (decide (a < 0)), .int .u64 0, .int .u64 (a.natAbs : Int)] 31)
  have R1 := Row.new w1 #[.bool (decide (a < 0)), .int .u64 0, .int .u64 (a.natAbs : Int)] 31
  go_wp2_with fail
  refine (l1bigOf_any b _ hb).mono ?_
  rintro e w2 ⟨rfl, hb2⟩
  have B2 := (B1.trans (hb2.mono B1.size)).alloc (Nat.le_trans B1.size hb2.size) (.cells #[.bool (decide (b < 0)), .int .u64 0, .int .u64 (b.natAbs : Int)] 31)
  have R1' := (R1.after hb2 (Nat.le_refl _)).alloc (.cells #[.bool (decide (b < 0)), .int .u64 0, .int .u64 (b.natAbs : Int)] 31)
  have R2 := Row.new w2 #[.bool (decide (b < 0)), .int .u64 0, .int .u64 (b.natAbs : Int)] 31
  have z2 := hb2.size
  simp only [World.size_alloc] at z2
  have hlt : w1.heap.size < w2.heap.size := by omega
  clear R1 B1 hb1 hb2 z2
  have c0 := R1'.cell 0
  have c1 := R1'.cell 1
  have c2 := R1'.cell 2
  simp at c0 c1 c2
  go_wp2
  go_ret2
  exact ⟨ret_pairs' (unhide Hf), B2⟩

set_option maxHeartbeats 1600000 in
theorem sCalc_40 (ha : I64 a) (hb : I64 b) (h0 : b = 0) :
    Calls Tryd.prog 5 #[.int .i64 4, .int .i64 a, .int .i64 b] w fun e w' => e = .returned (.tuple #[.int .i64 (calcF 4 a b).1, .int .i64 (calcF 4 a b).2]) ∧ Below w.heap.size w w' := by
  have hx : (a.natAbs : Int) ≤ 9223372036854775808 := by have := ha.lo; have := ha.hi; omega
  have hy : (b.natAbs : Int) ≤ 9223372036854775808 := by have := hb.lo; have := hb.hi; omega
  have Hf := hide (show calcF 4 a b = (0, 2) by subst h0; rfl)
  have e0 : (b == 0) = true := beq_iff_eq.2 h0
  clear h0
  go_enter Tryd.func5, Tryd.ntmps5
  go_wp2_with fail
  refine (l1bigOf_any a w ha).mono ?_
  rintro e w1 ⟨rfl, hb1⟩
  have B1 := hb1.alloc hb1.size (.cells #[.bool (decide (a < 0)), .int .u64 0, .int .u64 (a.natAbs : Int)] 31)
  have R1 := Row.new w1 #[.bool (decide (a < 0)), .int .u64 0, .int .u64 (a.natAbs : Int)] 31
  go_wp2_with fail
  refine (l1bigOf_any b _ hb).mono ?_
  rintro e w2 ⟨rfl, hb2⟩
  have B2 := (B1.trans (hb2.mono B1.size)).alloc (Nat.le_trans B1.size hb2.size) (.cells #[.bool (decide (b < 0)), .int .u64 0, .int .u64 (b.natAbs : Int)] 31)
  have R1' := (R1.after hb2 (Nat.le_refl _)).alloc (.cells #[.bool (decide (b < 0)), .int .u64 0, .int .u64 (b.natAbs : Int)] 31)
  have R2 := Row.new w2 #[.bool (decide (b < 0)), .int .u64 0, .int .u64 (b.natAbs : Int)] 31
  have z2 := hb2.size
  simp only [World.size_alloc] at z2
  have hlt : w1.heap.size < w2.heap.size := by omega
  clear R1 B1 hb1 hb2 z2
  have c0 := R1'.cell 0
  have c1 := R1'.cell 1
  have c2 := R1'.cell 2
  simp at c0 c1 c2
  go_wp2
  go_ret2
  exact ⟨ret_pairs' (unhide Hf), B2⟩

set_option maxHeartbeats 1600000 in
theorem sCalc_50 (ha : I64 a) (hb : I64 b) (h0 : b = 0) :
    Calls Tryd.prog 5 #[.int .i64 5, .int .i64 a, .int .i64 b] w fun e w' => e = .returned (.tuple #[.int .i64 (calcF 5 a b).1, .int .i64 (calcF 5 a b).2]) ∧ Below w.heap.size w w' := by
  have hx : (a.natAbs : Int) ≤ 9223372036854775808 := by have := ha.lo; have := ha.hi; omega
  have hy : (b.natAbs : Int) ≤ 9223372036854775808 := by have := hb.lo; have := hb.hi; omega
  have Hf := hide (show calcF 5 a b = (0, 2) by subst h0; rfl)
  have e0 : (b == 0) = true := beq_iff_eq.2 h0
  clear h0
  go_enter Tryd.func5, Tryd.ntmps5
  go_wp2_with fail
  refine (l1bigOf_any a w ha).mono ?_
  rintro e w1 ⟨rfl, hb1⟩
  have B1 := hb1.alloc hb1.size (.cells #[.bool (decide (a < 0)), .int .u64 0, .int .u64 (a.natAbs : Int)] 31)
  have R1 := Row.new w1 #[.bool (decide (a < 0)), .int .u64 0, .int .u64 (a.natAbs : Int)] 31
  go_wp2_with fail
  refine (l1bigOf_any b _ hb).mono ?_
  rintro e w2 ⟨rfl, hb2⟩
  have B2 := (B1.trans (hb2.mono B1.size)).alloc (Nat.le_trans B1.size hb2.size) (.cells #[.bool (decide (b < 0)), .int .u64 0, .int .u64 (b.natAbs : Int)] 31)
  have R1' := (R1.after hb2 (Nat.le_refl _)).alloc (.cells #[.bool (decide (b < 0)), .int .u64 0, .int .u64 (b.natAbs : Int)] 31)
  have R2 := Row.new w2 #[.bool (decide (b < 0)), .int .u64 0, .int .u64 (b.natAbs : Int)] 31
  have z2 := hb2.size
  simp only [World.size_alloc] at z2
  have hlt : w1.heap.size < w2.heap.size := by omega
  clear R1 B1 hb1 hb2 z2
  have c0 := R1'.cell 0
  have c1 := R1'.cell 1
  have c2 := R1'.cell 2
  simp at c0 c1 c2
  go_wp2
  go_ret2
  exact ⟨ret_pairs' (unhide Hf), B2⟩

end Go.Proofs.YtemekdkeggibaaaDoor

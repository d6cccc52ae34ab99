/-
  Checked arithmetic: the specification's Calc, division. Own work.
-/
import Derived.Test.YtogenboibgddaaaGreatDoorMXAF
namespace Go.Proofs.YtogenboibgddaaaGreatDoor
open Go.RowKit
variable {a b : Int} {w : World}

set_option maxHeartbeats 1600000 in
theorem sCalc_4 (ha : I64 a) (hb : I64 b) (h0 : b ≠ 0) :
    Calls Tryz.prog 67 #[.int .i64 4, .int .i64 a, .int .i64 b] w fun e w' => e = .returned (.tuple #[.int .i64 (calcF 4 a b).1, .int .i64 (calcF 4 a b).2]) ∧ Below w.heap.size w w' := by
  have hx : (a.natAbs : Int) ≤ 9223372036854775808 := by have := ha.lo; have := ha.hi; omega
  have hy : (b.natAbs : Int) ≤ 9223372036854775808 := by have := hb.lo; have := hb.hi; omega
  have e0 : (b == 0) = false := beq_eq_false_iff_ne.2 h0
  have hb0 : (0 : Int) < (b.natAbs : Int) := by omega
  have Hd := hide (div_sign a b)
  have h3 : 0 ≤ (a.natAbs : Int) / (b.natAbs : Int) := Int.ediv_nonneg (by omega) (by omega)
  have h4 : (a.natAbs : Int) / (b.natAbs : Int) < 18446744073709551616 := by have := Int.ediv_le_self (b.natAbs : Int) (show 0 ≤ (a.natAbs : Int) by omega); omega
  have Hw := hide (wrapU_id h3 h4)
  go_enter Tryz.func67, Tryz.ntmps67
  go_wp2_with fail
  refine (l1bigOf_any a w ha).mono ?_
  rintro e w1 ⟨rfl, hb1⟩
  have B1 := hb1.alloc hb1.size (.cells #[.bool (decide (a < 0)), .int .u64 0, .int .u64 (a.natAbs : Int)] 150)
  have R1 := Row.new w1 #[.bool (decide (a < 0)), .int .u64 0, .int .u64 (a.natAbs : Int)] 150
  go_wp2_with fail
  refine (l1bigOf_any b _ hb).mono ?_
  rintro e w2 ⟨rfl, hb2⟩
  have B2 := (B1.trans (hb2.mono B1.size)).alloc (Nat.le_trans B1.size hb2.size) (.cells #[.bool (decide (b < 0)), .int .u64 0, .int .u64 (b.natAbs : Int)] 150)
  have R1' := (R1.after hb2 (Nat.le_refl _)).alloc (.cells #[.bool (decide (b < 0)), .int .u64 0, .int .u64 (b.natAbs : Int)] 150)
  have R2 := Row.new w2 #[.bool (decide (b < 0)), .int .u64 0, .int .u64 (b.natAbs : Int)] 150
  have z2 := hb2.size
  simp only [World.size_alloc] at z2
  have hlt : w1.heap.size < w2.heap.size := by omega
  clear R1 B1 hb1 hb2 z2
  have c0 := R1'.cell 0
  have c1 := R1'.cell 1
  have c2 := R1'.cell 2
  simp at c0 c1 c2
  generalize hW : w2.alloc (.cells #[.bool (decide (b < 0)), .int .u64 0, .int .u64 (b.natAbs : Int)] 150) = W at *
  have d0 := R2.cell 0
  have d1 := R2.cell 1
  have d2 := R2.cell 2
  simp at d0 d1 d2
  go_wp2_with fail
  have hz : ¬ (b.natAbs : Int) = 0 := by omega
  go_region_held3 (fun w' => w'.cell? ⟨w1.heap.size, 0, none⟩ = some (.bool (decide (a < 0))) ∧ w'.cell? ⟨w1.heap.size, 2, none⟩ = some (.int .u64 (a.natAbs : Int)) ∧ w'.cell? ⟨w2.heap.size, 0, none⟩ = some (.bool (decide (b < 0))) ∧ w'.cell? ⟨w2.heap.size, 2, none⟩ = some (.int .u64 (b.natAbs : Int))) (go_keep)
    ((go_at_call 98; rw [unhide Hw]; refine (l1small_any _ _ _ _ ?_ ?_ ?_ ?_).mono ?_; omega; omega; exact h3; exact h4; rintro e w4 ⟨rfl, hb4⟩; have q0 := (Row.after (w := W.drew) ⟨R1'.out⟩ hb4 (Nat.le_refl _)).cell 0; have q2 := (Row.after (w := W.drew) ⟨R1'.out⟩ hb4 (Nat.le_refl _)).cell 2; have p0 := (Row.after (w := W.drew) ⟨R2.out⟩ hb4 (Nat.le_refl _)).cell 0; have p2 := (Row.after (w := W.drew) ⟨R2.out⟩ hb4 (Nat.le_refl _)).cell 2; simp at q0 q2 p0 p2))
  all_goals
    rw [unhide Hd]
    generalize hf : fit (a.tdiv b) = f
    have Hf := hide (show calcF 4 a b = f by rw [← hf, calcF]; simp [divF, h0])
    clear hf d0 d1 d2 c0 c1 c2
    go_wp2
    go_ret2
    exact ⟨ret_pairs (unhide Hf).symm, B2.drew.trans (hb4.mono B2.size)⟩

set_option maxHeartbeats 1600000 in
theorem sCalc_5 (ha : I64 a) (hb : I64 b) (h0 : b ≠ 0) :
    Calls Tryz.prog 67 #[.int .i64 5, .int .i64 a, .int .i64 b] w fun e w' => e = .returned (.tuple #[.int .i64 (calcF 5 a b).1, .int .i64 (calcF 5 a b).2]) ∧ Below w.heap.size w w' := by
  have hx : (a.natAbs : Int) ≤ 9223372036854775808 := by have := ha.lo; have := ha.hi; omega
  have hy : (b.natAbs : Int) ≤ 9223372036854775808 := by have := hb.lo; have := hb.hi; omega
  have e0 : (b == 0) = false := beq_eq_false_iff_ne.2 h0
  have hb0 : (0 : Int) < (b.natAbs : Int) := by omega
  have Hd := hide (mod_sign a b)
  have h3 : 0 ≤ (a.natAbs : Int) % (b.natAbs : Int) := Int.emod_nonneg _ (by omega)
  have h4 : (a.natAbs : Int) % (b.natAbs : Int) < 18446744073709551616 := by have := Int.emod_lt_of_pos (a.natAbs : Int) hb0; omega
  have Hw := hide (Int.tmod_eq_emod_of_nonneg (b := (b.natAbs : Int)) (show 0 ≤ (a.natAbs : Int) by omega))
  go_enter Tryz.func67, Tryz.ntmps67
  go_wp2_with fail
  refine (l1bigOf_any a w ha).mono ?_
  rintro e w1 ⟨rfl, hb1⟩
  have B1 := hb1.alloc hb1.size (.cells #[.bool (decide (a < 0)), .int .u64 0, .int .u64 (a.natAbs : Int)] 150)
  have R1 := Row.new w1 #[.bool (decide (a < 0)), .int .u64 0, .int .u64 (a.natAbs : Int)] 150
  go_wp2_with fail
  refine (l1bigOf_any b _ hb).mono ?_
  rintro e w2 ⟨rfl, hb2⟩
  have B2 := (B1.trans (hb2.mono B1.size)).alloc (Nat.le_trans B1.size hb2.size) (.cells #[.bool (decide (b < 0)), .int .u64 0, .int .u64 (b.natAbs : Int)] 150)
  have R1' := (R1.after hb2 (Nat.le_refl _)).alloc (.cells #[.bool (decide (b < 0)), .int .u64 0, .int .u64 (b.natAbs : Int)] 150)
  have R2 := Row.new w2 #[.bool (decide (b < 0)), .int .u64 0, .int .u64 (b.natAbs : Int)] 150
  have z2 := hb2.size
  simp only [World.size_alloc] at z2
  have hlt : w1.heap.size < w2.heap.size := by omega
  clear R1 B1 hb1 hb2 z2
  have c0 := R1'.cell 0
  have c1 := R1'.cell 1
  have c2 := R1'.cell 2
  simp at c0 c1 c2
  generalize hW : w2.alloc (.cells #[.bool (decide (b < 0)), .int .u64 0, .int .u64 (b.natAbs : Int)] 150) = W at *
  have d0 := R2.cell 0
  have d1 := R2.cell 1
  have d2 := R2.cell 2
  simp at d0 d1 d2
  go_wp2_with fail
  have hz : ¬ (b.natAbs : Int) = 0 := by omega
  go_region_held3 (fun w' => w'.cell? ⟨w1.heap.size, 0, none⟩ = some (.bool (decide (a < 0))) ∧ w'.cell? ⟨w1.heap.size, 2, none⟩ = some (.int .u64 (a.natAbs : Int)) ∧ w'.cell? ⟨w2.heap.size, 0, none⟩ = some (.bool (decide (b < 0))) ∧ w'.cell? ⟨w2.heap.size, 2, none⟩ = some (.int .u64 (b.natAbs : Int))) (go_keep)
    ((go_at_call 98; rw [unhide Hw]; refine (l1small_any _ _ _ _ ?_ ?_ ?_ ?_).mono ?_; omega; omega; exact h3; exact h4; rintro e w4 ⟨rfl, hb4⟩; have q0 := (Row.after (w := W.drew) ⟨R1'.out⟩ hb4 (Nat.le_refl _)).cell 0; have q2 := (Row.after (w := W.drew) ⟨R1'.out⟩ hb4 (Nat.le_refl _)).cell 2; have p0 := (Row.after (w := W.drew) ⟨R2.out⟩ hb4 (Nat.le_refl _)).cell 0; have p2 := (Row.after (w := W.drew) ⟨R2.out⟩ hb4 (Nat.le_refl _)).cell 2; simp at q0 q2 p0 p2))
  all_goals
    rw [unhide Hd]
    generalize hf : fit (a.tmod b) = f
    have Hf := hide (show calcF 5 a b = f by rw [← hf, calcF]; simp [modF, h0])
    clear hf d0 d1 d2 c0 c1 c2
    go_wp2
    go_ret2
    exact ⟨ret_pairs (unhide Hf).symm, B2.drew.trans (hb4.mono B2.size)⟩

theorem sCalc_any (op : Int) (ha : I64 a) (hb : I64 b) :
    Calls Tryz.prog 67 #[.int .i64 op, .int .i64 a, .int .i64 b] w fun e w' => e = .returned (.tuple #[.int .i64 (calcF op a b).1, .int .i64 (calcF op a b).2]) ∧ Below w.heap.size w w' := by
  by_cases h1 : op = 1
  · subst h1; exact sCalc_1 ha hb
  by_cases h2 : op = 2
  · subst h2; exact sCalc_2 ha hb
  by_cases h3 : op = 3
  · subst h3; exact sCalc_3 ha hb
  by_cases h4 : op = 4
  · subst h4
    by_cases h0 : b = 0
    · exact sCalc_40 ha hb h0
    · exact sCalc_4 ha hb h0
  by_cases h5 : op = 5
  · subst h5
    by_cases h0 : b = 0
    · exact sCalc_50 ha hb h0
    · exact sCalc_5 ha hb h0
  exact sCalc_0 ha hb op h1 h2 h3 h4 h5

end Go.Proofs.YtogenboibgddaaaGreatDoor

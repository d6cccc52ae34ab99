/-
  DrawFormatAsk, exactly. Own work.
-/
import Derived.Test.YtnahfogbemfngaaGreatDoorEZ
namespace Go.Proofs.YtnahfogbemfngaaGreatDoor
open Go.RowKit
set_option linter.unusedVariables false

/-- what DrawFormatAsk is -/
def DrawX (zs : List Int) (cl us : ByteArray) (lv : Int) (K : List ByteArray) : Prop :=
  ∃ cl0 us0 lv0 K0 q, AskX zs (nx zs 0).2 cl0 us0 lv0 K0 q ∧ cl = (if (nx zs 0).1 % 25 = 2 then ⟨#[]⟩ else cl0) ∧ us = (if (nx zs 0).1 % 25 = 3 then us0 ++ ⟨#[32]⟩ else us0) ∧
    lv = (if (nx zs 0).1 % 25 = 0 then 10000000 else if (nx zs 0).1 % 25 = 1 then -1 else lv0) ∧ K = (if (nx zs 0).1 % 25 = 4 then (spoilF zs q K0).1 else K0)

theorem DrawX.unique {zs : List Int} {cl us cl' us' : ByteArray} {lv lv' : Int} {K K' : List ByteArray} (h : DrawX zs cl us lv K) (h' : DrawX zs cl' us' lv' K') : cl = cl' ∧ us = us' ∧ lv = lv' ∧ K = K' := by
  obtain ⟨cl0, us0, lv0, K0, q, h0, rfl, rfl, rfl, rfl⟩ := h
  obtain ⟨cl1, us1, lv1, K1, q1, h1, rfl, rfl, rfl, rfl⟩ := h'
  obtain ⟨rfl, rfl, rfl, rfl, rfl⟩ := h0.unique h1
  exact ⟨rfl, rfl, rfl, rfl⟩

/-- what DrawFormatAsk answers -/
def DfAns (zs : List Int) (w : World) (e : Ending) (w' : World) : Prop :=
  ∃ cl us lv x cx K, e = .returned (.agg #[.string cl, .string us, .int .i64 lv, .slice x K.length cx]) ∧ Hid (DrawX zs cl us lv K) ∧ cl.size ≤ 1001 ∧ us.size ≤ 1001 ∧ -1 ≤ lv ∧ lv ≤ 10000000 ∧ K.length ≤ 128 ∧ Names w' w.heap.size x K cx ∧ Below w.heap.size w w'

set_option maxRecDepth 100000 in
set_option maxHeartbeats 12800000 in
theorem DrawFormatAsk_x (a : Option Addr) (n c : Nat) (zs : List Int) (w : World) (h : BytesX w a n c zs) (hn : n ≤ 1048576) :
    Calls Tryz.prog 4 #[.slice a n c] w fun e w' => DfAns zs w e w' := by
  have R0 := Row.new w #[.string ⟨#[]⟩, .string ⟨#[]⟩, .int .i64 0, .slice none 0 0] 25
  have B0 := (Below.refl w.heap.size w).alloc (Nat.le_refl _) (.cells #[.string ⟨#[]⟩, .string ⟨#[]⟩, .int .i64 0, .slice none 0 0] 25)
  have z0 : (w.alloc (.cells #[.string ⟨#[]⟩, .string ⟨#[]⟩, .int .i64 0, .slice none 0 0] 25)).heap.size = w.heap.size + 1 := by simp
  have hx0 := h.below B0 (Nat.le_refl _)
  have h1 := RdX.new hx0 hn
  have B1 := B0.alloc (by simp) (.cells #[.slice a n c, .int .i64 0] 35)
  have R1 := R0.alloc (.cells #[.slice a n c, .int .i64 0] 35)
  have z1 : ((w.alloc (.cells #[.string ⟨#[]⟩, .string ⟨#[]⟩, .int .i64 0, .slice none 0 0] 25)).alloc (.cells #[.slice a n c, .int .i64 0] 35)).heap.size = w.heap.size + 2 := by simp
  rw [z0] at h1
  clear R0 B0 hx0
  go_enter Tryz.func4, Tryz.ntmps4
  go_wp2_with fail
  generalize (w.alloc (.cells #[.string ⟨#[]⟩, .string ⟨#[]⟩, .int .i64 0, .slice none 0 0] 25)).alloc (.cells #[.slice a n c, .int .i64 0] 35) = w1 at h1 B1 R1 z1 ⊢
  refine (next_x _ a n c zs 0 w1 h1).mono ?_
  rintro e w2 ⟨y, p2, rfl, X2, y0, y1, h2, t2⟩
  have R2 := R1.keep t2 (by omega)
  have B2 := below_touch B1 t2 (by omega) B1.size
  have u2 := t2.size
  clear h1 R1 t2 B1
  go_wp2_with fail
  refine (l1ask_x _ a n c zs p2 w2 h2).mono ?_
  rintro e w3 ⟨cl, us, lv, x, cx, K, q3, rfl, X3, k1, k2, lv0, lv1, lK, N3, h3, t3⟩
  have R3 := R2.keep t3 (by omega)
  have B3 := below_touch B2 t3 (by omega) B2.size
  have u3 := t3.size
  have top3 : ∀ y, x = some y → y.block < w3.heap.size := fun y hy => by subst hy; exact (N3.own.lt _ rfl).2
  clear h2 R2 t3 B2
  have lt3 : w.heap.size < w3.heap.size := by omega
  have N3 := N3.mono (base' := w.heap.size + 2) (by omega)
  have re := R3.cell 0
  have rf := R3.cell 1
  have rg := R3.cell 2
  have rh := R3.cell 3
  have fr := fun j => R3.frozen j
  simp at re rf rg rh
  have k3 : (⟨#[32]⟩ : ByteArray).size = 1 := rfl
  have HX := hide (show AskX zs (nx zs 0).2 cl us lv K q3 by rw [unhide X2]; exact unhide X3)
  have HC := hide (show (nx zs 0).1 = y by rw [unhide X2])
  by_cases e0 : y % 25 = 0
  · have q0 : (y % 25 == 0) = true := beq_iff_eq.2 e0
    have E25 := hide e0
    clear e0
    go_wp2_with fail
    have R7 := (put4_row R3 (.string cl) (.string us) (.int .i64 10000000) (.slice x K.length cx)).alloc (.cells #[.string cl, .string us, .int .i64 10000000, .slice x K.length cx] 25)
    have g0 := R7.cell 0
    have g1 := R7.cell 1
    have g2 := R7.cell 2
    have g3 := R7.cell 3
    simp only [put4] at g0 g1 g2 g3
    simp at g0 g1 g2 g3
    have BF : Below w.heap.size w ((put4 w3 w.heap.size (.string cl) (.string us) (.int .i64 10000000) (.slice x K.length cx)).alloc (.cells #[.string cl, .string us, .int .i64 10000000, .slice x K.length cx] 25)) := (put4_below B3 (Nat.le_refl _) _ _ _ _).alloc (by rw [put4_size]; exact B3.size) _
    have NF : Names ((put4 w3 w.heap.size (.string cl) (.string us) (.int .i64 10000000) (.slice x K.length cx)).alloc (.cells #[.string cl, .string us, .int .i64 10000000, .slice x K.length cx] 25)) (w.heap.size + 2) x K cx := N3.far3 (fun k h1 h2 => (Below.heap_alloc _ _ _ (by rw [put4_size]; exact h2)).trans (put4_block _ _ _ _ _ _ _ (by omega))) top3
    refine bodyPost_ret (v := .agg #[.string cl, .string us, .int .i64 10000000, .slice x K.length cx]) (by simp [results, Tryz.results4, go_sem, g0, g1, g2, g3]) rfl ?_
    exact ⟨cl, us, 10000000, x, cx, K, rfl, hide ⟨cl, us, lv, K, q3, unhide HX, by rw [unhide HC]; exact (if_neg (by have := unhide E25; omega)).symm, by rw [unhide HC]; exact (if_neg (by have := unhide E25; omega)).symm, by rw [unhide HC]; exact (if_pos (unhide E25)).symm, by rw [unhide HC]; exact (if_neg (by have := unhide E25; omega)).symm⟩, by omega, by omega, by omega, by omega, by omega, NF.mono (Nat.le_add_right _ _), BF⟩
  by_cases e1 : y % 25 = 1
  · have q0 : (y % 25 == 0) = false := beq_eq_false_iff_ne.2 e0
    have q1 : (y % 25 == 1) = true := beq_iff_eq.2 e1
    have E25 := hide e1
    clear e0 e1
    go_wp2_with fail
    have R7 := (put4_row R3 (.string cl) (.string us) (.int .i64 (-1)) (.slice x K.length cx)).alloc (.cells #[.string cl, .string us, .int .i64 (-1), .slice x K.length cx] 25)
    have g0 := R7.cell 0
    have g1 := R7.cell 1
    have g2 := R7.cell 2
    have g3 := R7.cell 3
    simp only [put4] at g0 g1 g2 g3
    simp at g0 g1 g2 g3
    have BF : Below w.heap.size w ((put4 w3 w.heap.size (.string cl) (.string us) (.int .i64 (-1)) (.slice x K.length cx)).alloc (.cells #[.string cl, .string us, .int .i64 (-1), .slice x K.length cx] 25)) := (put4_below B3 (Nat.le_refl _) _ _ _ _).alloc (by rw [put4_size]; exact B3.size) _
    have NF : Names ((put4 w3 w.heap.size (.string cl) (.string us) (.int .i64 (-1)) (.slice x K.length cx)).alloc (.cells #[.string cl, .string us, .int .i64 (-1), .slice x K.length cx] 25)) (w.heap.size + 2) x K cx := N3.far3 (fun k h1 h2 => (Below.heap_alloc _ _ _ (by rw [put4_size]; exact h2)).trans (put4_block _ _ _ _ _ _ _ (by omega))) top3
    refine bodyPost_ret (v := .agg #[.string cl, .string us, .int .i64 (-1), .slice x K.length cx]) (by simp [results, Tryz.results4, go_sem, g0, g1, g2, g3]) rfl ?_
    exact ⟨cl, us, (-1), x, cx, K, rfl, hide ⟨cl, us, lv, K, q3, unhide HX, by rw [unhide HC]; exact (if_neg (by have := unhide E25; omega)).symm, by rw [unhide HC]; exact (if_neg (by have := unhide E25; omega)).symm, by rw [unhide HC]; rw [if_neg (by have := unhide E25; omega), if_pos (unhide E25)], by rw [unhide HC]; exact (if_neg (by have := unhide E25; omega)).symm⟩, by omega, by omega, by omega, by omega, by omega, NF.mono (Nat.le_add_right _ _), BF⟩
  by_cases e2 : y % 25 = 2
  · have q0 : (y % 25 == 0) = false := beq_eq_false_iff_ne.2 e0
    have q1 : (y % 25 == 1) = false := beq_eq_false_iff_ne.2 e1
    have q2 : (y % 25 == 2) = true := beq_iff_eq.2 e2
    have E25 := hide e2
    clear e0 e1 e2
    go_wp2_with fail
    have R7 := (put4_row R3 (.string ⟨#[]⟩) (.string us) (.int .i64 lv) (.slice x K.length cx)).alloc (.cells #[.string ⟨#[]⟩, .string us, .int .i64 lv, .slice x K.length cx] 25)
    have g0 := R7.cell 0
    have g1 := R7.cell 1
    have g2 := R7.cell 2
    have g3 := R7.cell 3
    simp only [put4] at g0 g1 g2 g3
    simp at g0 g1 g2 g3
    have BF : Below w.heap.size w ((put4 w3 w.heap.size (.string ⟨#[]⟩) (.string us) (.int .i64 lv) (.slice x K.length cx)).alloc (.cells #[.string ⟨#[]⟩, .string us, .int .i64 lv, .slice x K.length cx] 25)) := (put4_below B3 (Nat.le_refl _) _ _ _ _).alloc (by rw [put4_size]; exact B3.size) _
    have NF : Names ((put4 w3 w.heap.size (.string ⟨#[]⟩) (.string us) (.int .i64 lv) (.slice x K.length cx)).alloc (.cells #[.string ⟨#[]⟩, .string us, .int .i64 lv, .slice x K.length cx] 25)) (w.heap.size + 2) x K cx := N3.far3 (fun k h1 h2 => (Below.heap_alloc _ _ _ (by rw [put4_size]; exact h2)).trans (put4_block _ _ _ _ _ _ _ (by omega))) top3
    refine bodyPost_ret (v := .agg #[.string ⟨#[]⟩, .string us, .int .i64 lv, .slice x K.length cx]) (by simp [results, Tryz.results4, go_sem, g0, g1, g2, g3]) rfl ?_
    exact ⟨⟨#[]⟩, us, lv, x, cx, K, rfl, hide ⟨cl, us, lv, K, q3, unhide HX, by rw [unhide HC]; exact (if_pos (unhide E25)).symm, by rw [unhide HC]; exact (if_neg (by have := unhide E25; omega)).symm, by rw [unhide HC]; rw [if_neg (by have := unhide E25; omega), if_neg (by have := unhide E25; omega)], by rw [unhide HC]; exact (if_neg (by have := unhide E25; omega)).symm⟩, Nat.zero_le _, by omega, by omega, by omega, by omega, NF.mono (Nat.le_add_right _ _), BF⟩
  by_cases e3 : y % 25 = 3
  · have q0 : (y % 25 == 0) = false := beq_eq_false_iff_ne.2 e0
    have q1 : (y % 25 == 1) = false := beq_eq_false_iff_ne.2 e1
    have q2 : (y % 25 == 2) = false := beq_eq_false_iff_ne.2 e2
    have q3' : (y % 25 == 3) = true := beq_iff_eq.2 e3
    have E25 := hide e3
    clear e0 e1 e2 e3
    go_wp2_with fail
    have R7 := (put4_row R3 (.string cl) (.string (us ++ ⟨#[32]⟩)) (.int .i64 lv) (.slice x K.length cx)).alloc (.cells #[.string cl, .string (us ++ ⟨#[32]⟩), .int .i64 lv, .slice x K.length cx] 25)
    have g0 := R7.cell 0
    have g1 := R7.cell 1
    have g2 := R7.cell 2
    have g3 := R7.cell 3
    simp only [put4] at g0 g1 g2 g3
    simp at g0 g1 g2 g3
    have BF : Below w.heap.size w ((put4 w3 w.heap.size (.string cl) (.string (us ++ ⟨#[32]⟩)) (.int .i64 lv) (.slice x K.length cx)).alloc (.cells #[.string cl, .string (us ++ ⟨#[32]⟩), .int .i64 lv, .slice x K.length cx] 25)) := (put4_below B3 (Nat.le_refl _) _ _ _ _).alloc (by rw [put4_size]; exact B3.size) _
    have NF : Names ((put4 w3 w.heap.size (.string cl) (.string (us ++ ⟨#[32]⟩)) (.int .i64 lv) (.slice x K.length cx)).alloc (.cells #[.string cl, .string (us ++ ⟨#[32]⟩), .int .i64 lv, .slice x K.length cx] 25)) (w.heap.size + 2) x K cx := N3.far3 (fun k h1 h2 => (Below.heap_alloc _ _ _ (by rw [put4_size]; exact h2)).trans (put4_block _ _ _ _ _ _ _ (by omega))) top3
    refine bodyPost_ret (v := .agg #[.string cl, .string (us ++ ⟨#[32]⟩), .int .i64 lv, .slice x K.length cx]) (by simp [results, Tryz.results4, go_sem, g0, g1, g2, g3]) rfl ?_
    exact ⟨cl, (us ++ ⟨#[32]⟩), lv, x, cx, K, rfl, hide ⟨cl, us, lv, K, q3, unhide HX, by rw [unhide HC]; exact (if_neg (by have := unhide E25; omega)).symm, by rw [unhide HC]; exact (if_pos (unhide E25)).symm, by rw [unhide HC]; rw [if_neg (by have := unhide E25; omega), if_neg (by have := unhide E25; omega)], by rw [unhide HC]; exact (if_neg (by have := unhide E25; omega)).symm⟩, by omega, by rw [size_app]; omega, by omega, by omega, by omega, NF.mono (Nat.le_add_right _ _), BF⟩
  by_cases e4 : y % 25 = 4
  · have q0 : (y % 25 == 0) = false := beq_eq_false_iff_ne.2 e0
    have q1 : (y % 25 == 1) = false := beq_eq_false_iff_ne.2 e1
    have q2 : (y % 25 == 2) = false := beq_eq_false_iff_ne.2 e2
    have q3' : (y % 25 == 3) = false := beq_eq_false_iff_ne.2 e3
    have q4 : (y % 25 == 4) = true := beq_iff_eq.2 e4
    have E25 := hide e4
    clear e0 e1 e2 e3 e4
    have B34 := (Below.refl w3.heap.size w3).alloc (Nat.le_refl _) (.cells #[.string cl, .string us, .int .i64 lv, .slice x K.length cx] 25)
    have RA := Row.new w3 #[.string cl, .string us, .int .i64 lv, .slice x K.length cx] 25
    have z4 : (w3.alloc (.cells #[.string cl, .string us, .int .i64 lv, .slice x K.length cx] 25)).heap.size = w3.heap.size + 1 := by simp
    have R4 := R3.alloc (.cells #[.string cl, .string us, .int .i64 lv, .slice x K.length cx] 25)
    have N4 := N3.below B34 (Nat.le_refl _)
    have h4 := h3.after B34 h3.lt
    have B4 := B3.trans (B34.mono B3.size)
    clear B34 re rf rg rh fr
    go_wp2_with fail
    generalize w3.alloc (.cells #[.string cl, .string us, .int .i64 lv, .slice x K.length cx] 25) = w4 at RA R4 z4 N4 h4 B4 ⊢
    refine (l1spoil_x _ a n c zs q3 _ x K cx w4 h4 N4 lK).mono ?_
    rintro e w5 ⟨x5, c5, K5, q5, rfl, X5, l5, N5, h5, t5⟩
    have R5 := R4.keep t5 (by omega)
    have RA5 := RA.keep t5 (by omega)
    have B5 := below_touch B4 t5 (by omega) B4.size
    have u5 := t5.size
    have N5 := N5.mono (base' := w3.heap.size + 1) (by omega)
    have top5 : ∀ y, x5 = some y → y.block < w5.heap.size := fun y hy => by subst hy; exact (N5.own.lt _ rfl).2
    clear h4 R4 RA N4 B4 t5 R3 B3 h3
    have qa := RA5.cell 0
    have qb := RA5.cell 1
    have qc := RA5.cell 2
    have qd := RA5.cell 3
    have fa := fun j => RA5.frozen j
    simp at qa qb qc qd
    have re := R5.cell 0
    have rf := R5.cell 1
    have rg := R5.cell 2
    have rh := R5.cell 3
    have fr := fun j => R5.frozen j
    simp at re rf rg rh
    have ne3 : w.heap.size ≠ w3.heap.size := by omega
    go_wp2_with fail
    have R6 : Row (w5.setCell ⟨w3.heap.size, 3, none⟩ (.slice x5 K5.length c5)) w.heap.size #[.string ⟨#[]⟩, .string ⟨#[]⟩, .int .i64 0, .slice none 0 0] 25 := R5.setFar (p := ⟨w3.heap.size, 3, none⟩) ne3 _
    have R7 := put4_row R6 (.string cl) (.string us) (.int .i64 lv) (.slice x5 K5.length c5)
    have g0 := R7.cell 0
    have g1 := R7.cell 1
    have g2 := R7.cell 2
    have g3 := R7.cell 3
    simp only [put4] at g0 g1 g2 g3
    simp at g0 g1 g2 g3
    have BF : Below w.heap.size w (put4 (w5.setCell ⟨w3.heap.size, 3, none⟩ (.slice x5 K5.length c5)) w.heap.size (.string cl) (.string us) (.int .i64 lv) (.slice x5 K5.length c5)) := put4_below (B5.setCell (p := ⟨w3.heap.size, 3, none⟩) (by show w.heap.size ≤ w3.heap.size; omega) _) (Nat.le_refl _) _ _ _ _
    have NF : Names (put4 (w5.setCell ⟨w3.heap.size, 3, none⟩ (.slice x5 K5.length c5)) w.heap.size (.string cl) (.string us) (.int .i64 lv) (.slice x5 K5.length c5)) (w3.heap.size + 1) x5 K5 c5 := N5.far3 (fun k h1 h2 => by rw [put4_block _ _ _ _ _ _ _ (by omega), heap_setCell_other _ _ _ _ (by show k ≠ w3.heap.size; omega)]) top5
    refine bodyPost_ret (v := .agg #[.string cl, .string us, .int .i64 lv, .slice x5 K5.length c5]) (by simp [results, Tryz.results4, go_sem, g0, g1, g2, g3]) rfl ?_
    exact ⟨cl, us, lv, x5, c5, K5, rfl, hide ⟨cl, us, lv, K, q3, unhide HX, by rw [unhide HC]; exact (if_neg (by have := unhide E25; omega)).symm, by rw [unhide HC]; exact (if_neg (by have := unhide E25; omega)).symm, by rw [unhide HC]; rw [if_neg (by have := unhide E25; omega), if_neg (by have := unhide E25; omega)], by rw [unhide HC, if_pos (unhide E25), show spoilF zs q3 K = (K5, q5) from unhide X5]⟩, by omega, by omega, by omega, by omega, by omega, NF.mono (by omega), BF⟩
  have q0 : (y % 25 == 0) = false := beq_eq_false_iff_ne.2 e0
  have q1 : (y % 25 == 1) = false := beq_eq_false_iff_ne.2 e1
  have q2 : (y % 25 == 2) = false := beq_eq_false_iff_ne.2 e2
  have q3' : (y % 25 == 3) = false := beq_eq_false_iff_ne.2 e3
  have q4 : (y % 25 == 4) = false := beq_eq_false_iff_ne.2 e4
  have E25 := hide (show y % 25 ≠ 0 ∧ y % 25 ≠ 1 ∧ y % 25 ≠ 2 ∧ y % 25 ≠ 3 ∧ y % 25 ≠ 4 from ⟨e0, e1, e2, e3, e4⟩)
  clear e0 e1 e2 e3 e4
  go_wp2_with fail
  have R7 := (put4_row R3 (.string cl) (.string us) (.int .i64 lv) (.slice x K.length cx)).alloc (.cells #[.string cl, .string us, .int .i64 lv, .slice x K.length cx] 25)
  have g0 := R7.cell 0
  have g1 := R7.cell 1
  have g2 := R7.cell 2
  have g3 := R7.cell 3
  simp only [put4] at g0 g1 g2 g3
  simp at g0 g1 g2 g3
  have BF : Below w.heap.size w ((put4 w3 w.heap.size (.string cl) (.string us) (.int .i64 lv) (.slice x K.length cx)).alloc (.cells #[.string cl, .string us, .int .i64 lv, .slice x K.length cx] 25)) := (put4_below B3 (Nat.le_refl _) _ _ _ _).alloc (by rw [put4_size]; exact B3.size) _
  have NF : Names ((put4 w3 w.heap.size (.string cl) (.string us) (.int .i64 lv) (.slice x K.length cx)).alloc (.cells #[.string cl, .string us, .int .i64 lv, .slice x K.length cx] 25)) (w.heap.size + 2) x K cx := N3.far3 (fun k h1 h2 => (Below.heap_alloc _ _ _ (by rw [put4_size]; exact h2)).trans (put4_block _ _ _ _ _ _ _ (by omega))) top3
  refine bodyPost_ret (v := .agg #[.string cl, .string us, .int .i64 lv, .slice x K.length cx]) (by simp [results, Tryz.results4, go_sem, g0, g1, g2, g3]) rfl ?_
  exact ⟨cl, us, lv, x, cx, K, rfl, hide ⟨cl, us, lv, K, q3, unhide HX, by rw [unhide HC]; exact (if_neg (by have := unhide E25; omega)).symm, by rw [unhide HC]; exact (if_neg (by have := unhide E25; omega)).symm, by rw [unhide HC]; rw [if_neg (by have := unhide E25; omega), if_neg (by have := unhide E25; omega)], by rw [unhide HC]; exact (if_neg (by have := unhide E25; omega)).symm⟩, by omega, by omega, by omega, by omega, by omega, NF.mono (Nat.le_add_right _ _), BF⟩

end Go.Proofs.YtnahfogbemfngaaGreatDoor

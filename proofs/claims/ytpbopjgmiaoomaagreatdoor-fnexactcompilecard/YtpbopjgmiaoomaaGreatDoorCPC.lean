/-
  The model's compiler: the instructions of a tree's inner nodes. Own work.
-/
import Derived.Test.YtpbopjgmiaoomaaGreatDoorMXAQ
namespace Go.Proofs.YtpbopjgmiaoomaaGreatDoor
open Go.RowKit
set_option linter.unusedVariables false
set_option linter.unusedSimpArgs false

theorem sizeI_pos (e : Ex) : 1 ≤ sizeI e := by
  cases e <;> simp only [sizeI] <;> first | omega | (split <;> omega)

theorem Rows5.at0 {w : World} {b off : Nat} {k : K5} {r : List K5} (h : Rows5 w (some ⟨b, off, none⟩) (k :: r)) : w.cell? ⟨b, off, none⟩ = some (.int .i64 k.op) ∧ w.cell? ⟨b, off + 1, none⟩ = some (.int .i64 k.num) ∧ w.cell? ⟨b, off + 2, none⟩ = some (.string k.text) ∧ w.cell? ⟨b, off + 3, none⟩ = some (.slice k.an k.nn k.cn) ∧ w.cell? ⟨b, off + 4, none⟩ = some (.slice k.ka k.kn k.kc) := by
  obtain ⟨b', off', e, _, hc⟩ := h 0 (by simp)
  cases e
  have c0 := hc 0 (by decide)
  have c1 := hc 1 (by decide)
  have c2 := hc 2 (by decide)
  have c3 := hc 3 (by decide)
  have c4 := hc 4 (by decide)
  simp only [Nat.zero_mul, Nat.add_zero] at c0 c1 c2 c3 c4
  exact ⟨c0, c1, c2, c3, c4⟩

theorem Rows5.at1 {w : World} {b off : Nat} {k l : K5} {r : List K5} (h : Rows5 w (some ⟨b, off, none⟩) (k :: l :: r)) : w.cell? ⟨b, off + 5, none⟩ = some (.int .i64 l.op) ∧ w.cell? ⟨b, off + 6, none⟩ = some (.int .i64 l.num) ∧ w.cell? ⟨b, off + 7, none⟩ = some (.string l.text) ∧ w.cell? ⟨b, off + 8, none⟩ = some (.slice l.an l.nn l.cn) ∧ w.cell? ⟨b, off + 9, none⟩ = some (.slice l.ka l.kn l.kc) := by
  obtain ⟨b', off', e, _, hc⟩ := h 1 (by simp)
  cases e
  have c0 := hc 0 (by decide)
  have c1 := hc 1 (by decide)
  have c2 := hc 2 (by decide)
  have c3 := hc 3 (by decide)
  have c4 := hc 4 (by decide)
  simp only [Nat.one_mul, Nat.add_zero] at c0 c1 c2 c3 c4
  exact ⟨c0, c1, c2, c3, c4⟩

theorem Rows5.at2 {w : World} {b off : Nat} {k l m : K5} {r : List K5} (h : Rows5 w (some ⟨b, off, none⟩) (k :: l :: m :: r)) : w.cell? ⟨b, off + 10, none⟩ = some (.int .i64 m.op) ∧ w.cell? ⟨b, off + 11, none⟩ = some (.int .i64 m.num) ∧ w.cell? ⟨b, off + 12, none⟩ = some (.string m.text) ∧ w.cell? ⟨b, off + 13, none⟩ = some (.slice m.an m.nn m.cn) ∧ w.cell? ⟨b, off + 14, none⟩ = some (.slice m.ka m.kn m.kc) := by
  obtain ⟨b', off', e, _, hc⟩ := h 2 (by simp)
  cases e
  have c0 := hc 0 (by decide)
  have c1 := hc 1 (by decide)
  have c2 := hc 2 (by decide)
  have c3 := hc 3 (by decide)
  have c4 := hc 4 (by decide)
  simp only [Nat.reduceMul, Nat.add_zero] at c0 c1 c2 c3 c4
  exact ⟨c0, c1, c2, c3, c4⟩

set_option maxRecDepth 100000 in
set_option maxHeartbeats 3200000 in
theorem tree_bin (w0 : World) (op num : Int) (text : ByteArray) (an : Option Addr) (nn cn : Nat) (ka : Option Addr) (kc : Nat) (k0 k1 : K5) (i : Int) (e0 e1 : Ex) (hop : 11 ≤ op ∧ op ≤ 24) (at_ : Nat) (hb : at_ + sizeI (.bin i op e0 e1) ≤ 1048576) (w : World) (hr : Rows5 w ka [k0, k1]) (T0 : KiC w0 w k0 e0) (S0 : KiS w k0 e0) (T1 : KiC w0 w k1 e1) (S1 : KiS w k1 e1) :
    Calls Tryz.prog 17 #[.agg #[.int .i64 op, .int .i64 num, .string text, .slice an nn cn, .slice ka 2 kc], .int .i64 at_] w fun r w' => (∃ v, r = .returned v ∧ InsO w0 w.heap.size v (treeI (.bin i op e0 e1) at_) w') ∧ Below w.heap.size w w' := by
  have B0 := (Below.refl w.heap.size w).alloc (Nat.le_refl _) (.cells #[.int .i64 op, .int .i64 num, .string text, .slice an nn cn, .slice ka 2 kc] 54)
  have R0 := Row.new w #[.int .i64 op, .int .i64 num, .string text, .slice an nn cn, .slice ka 2 kc] 54
  have H0 := hr.below B0 (Nat.le_refl _)
  have l0 := fun a => treeI_len e0 a
  have l1 := fun a => treeI_len e1 a
  have HE := hide (show treeI (.bin i op e0 e1) at_ = treeI e0 at_ ++ treeI e1 (at_ + sizeI e0) ++ [(plainJ (op - 3) 0).i] by rw [treeI, if_neg (by omega), if_neg (by omega), l0]; rfl)
  rw [unhide HE]
  clear HE
  rw [sizeI] at hb
  rw [if_neg (by omega)] at hb
  have HO := hide (l5op_any op (by omega))
  have e46 : (op == 6) = false := beq_eq_false_iff_ne.2 (by omega)
  have e47 : (op == 7) = false := beq_eq_false_iff_ne.2 (by omega)
  have e65 : (op == 25) = false := beq_eq_false_iff_ne.2 (by omega)
  have e66 : (op == 26) = false := beq_eq_false_iff_ne.2 (by omega)
  have e67 : (op == 27) = false := beq_eq_false_iff_ne.2 (by omega)
  clear hr
  have X0 := T0
  have X1 := T1
  have HT0 := hide (fun (W : World) (hW : Below w.heap.size w W) => T0 W hW (at_) (by omega))
  have HS0 := hide S0
  have m0 := l0 (at_)
  generalize treeI e0 (at_) = L0 at HT0 m0 ⊢
  have HT1 := hide (fun (W : World) (hW : Below w.heap.size w W) => T1 W hW (at_ + sizeI e0) (by omega))
  have HS1 := hide S1
  have m1 := l1 (at_ + sizeI e0)
  generalize treeI e1 (at_ + sizeI e0) = L1 at HT1 m1 ⊢
  clear T0 S0 X0 l0
  clear T1 S1 X1 l1
  have z0 : 1 ≤ sizeI e0 := sizeI_pos e0
  simp only [KiS] at HS0
  generalize sizeI e0 = n0 at *
  have z1 : 1 ≤ sizeI e1 := sizeI_pos e1
  simp only [KiS] at HS1
  generalize sizeI e1 = n1 at *
  simp only [Int.natCast_add, Int.cast_ofNat_Int] at HT0 HT1
  obtain ⟨b, off, rfl, hbl, hc⟩ := H0 0 (by simp)
  clear hc
  have HM0 := hide m0
  have q0 : L0.length ≤ 1048576 := by omega
  have HM1 := hide m1
  have q1 : L1.length ≤ 1048576 := by omega
  have HHB := hide hb
  have y0 : (at_ : Int) ≤ 1048576 := by omega
  have y1 : (n0 : Int) ≤ 1048576 := by omega
  have y2 : (n1 : Int) ≤ 1048576 := by omega
  clear hb m0 m1
  clear hop
  obtain ⟨a0, a1, a2, a3, a4⟩ := Rows5.at0 H0
  go_enter Tryz.func17, Tryz.ntmps17
  go_wp2_with fail
  generalize w.alloc (.cells #[.int .i64 op, .int .i64 num, .string text, .slice an nn cn, .slice (some ⟨b, off, none⟩) 2 kc] 54) = wa at B0 R0 H0 a0 a1 a2 a3 a4 ⊢
  have D0 := Below.refl wa.heap.size wa
  have hzw := B0.size
  have HK0 := hide (fun (W : World) (hW : Below wa.heap.size wa W) => unhide HT0 W (B0.trans (hW.mono hzw)))
  have HZ0 := hide (fun (W : World) (hW : Below wa.heap.size wa W) => unhide HS0 W (B0.trans (hW.mono hzw)))
  have HK1 := hide (fun (W : World) (hW : Below wa.heap.size wa W) => unhide HT1 W (B0.trans (hW.mono hzw)))
  have HZ1 := hide (fun (W : World) (hW : Below wa.heap.size wa W) => unhide HS1 W (B0.trans (hW.mono hzw)))
  clear HT0 HS0 HT1 HS1
  refine (unhide HK0 _ D0).mono ?_
  rintro r w1 ⟨⟨u1, rfl, F1⟩, hb1⟩
  obtain ⟨x1, c1, hv1, hx1⟩ := F1.form
  rw [unhide HM0] at hv1 hx1
  subst hv1
  have E1 := D0.trans (hb1.mono D0.size)
  have G1 := F1.low (B' := wa.heap.size) D0.size
  clear a0 a1 a2 a3 a4 F1 hb1
  dsimp only
  obtain ⟨a0, a1, a2, a3, a4⟩ := Rows5.at1 (H0.below E1 (Nat.le_refl _))
  obtain ⟨t0, t1, t2, t3, t4, _⟩ := row5 (R0.after E1 (Nat.le_refl _))
  go_wp2_with fail
  refine (unhide HK1 _ E1).mono ?_
  rintro r w2 ⟨⟨u2, rfl, F2⟩, hb2⟩
  obtain ⟨x2, c2, hv2, hx2⟩ := F2.form
  rw [unhide HM1] at hv2 hx2
  subst hv2
  have E2 := E1.trans (hb2.mono E1.size)
  have G2 := F2.low (B' := wa.heap.size) E1.size
  have Q2 := G1.below hb2
  clear G1
  clear a0 a1 a2 a3 a4 F2 hb2
  clear t0 t1 t2 t3 t4
  dsimp only
  obtain ⟨g3, V3, hg3, hK13, hK23, hK33⟩ := hx2 (by omega)
  subst hg3
  have hKl3 : V3.length = n1 := by rw [← List.length_map (f := J5.i), hK13]; exact unhide HM1
  have hz3 := E2.size
  go_wp2_with (at_builtin; refine wpList_ins rfl _ _ rfl w0 wa.heap.size _ (L0) rfl Q2 ⟨g3, 0, none⟩ n1 c2 V3 rfl hKl3 hK23 hK33 (by (try simp only [List.length_append, List.length_map, List.length_cons, List.length_nil]); omega) hz3 ?_)
  intro x3 y_3 c3 w3 Q3 M3
  try rw [hK13] at Q3
  have E3 := E2.trans M3
  clear hz3 M3 Q2 G2 hK13 hK23 hK33 hKl3
  have Z3 : InsO w0 wa.heap.size (.slice x3 y_3 c3) (L0 ++ L1) w3 := by simpa [List.append_assoc] using Q3
  clear Q3
  obtain ⟨t0, t1, t2, t3, t4, _⟩ := row5 (R0.after E3 (Nat.le_refl _))
  go_wp2_with fail
  refine (unhide HO _).mono ?_
  rintro r wz ⟨rfl, hwz⟩
  rw [hwz]
  clear hwz HO t0 t1 t2 t3 t4
  dsimp only
  have C4 := (Below.refl w3.heap.size w3).alloc (Nat.le_refl _) (.cells #[.int .i64 (op - 3), .int .i64 (0), .int .i64 0, .int .i64 0, .string ⟨#[]⟩, .slice none 0 0] 59)
  have P4 := Z3.below C4
  have hz4 := E3.size
  obtain ⟨t0, t1, t2, t3, t4, _⟩ := row5 (R0.after E3 (Nat.le_refl _))
  go_wp2_with (at_builtin; refine wpList_ins rfl _ _ rfl w0 wa.heap.size _ (L0 ++ L1) rfl P4 ⟨w3.heap.size, 0, none⟩ 1 1 [plainJ (op - 3) (0)] rfl rfl (NmO.plain _ _ _) (six_cell w3 (plainJ (op - 3) (0)) _ rfl) (by (try simp only [List.length_append, List.length_map, List.length_cons, List.length_nil]); omega) (by simp; omega) ?_)
  intro x4 y_4 c4 w4 Q4 M4
  have E4 := (E3.trans (C4.mono hz4)).trans M4
  clear P4 C4 hz4 M4 Z3 t0 t1 t2 t3 t4
  go_wp2_with fail
  go_ret
  exact ⟨⟨_, rfl, by have := Q4.low hzw; simpa [List.append_assoc, plainJ, boolJ, zeroV] using this⟩, B0.trans (E4.mono hzw)⟩

set_option maxRecDepth 100000 in
set_option maxHeartbeats 3200000 in
theorem tree_and (w0 : World) (num : Int) (text : ByteArray) (an : Option Addr) (nn cn : Nat) (ka : Option Addr) (kc : Nat) (k0 k1 : K5) (i : Int) (e0 e1 : Ex) (at_ : Nat) (hb : at_ + sizeI (.bin i 25 e0 e1) ≤ 1048576) (w : World) (hr : Rows5 w ka [k0, k1]) (T0 : KiC w0 w k0 e0) (S0 : KiS w k0 e0) (T1 : KiC w0 w k1 e1) (S1 : KiS w k1 e1) :
    Calls Tryz.prog 17 #[.agg #[.int .i64 25, .int .i64 num, .string text, .slice an nn cn, .slice ka 2 kc], .int .i64 at_] w fun r w' => (∃ v, r = .returned v ∧ InsO w0 w.heap.size v (treeI (.bin i 25 e0 e1) at_) w') ∧ Below w.heap.size w w' := by
  have B0 := (Below.refl w.heap.size w).alloc (Nat.le_refl _) (.cells #[.int .i64 25, .int .i64 num, .string text, .slice an nn cn, .slice ka 2 kc] 54)
  have R0 := Row.new w #[.int .i64 25, .int .i64 num, .string text, .slice an nn cn, .slice ka 2 kc] 54
  have H0 := hr.below B0 (Nat.le_refl _)
  have l0 := fun a => treeI_len e0 a
  have l1 := fun a => treeI_len e1 a
  have HE := hide (show treeI (.bin i 25 e0 e1) at_ = treeI e0 at_ ++ [(plainJ 23 ((at_ : Int) + (sizeI e0 : Nat) + (sizeI e1 : Nat) + 2)).i] ++ treeI e1 (at_ + sizeI e0 + 1) ++ [(plainJ 22 ((at_ : Int) + (sizeI e0 : Nat) + (sizeI e1 : Nat) + 3)).i] ++ [(boolJ 0).i] by rw [treeI, if_pos rfl]; simp only [l0, l1, Int.natCast_add]; rfl)
  rw [unhide HE]
  clear HE
  rw [sizeI] at hb
  rw [if_pos (by decide)] at hb
  clear hr
  have X0 := T0
  have X1 := T1
  have HT0 := hide (fun (W : World) (hW : Below w.heap.size w W) => T0 W hW (at_) (by omega))
  have HS0 := hide S0
  have m0 := l0 (at_)
  generalize treeI e0 (at_) = L0 at HT0 m0 ⊢
  have HT1 := hide (fun (W : World) (hW : Below w.heap.size w W) => T1 W hW (at_ + sizeI e0 + 1) (by omega))
  have HS1 := hide S1
  have m1 := l1 (at_ + sizeI e0 + 1)
  generalize treeI e1 (at_ + sizeI e0 + 1) = L1 at HT1 m1 ⊢
  clear T0 S0 X0 l0
  clear T1 S1 X1 l1
  have z0 : 1 ≤ sizeI e0 := sizeI_pos e0
  simp only [KiS] at HS0
  generalize sizeI e0 = n0 at *
  have z1 : 1 ≤ sizeI e1 := sizeI_pos e1
  simp only [KiS] at HS1
  generalize sizeI e1 = n1 at *
  simp only [Int.natCast_add, Int.cast_ofNat_Int] at HT0 HT1
  obtain ⟨b, off, rfl, hbl, hc⟩ := H0 0 (by simp)
  clear hc
  have HM0 := hide m0
  have q0 : L0.length ≤ 1048576 := by omega
  have HM1 := hide m1
  have q1 : L1.length ≤ 1048576 := by omega
  have HHB := hide hb
  have y0 : (at_ : Int) ≤ 1048576 := by omega
  have y1 : (n0 : Int) ≤ 1048576 := by omega
  have y2 : (n1 : Int) ≤ 1048576 := by omega
  clear hb m0 m1
  obtain ⟨a0, a1, a2, a3, a4⟩ := Rows5.at0 H0
  go_enter Tryz.func17, Tryz.ntmps17
  go_wp2_with fail
  generalize w.alloc (.cells #[.int .i64 25, .int .i64 num, .string text, .slice an nn cn, .slice (some ⟨b, off, none⟩) 2 kc] 54) = wa at B0 R0 H0 a0 a1 a2 a3 a4 ⊢
  have D0 := Below.refl wa.heap.size wa
  have hzw := B0.size
  have HK0 := hide (fun (W : World) (hW : Below wa.heap.size wa W) => unhide HT0 W (B0.trans (hW.mono hzw)))
  have HZ0 := hide (fun (W : World) (hW : Below wa.heap.size wa W) => unhide HS0 W (B0.trans (hW.mono hzw)))
  have HK1 := hide (fun (W : World) (hW : Below wa.heap.size wa W) => unhide HT1 W (B0.trans (hW.mono hzw)))
  have HZ1 := hide (fun (W : World) (hW : Below wa.heap.size wa W) => unhide HS1 W (B0.trans (hW.mono hzw)))
  clear HT0 HS0 HT1 HS1
  refine (unhide HK0 _ D0).mono ?_
  rintro r w1 ⟨⟨u1, rfl, F1⟩, hb1⟩
  obtain ⟨x1, c1, hv1, hx1⟩ := F1.form
  rw [unhide HM0] at hv1 hx1
  subst hv1
  have E1 := D0.trans (hb1.mono D0.size)
  have G1 := F1.low (B' := wa.heap.size) D0.size
  clear a0 a1 a2 a3 a4 F1 hb1
  dsimp only
  obtain ⟨a0, a1, a2, a3, a4⟩ := Rows5.at1 (H0.below E1 (Nat.le_refl _))
  obtain ⟨t0, t1, t2, t3, t4, _⟩ := row5 (R0.after E1 (Nat.le_refl _))
  go_wp2_with fail
  refine (unhide HZ1 _ E1).mono ?_
  rintro r w2 ⟨rfl, hb2⟩
  have E2 := E1.trans (hb2.mono E1.size)
  have Q2 := G1.below hb2
  clear a0 a1 a2 a3 a4 t0 t1 t2 t3 t4 hb2 G1
  dsimp only
  have C3 := (Below.refl w2.heap.size w2).alloc (Nat.le_refl _) (.cells #[.int .i64 (23), .int .i64 ((at_ : Int) + n0 + n1 + 2), .int .i64 0, .int .i64 0, .string ⟨#[]⟩, .slice none 0 0] 59)
  have P3 := Q2.below C3
  have hz3 := E2.size
  obtain ⟨t0, t1, t2, t3, t4, _⟩ := row5 (R0.after E2 (Nat.le_refl _))
  have hN3 : NmO w0 [plainJ (23) ((at_ : Int) + n0 + n1 + 2)] := fun j hj => by simp only [List.mem_cons, List.not_mem_nil, or_false] at hj; subst hj; exact StZ.none0 w0
  go_wp2_with (at_builtin; refine wpList_ins rfl _ _ rfl w0 wa.heap.size _ (L0) rfl P3 ⟨w2.heap.size, 0, none⟩ 1 1 [plainJ (23) ((at_ : Int) + n0 + n1 + 2)] rfl rfl hN3 (six_cell w2 (plainJ (23) ((at_ : Int) + n0 + n1 + 2)) _ rfl) (by (try simp only [List.length_append, List.length_map, List.length_cons, List.length_nil]); omega) (by simp; omega) ?_)
  intro x3 y_3 c3 w3 Q3 M3
  have E3 := (E2.trans (C3.mono hz3)).trans M3
  clear P3 C3 hz3 M3 hN3 Q2 t0 t1 t2 t3 t4
  have Z3 : InsO w0 wa.heap.size (.slice x3 y_3 c3) (L0 ++ [plainJ (23) ((at_ : Int) + n0 + n1 + 2)].map J5.i) w3 := by simpa [List.append_assoc] using Q3
  clear Q3
  obtain ⟨a0, a1, a2, a3, a4⟩ := Rows5.at1 (H0.below E3 (Nat.le_refl _))
  obtain ⟨t0, t1, t2, t3, t4, _⟩ := row5 (R0.after E3 (Nat.le_refl _))
  go_wp2_with fail
  refine (unhide HK1 _ E3).mono ?_
  rintro r w4 ⟨⟨u4, rfl, F4⟩, hb4⟩
  obtain ⟨x4, c4, hv4, hx4⟩ := F4.form
  rw [unhide HM1] at hv4 hx4
  subst hv4
  have E4 := E3.trans (hb4.mono E3.size)
  have G4 := F4.low (B' := wa.heap.size) E3.size
  have Q4 := Z3.below hb4
  clear Z3
  clear a0 a1 a2 a3 a4 F4 hb4
  clear t0 t1 t2 t3 t4
  dsimp only
  obtain ⟨g5, V5, hg5, hK15, hK25, hK35⟩ := hx4 (by omega)
  subst hg5
  have hKl5 : V5.length = n1 := by rw [← List.length_map (f := J5.i), hK15]; exact unhide HM1
  have hz5 := E4.size
  go_wp2_with (at_builtin; refine wpList_ins rfl _ _ rfl w0 wa.heap.size _ (L0 ++ [plainJ (23) ((at_ : Int) + n0 + n1 + 2)].map J5.i) rfl Q4 ⟨g5, 0, none⟩ n1 c4 V5 rfl hKl5 hK25 hK35 (by (try simp only [List.length_append, List.length_map, List.length_cons, List.length_nil]); omega) hz5 ?_)
  intro x5 y_5 c5 w5 Q5 M5
  try rw [hK15] at Q5
  have E5 := E4.trans M5
  clear hz5 M5 Q4 G4 hK15 hK25 hK35 hKl5
  have Z5 : InsO w0 wa.heap.size (.slice x5 y_5 c5) (L0 ++ [plainJ (23) ((at_ : Int) + n0 + n1 + 2)].map J5.i ++ L1) w5 := by simpa [List.append_assoc] using Q5
  clear Q5
  have C6 := (Below.refl w5.heap.size w5).alloc (Nat.le_refl _) (.cells #[.int .i64 (22), .int .i64 ((at_ : Int) + n0 + n1 + 3), .int .i64 0, .int .i64 0, .string ⟨#[]⟩, .slice none 0 0] 59)
  have P6 := Z5.below C6
  have hz6 := E5.size
  obtain ⟨t0, t1, t2, t3, t4, _⟩ := row5 (R0.after E5 (Nat.le_refl _))
  have hN6 : NmO w0 [plainJ (22) ((at_ : Int) + n0 + n1 + 3)] := fun j hj => by simp only [List.mem_cons, List.not_mem_nil, or_false] at hj; subst hj; exact StZ.none0 w0
  go_wp2_with (at_builtin; refine wpList_ins rfl _ _ rfl w0 wa.heap.size _ (L0 ++ [plainJ (23) ((at_ : Int) + n0 + n1 + 2)].map J5.i ++ L1) rfl P6 ⟨w5.heap.size, 0, none⟩ 1 1 [plainJ (22) ((at_ : Int) + n0 + n1 + 3)] rfl rfl hN6 (six_cell w5 (plainJ (22) ((at_ : Int) + n0 + n1 + 3)) _ rfl) (by (try simp only [List.length_append, List.length_map, List.length_cons, List.length_nil]); omega) (by simp; omega) ?_)
  intro x6 y_6 c6 w6 Q6 M6
  have E6 := (E5.trans (C6.mono hz6)).trans M6
  clear P6 C6 hz6 M6 hN6 Z5 t0 t1 t2 t3 t4
  have Z6 : InsO w0 wa.heap.size (.slice x6 y_6 c6) (L0 ++ [plainJ (23) ((at_ : Int) + n0 + n1 + 2)].map J5.i ++ L1 ++ [plainJ (22) ((at_ : Int) + n0 + n1 + 3)].map J5.i) w6 := by simpa [List.append_assoc] using Q6
  clear Q6
  obtain ⟨t0, t1, t2, t3, t4, _⟩ := row5 (R0.after E6 (Nat.le_refl _))
  go_wp2_with fail
  clear t0 t1 t2 t3 t4
  refine (l5bool_any 0 _).mono ?_
  rintro r w7 ⟨rfl, hb7⟩
  have E7 := E6.trans (hb7.mono E6.size)
  have Q7 := Z6.below hb7
  clear hb7 Z6
  dsimp only
  have C8 := (Below.refl w7.heap.size w7).alloc (Nat.le_refl _) (.cells #[.int .i64 1, .int .i64 0, .int .i64 1, .int .i64 0, .string ⟨#[]⟩, .slice none 0 0] 59)
  have P8 := Q7.below C8
  have hz8 := E7.size
  obtain ⟨t0, t1, t2, t3, t4, _⟩ := row5 (R0.after E7 (Nat.le_refl _))
  have hN8 : NmO w0 [boolJ 0] := fun j hj => by simp only [List.mem_cons, List.not_mem_nil, or_false] at hj; subst hj; exact StZ.none0 w0
  go_wp2_with (at_builtin; refine wpList_ins rfl _ _ rfl w0 wa.heap.size _ (L0 ++ [plainJ (23) ((at_ : Int) + n0 + n1 + 2)].map J5.i ++ L1 ++ [plainJ (22) ((at_ : Int) + n0 + n1 + 3)].map J5.i) rfl P8 ⟨w7.heap.size, 0, none⟩ 1 1 [boolJ 0] rfl rfl hN8 (six_cell w7 (boolJ 0) _ rfl) (by (try simp only [List.length_append, List.length_map, List.length_cons, List.length_nil]); omega) (by simp; omega) ?_)
  intro x8 y_8 c8 w8 Q8 M8
  have E8 := (E7.trans (C8.mono hz8)).trans M8
  clear P8 C8 hz8 M8 hN8 Q7 t0 t1 t2 t3 t4
  have Z8 : InsO w0 wa.heap.size (.slice x8 y_8 c8) (L0 ++ [plainJ (23) ((at_ : Int) + n0 + n1 + 2)].map J5.i ++ L1 ++ [plainJ (22) ((at_ : Int) + n0 + n1 + 3)].map J5.i ++ [boolJ 0].map J5.i) w8 := by simpa [List.append_assoc] using Q8
  clear Q8
  go_wp2_with fail
  go_ret
  exact ⟨⟨_, rfl, by have := Z8.low hzw; simpa [List.append_assoc, plainJ, boolJ, zeroV] using this⟩, B0.trans (E8.mono hzw)⟩

set_option maxRecDepth 100000 in
set_option maxHeartbeats 3200000 in
theorem tree_or (w0 : World) (num : Int) (text : ByteArray) (an : Option Addr) (nn cn : Nat) (ka : Option Addr) (kc : Nat) (k0 k1 : K5) (i : Int) (e0 e1 : Ex) (at_ : Nat) (hb : at_ + sizeI (.bin i 26 e0 e1) ≤ 1048576) (w : World) (hr : Rows5 w ka [k0, k1]) (T0 : KiC w0 w k0 e0) (S0 : KiS w k0 e0) (T1 : KiC w0 w k1 e1) (S1 : KiS w k1 e1) :
    Calls Tryz.prog 17 #[.agg #[.int .i64 26, .int .i64 num, .string text, .slice an nn cn, .slice ka 2 kc], .int .i64 at_] w fun r w' => (∃ v, r = .returned v ∧ InsO w0 w.heap.size v (treeI (.bin i 26 e0 e1) at_) w') ∧ Below w.heap.size w w' := by
  have B0 := (Below.refl w.heap.size w).alloc (Nat.le_refl _) (.cells #[.int .i64 26, .int .i64 num, .string text, .slice an nn cn, .slice ka 2 kc] 54)
  have R0 := Row.new w #[.int .i64 26, .int .i64 num, .string text, .slice an nn cn, .slice ka 2 kc] 54
  have H0 := hr.below B0 (Nat.le_refl _)
  have l0 := fun a => treeI_len e0 a
  have l1 := fun a => treeI_len e1 a
  have HE := hide (show treeI (.bin i 26 e0 e1) at_ = treeI e0 at_ ++ [(plainJ 23 ((at_ : Int) + (sizeI e0 : Nat) + 3)).i, (boolJ 1).i] ++ [(plainJ 22 ((at_ : Int) + (sizeI e0 : Nat) + 3 + (sizeI e1 : Nat))).i] ++ treeI e1 (at_ + sizeI e0 + 3) by rw [treeI, if_neg (by decide), if_pos rfl]; simp only [l0, l1, Int.natCast_add, List.append_assoc]; rfl)
  rw [unhide HE]
  clear HE
  rw [sizeI] at hb
  rw [if_pos (by decide)] at hb
  clear hr
  have X0 := T0
  have X1 := T1
  have HT0 := hide (fun (W : World) (hW : Below w.heap.size w W) => T0 W hW (at_) (by omega))
  have HS0 := hide S0
  have m0 := l0 (at_)
  generalize treeI e0 (at_) = L0 at HT0 m0 ⊢
  have HT1 := hide (fun (W : World) (hW : Below w.heap.size w W) => T1 W hW (at_ + sizeI e0 + 3) (by omega))
  have HS1 := hide S1
  have m1 := l1 (at_ + sizeI e0 + 3)
  generalize treeI e1 (at_ + sizeI e0 + 3) = L1 at HT1 m1 ⊢
  clear T0 S0 X0 l0
  clear T1 S1 X1 l1
  have z0 : 1 ≤ sizeI e0 := sizeI_pos e0
  simp only [KiS] at HS0
  generalize sizeI e0 = n0 at *
  have z1 : 1 ≤ sizeI e1 := sizeI_pos e1
  simp only [KiS] at HS1
  generalize sizeI e1 = n1 at *
  simp only [Int.natCast_add, Int.cast_ofNat_Int] at HT0 HT1
  obtain ⟨b, off, rfl, hbl, hc⟩ := H0 0 (by simp)
  clear hc
  have HM0 := hide m0
  have q0 : L0.length ≤ 1048576 := by omega
  have HM1 := hide m1
  have q1 : L1.length ≤ 1048576 := by omega
  have HHB := hide hb
  have y0 : (at_ : Int) ≤ 1048576 := by omega
  have y1 : (n0 : Int) ≤ 1048576 := by omega
  have y2 : (n1 : Int) ≤ 1048576 := by omega
  clear hb m0 m1
  obtain ⟨a0, a1, a2, a3, a4⟩ := Rows5.at0 H0
  go_enter Tryz.func17, Tryz.ntmps17
  go_wp2_with fail
  generalize w.alloc (.cells #[.int .i64 26, .int .i64 num, .string text, .slice an nn cn, .slice (some ⟨b, off, none⟩) 2 kc] 54) = wa at B0 R0 H0 a0 a1 a2 a3 a4 ⊢
  have D0 := Below.refl wa.heap.size wa
  have hzw := B0.size
  have HK0 := hide (fun (W : World) (hW : Below wa.heap.size wa W) => unhide HT0 W (B0.trans (hW.mono hzw)))
  have HZ0 := hide (fun (W : World) (hW : Below wa.heap.size wa W) => unhide HS0 W (B0.trans (hW.mono hzw)))
  have HK1 := hide (fun (W : World) (hW : Below wa.heap.size wa W) => unhide HT1 W (B0.trans (hW.mono hzw)))
  have HZ1 := hide (fun (W : World) (hW : Below wa.heap.size wa W) => unhide HS1 W (B0.trans (hW.mono hzw)))
  clear HT0 HS0 HT1 HS1
  refine (unhide HK0 _ D0).mono ?_
  rintro r w1 ⟨⟨u1, rfl, F1⟩, hb1⟩
  obtain ⟨x1, c1, hv1, hx1⟩ := F1.form
  rw [unhide HM0] at hv1 hx1
  subst hv1
  have E1 := D0.trans (hb1.mono D0.size)
  have G1 := F1.low (B' := wa.heap.size) D0.size
  clear a0 a1 a2 a3 a4 F1 hb1
  dsimp only
  obtain ⟨t0, t1, t2, t3, t4, _⟩ := row5 (R0.after E1 (Nat.le_refl _))
  go_wp2_with fail
  clear t0 t1 t2 t3 t4
  refine (l5bool_any 1 _).mono ?_
  rintro r w2 ⟨rfl, hb2⟩
  have E2 := E1.trans (hb2.mono E1.size)
  have Q2 := G1.below hb2
  clear hb2 G1
  dsimp only
  have C3 := (Below.refl w2.heap.size w2).alloc (Nat.le_refl _) (.cells #[.int .i64 (23), .int .i64 ((at_ : Int) + n0 + 3), .int .i64 0, .int .i64 0, .string ⟨#[]⟩, .slice none 0 0, .int .i64 1, .int .i64 0, .int .i64 1, .int .i64 1, .string ⟨#[]⟩, .slice none 0 0] 59)
  have P3 := Q2.below C3
  have hz3 := E2.size
  obtain ⟨t0, t1, t2, t3, t4, _⟩ := row5 (R0.after E2 (Nat.le_refl _))
  have hN3 : NmO w0 [plainJ (23) ((at_ : Int) + n0 + 3), boolJ 1] := fun j hj => by simp only [List.mem_cons, List.not_mem_nil, or_false] at hj; rcases hj with rfl | rfl <;> exact StZ.none0 w0
  go_wp2_with (at_builtin; refine wpList_ins rfl _ _ rfl w0 wa.heap.size _ (L0) rfl P3 ⟨w2.heap.size, 0, none⟩ 2 2 [plainJ (23) ((at_ : Int) + n0 + 3), boolJ 1] rfl rfl hN3 (twelve_cell w2 (plainJ (23) ((at_ : Int) + n0 + 3)) (boolJ 1) _ rfl) (by (try simp only [List.length_append, List.length_map, List.length_cons, List.length_nil]); omega) (by simp; omega) ?_)
  intro x3 y_3 c3 w3 Q3 M3
  have E3 := (E2.trans (C3.mono hz3)).trans M3
  clear P3 C3 hz3 M3 hN3 Q2 t0 t1 t2 t3 t4
  have Z3 : InsO w0 wa.heap.size (.slice x3 y_3 c3) (L0 ++ [plainJ (23) ((at_ : Int) + n0 + 3), boolJ 1].map J5.i) w3 := by simpa [List.append_assoc] using Q3
  clear Q3
  obtain ⟨a0, a1, a2, a3, a4⟩ := Rows5.at1 (H0.below E3 (Nat.le_refl _))
  obtain ⟨t0, t1, t2, t3, t4, _⟩ := row5 (R0.after E3 (Nat.le_refl _))
  go_wp2_with fail
  refine (unhide HZ1 _ E3).mono ?_
  rintro r w4 ⟨rfl, hb4⟩
  have E4 := E3.trans (hb4.mono E3.size)
  have Q4 := Z3.below hb4
  clear a0 a1 a2 a3 a4 t0 t1 t2 t3 t4 hb4 Z3
  dsimp only
  have C5 := (Below.refl w4.heap.size w4).alloc (Nat.le_refl _) (.cells #[.int .i64 (22), .int .i64 ((at_ : Int) + n0 + 3 + n1), .int .i64 0, .int .i64 0, .string ⟨#[]⟩, .slice none 0 0] 59)
  have P5 := Q4.below C5
  have hz5 := E4.size
  obtain ⟨t0, t1, t2, t3, t4, _⟩ := row5 (R0.after E4 (Nat.le_refl _))
  have hN5 : NmO w0 [plainJ (22) ((at_ : Int) + n0 + 3 + n1)] := fun j hj => by simp only [List.mem_cons, List.not_mem_nil, or_false] at hj; subst hj; exact StZ.none0 w0
  go_wp2_with (at_builtin; refine wpList_ins rfl _ _ rfl w0 wa.heap.size _ (L0 ++ [plainJ (23) ((at_ : Int) + n0 + 3), boolJ 1].map J5.i) rfl P5 ⟨w4.heap.size, 0, none⟩ 1 1 [plainJ (22) ((at_ : Int) + n0 + 3 + n1)] rfl rfl hN5 (six_cell w4 (plainJ (22) ((at_ : Int) + n0 + 3 + n1)) _ rfl) (by (try simp only [List.length_append, List.length_map, List.length_cons, List.length_nil]); omega) (by simp; omega) ?_)
  intro x5 y_5 c5 w5 Q5 M5
  have E5 := (E4.trans (C5.mono hz5)).trans M5
  clear P5 C5 hz5 M5 hN5 Q4 t0 t1 t2 t3 t4
  have Z5 : InsO w0 wa.heap.size (.slice x5 y_5 c5) (L0 ++ [plainJ (23) ((at_ : Int) + n0 + 3), boolJ 1].map J5.i ++ [plainJ (22) ((at_ : Int) + n0 + 3 + n1)].map J5.i) w5 := by simpa [List.append_assoc] using Q5
  clear Q5
  obtain ⟨a0, a1, a2, a3, a4⟩ := Rows5.at1 (H0.below E5 (Nat.le_refl _))
  obtain ⟨t0, t1, t2, t3, t4, _⟩ := row5 (R0.after E5 (Nat.le_refl _))
  go_wp2_with fail
  refine (unhide HK1 _ E5).mono ?_
  rintro r w6 ⟨⟨u6, rfl, F6⟩, hb6⟩
  obtain ⟨x6, c6, hv6, hx6⟩ := F6.form
  rw [unhide HM1] at hv6 hx6
  subst hv6
  have E6 := E5.trans (hb6.mono E5.size)
  have G6 := F6.low (B' := wa.heap.size) E5.size
  have Q6 := Z5.below hb6
  clear Z5
  clear a0 a1 a2 a3 a4 F6 hb6
  clear t0 t1 t2 t3 t4
  dsimp only
  obtain ⟨g7, V7, hg7, hK17, hK27, hK37⟩ := hx6 (by omega)
  subst hg7
  have hKl7 : V7.length = n1 := by rw [← List.length_map (f := J5.i), hK17]; exact unhide HM1
  have hz7 := E6.size
  go_wp2_with (at_builtin; refine wpList_ins rfl _ _ rfl w0 wa.heap.size _ (L0 ++ [plainJ (23) ((at_ : Int) + n0 + 3), boolJ 1].map J5.i ++ [plainJ (22) ((at_ : Int) + n0 + 3 + n1)].map J5.i) rfl Q6 ⟨g7, 0, none⟩ n1 c6 V7 rfl hKl7 hK27 hK37 (by (try simp only [List.length_append, List.length_map, List.length_cons, List.length_nil]); omega) hz7 ?_)
  intro x7 y_7 c7 w7 Q7 M7
  try rw [hK17] at Q7
  have E7 := E6.trans M7
  clear hz7 M7 Q6 G6 hK17 hK27 hK37 hKl7
  have Z7 : InsO w0 wa.heap.size (.slice x7 y_7 c7) (L0 ++ [plainJ (23) ((at_ : Int) + n0 + 3), boolJ 1].map J5.i ++ [plainJ (22) ((at_ : Int) + n0 + 3 + n1)].map J5.i ++ L1) w7 := by simpa [List.append_assoc] using Q7
  clear Q7
  go_wp2_with fail
  go_ret
  exact ⟨⟨_, rfl, by have := Z7.low hzw; simpa [List.append_assoc, plainJ, boolJ, zeroV] using this⟩, B0.trans (E7.mono hzw)⟩

set_option maxRecDepth 100000 in
set_option maxHeartbeats 3200000 in
theorem tree_ite (w0 : World) (num : Int) (text : ByteArray) (an : Option Addr) (nn cn : Nat) (ka : Option Addr) (kc : Nat) (k0 k1 k2 : K5) (i : Int) (e0 e1 e2 : Ex) (at_ : Nat) (hb : at_ + sizeI (.ite i e0 e1 e2) ≤ 1048576) (w : World) (hr : Rows5 w ka [k0, k1, k2]) (T0 : KiC w0 w k0 e0) (S0 : KiS w k0 e0) (T1 : KiC w0 w k1 e1) (S1 : KiS w k1 e1) (T2 : KiC w0 w k2 e2) (S2 : KiS w k2 e2) :
    Calls Tryz.prog 17 #[.agg #[.int .i64 27, .int .i64 num, .string text, .slice an nn cn, .slice ka 3 kc], .int .i64 at_] w fun r w' => (∃ v, r = .returned v ∧ InsO w0 w.heap.size v (treeI (.ite i e0 e1 e2) at_) w') ∧ Below w.heap.size w w' := by
  have B0 := (Below.refl w.heap.size w).alloc (Nat.le_refl _) (.cells #[.int .i64 27, .int .i64 num, .string text, .slice an nn cn, .slice ka 3 kc] 54)
  have R0 := Row.new w #[.int .i64 27, .int .i64 num, .string text, .slice an nn cn, .slice ka 3 kc] 54
  have H0 := hr.below B0 (Nat.le_refl _)
  have l0 := fun a => treeI_len e0 a
  have l1 := fun a => treeI_len e1 a
  have l2 := fun a => treeI_len e2 a
  have HE := hide (show treeI (.ite i e0 e1 e2) at_ = treeI e0 at_ ++ [(plainJ 23 ((at_ : Int) + (sizeI e0 : Nat) + (sizeI e1 : Nat) + 2)).i] ++ treeI e1 (at_ + sizeI e0 + 1) ++ [(plainJ 22 ((at_ : Int) + (sizeI e0 : Nat) + (sizeI e1 : Nat) + 2 + (sizeI e2 : Nat))).i] ++ treeI e2 (at_ + sizeI e0 + sizeI e1 + 2) by rw [treeI]; simp only [l0, l1, l2, Int.natCast_add]; rfl)
  rw [unhide HE]
  clear HE
  rw [sizeI] at hb
  clear hr
  have X0 := T0
  have X1 := T1
  have X2 := T2
  have HT0 := hide (fun (W : World) (hW : Below w.heap.size w W) => T0 W hW (at_) (by omega))
  have HS0 := hide S0
  have m0 := l0 (at_)
  generalize treeI e0 (at_) = L0 at HT0 m0 ⊢
  have HT1 := hide (fun (W : World) (hW : Below w.heap.size w W) => T1 W hW (at_ + sizeI e0 + 1) (by omega))
  have HS1 := hide S1
  have m1 := l1 (at_ + sizeI e0 + 1)
  generalize treeI e1 (at_ + sizeI e0 + 1) = L1 at HT1 m1 ⊢
  have HT2 := hide (fun (W : World) (hW : Below w.heap.size w W) => T2 W hW (at_ + sizeI e0 + sizeI e1 + 2) (by omega))
  have HS2 := hide S2
  have m2 := l2 (at_ + sizeI e0 + sizeI e1 + 2)
  generalize treeI e2 (at_ + sizeI e0 + sizeI e1 + 2) = L2 at HT2 m2 ⊢
  clear T0 S0 X0 l0
  clear T1 S1 X1 l1
  clear T2 S2 X2 l2
  have z0 : 1 ≤ sizeI e0 := sizeI_pos e0
  simp only [KiS] at HS0
  generalize sizeI e0 = n0 at *
  have z1 : 1 ≤ sizeI e1 := sizeI_pos e1
  simp only [KiS] at HS1
  generalize sizeI e1 = n1 at *
  have z2 : 1 ≤ sizeI e2 := sizeI_pos e2
  simp only [KiS] at HS2
  generalize sizeI e2 = n2 at *
  simp only [Int.natCast_add, Int.cast_ofNat_Int] at HT0 HT1 HT2
  obtain ⟨b, off, rfl, hbl, hc⟩ := H0 0 (by simp)
  clear hc
  have HM0 := hide m0
  have q0 : L0.length ≤ 1048576 := by omega
  have HM1 := hide m1
  have q1 : L1.length ≤ 1048576 := by omega
  have HM2 := hide m2
  have q2 : L2.length ≤ 1048576 := by omega
  have HHB := hide hb
  have y0 : (at_ : Int) ≤ 1048576 := by omega
  have y1 : (n0 : Int) ≤ 1048576 := by omega
  have y2 : (n1 : Int) ≤ 1048576 := by omega
  have y3 : (n2 : Int) ≤ 1048576 := by omega
  clear hb m0 m1 m2
  obtain ⟨a0, a1, a2, a3, a4⟩ := Rows5.at0 H0
  go_enter Tryz.func17, Tryz.ntmps17
  go_wp2_with fail
  generalize w.alloc (.cells #[.int .i64 27, .int .i64 num, .string text, .slice an nn cn, .slice (some ⟨b, off, none⟩) 3 kc] 54) = wa at B0 R0 H0 a0 a1 a2 a3 a4 ⊢
  have D0 := Below.refl wa.heap.size wa
  have hzw := B0.size
  have HK0 := hide (fun (W : World) (hW : Below wa.heap.size wa W) => unhide HT0 W (B0.trans (hW.mono hzw)))
  have HZ0 := hide (fun (W : World) (hW : Below wa.heap.size wa W) => unhide HS0 W (B0.trans (hW.mono hzw)))
  have HK1 := hide (fun (W : World) (hW : Below wa.heap.size wa W) => unhide HT1 W (B0.trans (hW.mono hzw)))
  have HZ1 := hide (fun (W : World) (hW : Below wa.heap.size wa W) => unhide HS1 W (B0.trans (hW.mono hzw)))
  have HK2 := hide (fun (W : World) (hW : Below wa.heap.size wa W) => unhide HT2 W (B0.trans (hW.mono hzw)))
  have HZ2 := hide (fun (W : World) (hW : Below wa.heap.size wa W) => unhide HS2 W (B0.trans (hW.mono hzw)))
  clear HT0 HS0 HT1 HS1 HT2 HS2
  refine (unhide HK0 _ D0).mono ?_
  rintro r w1 ⟨⟨u1, rfl, F1⟩, hb1⟩
  obtain ⟨x1, c1, hv1, hx1⟩ := F1.form
  rw [unhide HM0] at hv1 hx1
  subst hv1
  have E1 := D0.trans (hb1.mono D0.size)
  have G1 := F1.low (B' := wa.heap.size) D0.size
  clear a0 a1 a2 a3 a4 F1 hb1
  dsimp only
  obtain ⟨a0, a1, a2, a3, a4⟩ := Rows5.at1 (H0.below E1 (Nat.le_refl _))
  obtain ⟨t0, t1, t2, t3, t4, _⟩ := row5 (R0.after E1 (Nat.le_refl _))
  go_wp2_with fail
  refine (unhide HZ1 _ E1).mono ?_
  rintro r w2 ⟨rfl, hb2⟩
  have E2 := E1.trans (hb2.mono E1.size)
  have Q2 := G1.below hb2
  clear a0 a1 a2 a3 a4 t0 t1 t2 t3 t4 hb2 G1
  dsimp only
  have C3 := (Below.refl w2.heap.size w2).alloc (Nat.le_refl _) (.cells #[.int .i64 (23), .int .i64 ((at_ : Int) + n0 + n1 + 2), .int .i64 0, .int .i64 0, .string ⟨#[]⟩, .slice none 0 0] 59)
  have P3 := Q2.below C3
  have hz3 := E2.size
  obtain ⟨t0, t1, t2, t3, t4, _⟩ := row5 (R0.after E2 (Nat.le_refl _))
  have hN3 : NmO w0 [plainJ (23) ((at_ : Int) + n0 + n1 + 2)] := fun j hj => by simp only [List.mem_cons, List.not_mem_nil, or_false] at hj; subst hj; exact StZ.none0 w0
  go_wp2_with (at_builtin; refine wpList_ins rfl _ _ rfl w0 wa.heap.size _ (L0) rfl P3 ⟨w2.heap.size, 0, none⟩ 1 1 [plainJ (23) ((at_ : Int) + n0 + n1 + 2)] rfl rfl hN3 (six_cell w2 (plainJ (23) ((at_ : Int) + n0 + n1 + 2)) _ rfl) (by (try simp only [List.length_append, List.length_map, List.length_cons, List.length_nil]); omega) (by simp; omega) ?_)
  intro x3 y_3 c3 w3 Q3 M3
  have E3 := (E2.trans (C3.mono hz3)).trans M3
  clear P3 C3 hz3 M3 hN3 Q2 t0 t1 t2 t3 t4
  have Z3 : InsO w0 wa.heap.size (.slice x3 y_3 c3) (L0 ++ [plainJ (23) ((at_ : Int) + n0 + n1 + 2)].map J5.i) w3 := by simpa [List.append_assoc] using Q3
  clear Q3
  obtain ⟨a0, a1, a2, a3, a4⟩ := Rows5.at1 (H0.below E3 (Nat.le_refl _))
  obtain ⟨t0, t1, t2, t3, t4, _⟩ := row5 (R0.after E3 (Nat.le_refl _))
  go_wp2_with fail
  refine (unhide HK1 _ E3).mono ?_
  rintro r w4 ⟨⟨u4, rfl, F4⟩, hb4⟩
  obtain ⟨x4, c4, hv4, hx4⟩ := F4.form
  rw [unhide HM1] at hv4 hx4
  subst hv4
  have E4 := E3.trans (hb4.mono E3.size)
  have G4 := F4.low (B' := wa.heap.size) E3.size
  have Q4 := Z3.below hb4
  clear Z3
  clear a0 a1 a2 a3 a4 F4 hb4
  clear t0 t1 t2 t3 t4
  dsimp only
  obtain ⟨g5, V5, hg5, hK15, hK25, hK35⟩ := hx4 (by omega)
  subst hg5
  have hKl5 : V5.length = n1 := by rw [← List.length_map (f := J5.i), hK15]; exact unhide HM1
  have hz5 := E4.size
  go_wp2_with (at_builtin; refine wpList_ins rfl _ _ rfl w0 wa.heap.size _ (L0 ++ [plainJ (23) ((at_ : Int) + n0 + n1 + 2)].map J5.i) rfl Q4 ⟨g5, 0, none⟩ n1 c4 V5 rfl hKl5 hK25 hK35 (by (try simp only [List.length_append, List.length_map, List.length_cons, List.length_nil]); omega) hz5 ?_)
  intro x5 y_5 c5 w5 Q5 M5
  try rw [hK15] at Q5
  have E5 := E4.trans M5
  clear hz5 M5 Q4 G4 hK15 hK25 hK35 hKl5
  have Z5 : InsO w0 wa.heap.size (.slice x5 y_5 c5) (L0 ++ [plainJ (23) ((at_ : Int) + n0 + n1 + 2)].map J5.i ++ L1) w5 := by simpa [List.append_assoc] using Q5
  clear Q5
  obtain ⟨a0, a1, a2, a3, a4⟩ := Rows5.at2 (H0.below E5 (Nat.le_refl _))
  obtain ⟨t0, t1, t2, t3, t4, _⟩ := row5 (R0.after E5 (Nat.le_refl _))
  go_wp2_with fail
  refine (unhide HZ2 _ E5).mono ?_
  rintro r w6 ⟨rfl, hb6⟩
  have E6 := E5.trans (hb6.mono E5.size)
  have Q6 := Z5.below hb6
  clear a0 a1 a2 a3 a4 t0 t1 t2 t3 t4 hb6 Z5
  dsimp only
  have C7 := (Below.refl w6.heap.size w6).alloc (Nat.le_refl _) (.cells #[.int .i64 (22), .int .i64 ((at_ : Int) + n0 + n1 + 2 + n2), .int .i64 0, .int .i64 0, .string ⟨#[]⟩, .slice none 0 0] 59)
  have P7 := Q6.below C7
  have hz7 := E6.size
  obtain ⟨t0, t1, t2, t3, t4, _⟩ := row5 (R0.after E6 (Nat.le_refl _))
  have hN7 : NmO w0 [plainJ (22) ((at_ : Int) + n0 + n1 + 2 + n2)] := fun j hj => by simp only [List.mem_cons, List.not_mem_nil, or_false] at hj; subst hj; exact StZ.none0 w0
  go_wp2_with (at_builtin; refine wpList_ins rfl _ _ rfl w0 wa.heap.size _ (L0 ++ [plainJ (23) ((at_ : Int) + n0 + n1 + 2)].map J5.i ++ L1) rfl P7 ⟨w6.heap.size, 0, none⟩ 1 1 [plainJ (22) ((at_ : Int) + n0 + n1 + 2 + n2)] rfl rfl hN7 (six_cell w6 (plainJ (22) ((at_ : Int) + n0 + n1 + 2 + n2)) _ rfl) (by (try simp only [List.length_append, List.length_map, List.length_cons, List.length_nil]); omega) (by simp; omega) ?_)
  intro x7 y_7 c7 w7 Q7 M7
  have E7 := (E6.trans (C7.mono hz7)).trans M7
  clear P7 C7 hz7 M7 hN7 Q6 t0 t1 t2 t3 t4
  have Z7 : InsO w0 wa.heap.size (.slice x7 y_7 c7) (L0 ++ [plainJ (23) ((at_ : Int) + n0 + n1 + 2)].map J5.i ++ L1 ++ [plainJ (22) ((at_ : Int) + n0 + n1 + 2 + n2)].map J5.i) w7 := by simpa [List.append_assoc] using Q7
  clear Q7
  obtain ⟨a0, a1, a2, a3, a4⟩ := Rows5.at2 (H0.below E7 (Nat.le_refl _))
  obtain ⟨t0, t1, t2, t3, t4, _⟩ := row5 (R0.after E7 (Nat.le_refl _))
  go_wp2_with fail
  refine (unhide HK2 _ E7).mono ?_
  rintro r w8 ⟨⟨u8, rfl, F8⟩, hb8⟩
  obtain ⟨x8, c8, hv8, hx8⟩ := F8.form
  rw [unhide HM2] at hv8 hx8
  subst hv8
  have E8 := E7.trans (hb8.mono E7.size)
  have G8 := F8.low (B' := wa.heap.size) E7.size
  have Q8 := Z7.below hb8
  clear Z7
  clear a0 a1 a2 a3 a4 F8 hb8
  clear t0 t1 t2 t3 t4
  dsimp only
  obtain ⟨g9, V9, hg9, hK19, hK29, hK39⟩ := hx8 (by omega)
  subst hg9
  have hKl9 : V9.length = n2 := by rw [← List.length_map (f := J5.i), hK19]; exact unhide HM2
  have hz9 := E8.size
  go_wp2_with (at_builtin; refine wpList_ins rfl _ _ rfl w0 wa.heap.size _ (L0 ++ [plainJ (23) ((at_ : Int) + n0 + n1 + 2)].map J5.i ++ L1 ++ [plainJ (22) ((at_ : Int) + n0 + n1 + 2 + n2)].map J5.i) rfl Q8 ⟨g9, 0, none⟩ n2 c8 V9 rfl hKl9 hK29 hK39 (by (try simp only [List.length_append, List.length_map, List.length_cons, List.length_nil]); omega) hz9 ?_)
  intro x9 y_9 c9 w9 Q9 M9
  try rw [hK19] at Q9
  have E9 := E8.trans M9
  clear hz9 M9 Q8 G8 hK19 hK29 hK39 hKl9
  have Z9 : InsO w0 wa.heap.size (.slice x9 y_9 c9) (L0 ++ [plainJ (23) ((at_ : Int) + n0 + n1 + 2)].map J5.i ++ L1 ++ [plainJ (22) ((at_ : Int) + n0 + n1 + 2 + n2)].map J5.i ++ L2) w9 := by simpa [List.append_assoc] using Q9
  clear Q9
  go_wp2_with fail
  go_ret
  exact ⟨⟨_, rfl, by have := Z9.low hzw; simpa [List.append_assoc, plainJ, boolJ, zeroV] using this⟩, B0.trans (E9.mono hzw)⟩

end Go.Proofs.YtpbopjgmiaoomaaGreatDoor

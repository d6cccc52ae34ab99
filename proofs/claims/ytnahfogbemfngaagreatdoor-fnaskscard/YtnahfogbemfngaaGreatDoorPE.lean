/-
  ParseAsk of the model. Own work.
-/
import Derived.Test.YtnahfogbemfngaaGreatDoorPD
namespace Go.Proofs.YtnahfogbemfngaaGreatDoor
open Go.RowKit
set_option linter.unusedVariables false

/-- four parts, or not -/
theorem four {P : List (List UInt8)} (h : P.length = 4) : ∃ p0 p1 p2 p3 : ByteArray, P = [toL p0, toL p1, toL p2, toL p3] := by
  match P, h with
  | [a, b, c, d], _ => exact ⟨ofL a, ofL b, ofL c, ofL d, by simp [toL_ofL]⟩

theorem no_four {t : ByteArray} (h : (splitC 32 (toL t)).length ≠ 4) : ∀ cl us lv K, ¬ AskOf (toL t) cl us lv K := fun cl us lv K k => by
  obtain ⟨_, d, ls, e, _⟩ := k.parts
  rw [e] at h; exact h rfl

theorem sp_of_four {t p0 p1 p2 p3 cl us : ByteArray} {lv : Int} {K : List ByteArray} (h : splitC 32 (toL t) = [toL p0, toL p1, toL p2, toL p3]) (k : AskOf (toL t) cl us lv K) :
    ∃ d ls, toL p0 = lbC ++ toL cl ∧ toL p1 = lbU ++ toL us ∧ toL p2 = lbL ++ d ∧ toL p3 = lbA ++ ls ∧ vnB cl = true ∧ vnB us = true ∧ lvOK d = true ∧ LsOK ls K := by
  obtain ⟨_, d, ls, e, v1, v2, hd, hl⟩ := k.parts
  rw [h] at e
  simp only [List.cons.injEq, and_true] at e
  exact ⟨d, ls, e.1, e.2.1, e.2.2.1, e.2.2.2, v1, v2, hd, hl⟩

set_option maxRecDepth 100000 in
set_option maxHeartbeats 6400000 in
theorem sParseAsk_any (t : ByteArray) (w : World) (ht : t.size ≤ 1048576) :
    Calls Tryz.prog 10 #[.string t] w fun e w' => PaAns w t e w' := by
  by_cases h4 : 4000 < t.size
  · have i4 : (4000 : Int) < (t.size : Int) := by omega
    have Hn := hide (no_long h4)
    have p0 := Row.new w #[.string ⟨#[]⟩, .string ⟨#[]⟩, .int .i64 0, .slice none 0 0] 25
    have B0 := (Below.refl w.heap.size w).alloc (Nat.le_refl _) (.cells #[.string ⟨#[]⟩, .string ⟨#[]⟩, .int .i64 0, .slice none 0 0] 25)
    go_enter Tryz.func10, Tryz.ntmps10
    go_wp2
    have q0 := p0.cell 0
    have q1 := p0.cell 1
    have q2 := p0.cell 2
    have q3 := p0.cell 3
    refine bodyPost_ret (v := .tuple #[.agg #[.string ⟨#[]⟩, .string ⟨#[]⟩, .int .i64 0, .slice none 0 0], .bool false]) (by simp [results, Tryz.results10, go_sem, q0, q1, q2, q3]) rfl ?_
    exact PaAns.no (unhide Hn) B0
  have i4 : ¬ ((4000 : Int) < (t.size : Int)) := by omega
  have Ht := hide (show (toL t).length ≤ 4000 by rw [toL_size]; omega)
  have R0 := Row.new w #[.string ⟨#[]⟩, .string ⟨#[]⟩, .int .i64 0, .slice none 0 0] 25
  have B0 := (Below.refl w.heap.size w).alloc (Nat.le_refl _) (.cells #[.string ⟨#[]⟩, .string ⟨#[]⟩, .int .i64 0, .slice none 0 0] 25)
  have z0 : (w.alloc (.cells #[.string ⟨#[]⟩, .string ⟨#[]⟩, .int .i64 0, .slice none 0 0] 25)).heap.size = w.heap.size + 1 := by simp
  go_enter Tryz.func10, Tryz.ntmps10
  go_wp2_with fail
  generalize w.alloc (.cells #[.string ⟨#[]⟩, .string ⟨#[]⟩, .int .i64 0, .slice none 0 0] 25) = w0 at R0 B0 z0 ⊢
  refine (l1split_any t 32 _ ht).mono ?_
  rintro e w1 ⟨x, cx, rfl, ho, hb1⟩
  have R1 := R0.after hb1 (Nat.le_refl _)
  have B1 := B0.trans (hb1.mono B0.size)
  have s1 := hb1.size
  have st := Strs.of_owns ho (parts_sizes 32 ht)
  clear ho R0 B0 hb1
  by_cases h5 : (splitC 32 (toL t)).length = 4
  case neg =>
    have i5 : ¬ (((splitC 32 (toL t)).length : Int) = 4) := by omega
    have Hn := hide (no_four h5)
    clear st
    have f := fun j => R1.frozen j
    have q0 := R1.cell 0
    have q1 := R1.cell 1
    have q2 := R1.cell 2
    have q3 := R1.cell 3
    simp at q0 q1 q2 q3
    have R' := put4_row R1 (.string ⟨#[]⟩) (.string ⟨#[]⟩) (.int .i64 0) (.slice none 0 0)
    have g0 := R'.cell 0
    have g1 := R'.cell 1
    have g2 := R'.cell 2
    have g3 := R'.cell 3
    simp only [put4] at g0 g1 g2 g3
    simp at g0 g1 g2 g3
    clear R'
    go_wp2_with fail
    refine bodyPost_ret (v := .tuple #[.agg #[.string ⟨#[]⟩, .string ⟨#[]⟩, .int .i64 0, .slice none 0 0], .bool false]) (by simp [results, Tryz.results10, go_sem, g0, g1, g2, g3]) rfl ?_
    exact PaAns.no (unhide Hn) (put4_below B1 (Nat.le_refl _) (.string ⟨#[]⟩) (.string ⟨#[]⟩) (.int .i64 0) (.slice none 0 0))
  obtain ⟨p0, p1, p2, p3, hp⟩ := four h5
  have Hz := hide (fun (p : List UInt8) (h : p ∈ splitC 32 (toL t)) => splitC_le h)
  rw [hp] at st Hz ⊢
  clear h5
  have Hp := hide hp
  clear hp
  have k0 : p0.size ≤ t.size := by have := unhide Hz (toL p0) (by simp); rw [toL_size, toL_size] at this; exact this
  have k1 : p1.size ≤ t.size := by have := unhide Hz (toL p1) (by simp); rw [toL_size, toL_size] at this; exact this
  have k2 : p2.size ≤ t.size := by have := unhide Hz (toL p2) (by simp); rw [toL_size, toL_size] at this; exact this
  have k3 : p3.size ≤ t.size := by have := unhide Hz (toL p3) (by simp); rw [toL_size, toL_size] at this; exact this
  clear Hz
  simp only [List.map_cons, List.map_nil, ofL_toL, List.length_cons, List.length_nil, Nat.zero_add, Nat.reduceAdd] at st ⊢
  obtain ⟨b, off, ha, _, hc⟩ := st.at (by omega)
  have c0 := hc 0 (by omega)
  have c1 := hc 1 (by omega)
  have c2 := hc 2 (by omega)
  have c3 := hc 3 (by omega)
  simp only [nth, List.getD_cons_zero, List.getD_cons_succ, Nat.add_zero] at c0 c1 c2 c3
  subst ha
  clear hc st
  have HP := hide (fun (cl us : ByteArray) (lv : Int) (K : List ByteArray) (h : AskOf (toL t) cl us lv K) => sp_of_four (unhide Hp) h)
  go_wp2_with fail
  refine (l1after_any p0 _ _ (by unfold maxLen; omega) (by decide)).mono ?_
  rintro e w' ⟨⟨a, o0, rfl, a0, n0, z1⟩, hw'⟩
  rw [hw']
  clear hw' w'
  have A0 := hide a0
  have N0 := hide n0
  clear a0 n0
  go_wp2_with fail
  refine (l1after_any p1 _ _ (by unfold maxLen; omega) (by decide)).mono ?_
  rintro e w' ⟨⟨b', o1, rfl, a1, n1, z2⟩, hw'⟩
  rw [hw']
  clear hw' w'
  have A1 := hide a1
  have N1 := hide n1
  clear a1 n1
  go_wp2_with fail
  refine (l1after_any p2 _ _ (by unfold maxLen; omega) (by decide)).mono ?_
  rintro e w' ⟨⟨d, o2, rfl, a2, n2, z3⟩, hw'⟩
  rw [hw']
  clear hw' w'
  have A2 := hide a2
  have N2 := hide n2
  clear a2 n2
  go_wp2_with fail
  refine (l1after_any p3 _ _ (by unfold maxLen; omega) (by decide)).mono ?_
  rintro e w' ⟨⟨ls, o3, rfl, a3, n3, z4⟩, hw'⟩
  rw [hw']
  clear hw' w'
  have A3 := hide a3
  have N3 := hide n3
  clear a3 n3
  clear c0 c1 c2 c3
  cases o0
  · have f := fun j => R1.frozen j
    have q0 := R1.cell 0
    have q1 := R1.cell 1
    have q2 := R1.cell 2
    have q3 := R1.cell 3
    simp at q0 q1 q2 q3
    have R' := put4_row R1 (.string ⟨#[]⟩) (.string ⟨#[]⟩) (.int .i64 0) (.slice none 0 0)
    have g0 := R'.cell 0
    have g1 := R'.cell 1
    have g2 := R'.cell 2
    have g3 := R'.cell 3
    simp only [put4] at g0 g1 g2 g3
    simp at g0 g1 g2 g3
    clear R'
    go_wp2_with fail
    refine bodyPost_ret (v := .tuple #[.agg #[.string ⟨#[]⟩, .string ⟨#[]⟩, .int .i64 0, .slice none 0 0], .bool false]) (by simp [results, Tryz.results10, go_sem, g0, g1, g2, g3]) rfl ?_
    exact PaAns.no (fun cl us lv K h => by obtain ⟨_, _, q, _⟩ := unhide HP cl us lv K h; exact unhide N0 (by first | rfl | trivial) _ q) (put4_below B1 (Nat.le_refl _) (.string ⟨#[]⟩) (.string ⟨#[]⟩) (.int .i64 0) (.slice none 0 0))
  cases o1
  · have f := fun j => R1.frozen j
    have q0 := R1.cell 0
    have q1 := R1.cell 1
    have q2 := R1.cell 2
    have q3 := R1.cell 3
    simp at q0 q1 q2 q3
    have R' := put4_row R1 (.string ⟨#[]⟩) (.string ⟨#[]⟩) (.int .i64 0) (.slice none 0 0)
    have g0 := R'.cell 0
    have g1 := R'.cell 1
    have g2 := R'.cell 2
    have g3 := R'.cell 3
    simp only [put4] at g0 g1 g2 g3
    simp at g0 g1 g2 g3
    clear R'
    go_wp2_with fail
    refine bodyPost_ret (v := .tuple #[.agg #[.string ⟨#[]⟩, .string ⟨#[]⟩, .int .i64 0, .slice none 0 0], .bool false]) (by simp [results, Tryz.results10, go_sem, g0, g1, g2, g3]) rfl ?_
    exact PaAns.no (fun cl us lv K h => by obtain ⟨_, _, _, q, _⟩ := unhide HP cl us lv K h; exact unhide N1 (by first | rfl | trivial) _ q) (put4_below B1 (Nat.le_refl _) (.string ⟨#[]⟩) (.string ⟨#[]⟩) (.int .i64 0) (.slice none 0 0))
  cases o2
  · have f := fun j => R1.frozen j
    have q0 := R1.cell 0
    have q1 := R1.cell 1
    have q2 := R1.cell 2
    have q3 := R1.cell 3
    simp at q0 q1 q2 q3
    have R' := put4_row R1 (.string ⟨#[]⟩) (.string ⟨#[]⟩) (.int .i64 0) (.slice none 0 0)
    have g0 := R'.cell 0
    have g1 := R'.cell 1
    have g2 := R'.cell 2
    have g3 := R'.cell 3
    simp only [put4] at g0 g1 g2 g3
    simp at g0 g1 g2 g3
    clear R'
    go_wp2_with fail
    refine bodyPost_ret (v := .tuple #[.agg #[.string ⟨#[]⟩, .string ⟨#[]⟩, .int .i64 0, .slice none 0 0], .bool false]) (by simp [results, Tryz.results10, go_sem, g0, g1, g2, g3]) rfl ?_
    exact PaAns.no (fun cl us lv K h => by obtain ⟨_, _, _, _, q, _⟩ := unhide HP cl us lv K h; exact unhide N2 (by first | rfl | trivial) _ q) (put4_below B1 (Nat.le_refl _) (.string ⟨#[]⟩) (.string ⟨#[]⟩) (.int .i64 0) (.slice none 0 0))
  cases o3
  · have f := fun j => R1.frozen j
    have q0 := R1.cell 0
    have q1 := R1.cell 1
    have q2 := R1.cell 2
    have q3 := R1.cell 3
    simp at q0 q1 q2 q3
    have R' := put4_row R1 (.string ⟨#[]⟩) (.string ⟨#[]⟩) (.int .i64 0) (.slice none 0 0)
    have g0 := R'.cell 0
    have g1 := R'.cell 1
    have g2 := R'.cell 2
    have g3 := R'.cell 3
    simp only [put4] at g0 g1 g2 g3
    simp at g0 g1 g2 g3
    clear R'
    go_wp2_with fail
    refine bodyPost_ret (v := .tuple #[.agg #[.string ⟨#[]⟩, .string ⟨#[]⟩, .int .i64 0, .slice none 0 0], .bool false]) (by simp [results, Tryz.results10, go_sem, g0, g1, g2, g3]) rfl ?_
    exact PaAns.no (fun cl us lv K h => by obtain ⟨_, _, _, _, _, q, _⟩ := unhide HP cl us lv K h; exact unhide N3 (by first | rfl | trivial) _ q) (put4_below B1 (Nat.le_refl _) (.string ⟨#[]⟩) (.string ⟨#[]⟩) (.int .i64 0) (.slice none 0 0))
  clear N0 N1 N2 N3
  have E0 := hide (unhide A0 (by first | rfl | trivial))
  have E1 := hide (unhide A1 (by first | rfl | trivial))
  have E2 := hide (unhide A2 (by first | rfl | trivial))
  have E3 := hide (unhide A3 (by first | rfl | trivial))
  clear A0 A1 A2 A3
  have HL := hide (fun (cl us : ByteArray) (lv : Int) (K : List ByteArray) (h : AskOf (toL t) cl us lv K) => by
    obtain ⟨d', l', q0, q1, q2, q3, v1, v2, hd, hl⟩ := unhide HP cl us lv K h
    have f0 : cl = a := toL_inj ((List.append_right_inj lbC).1 (q0.symm.trans (unhide E0)))
    have f1 : us = b' := toL_inj ((List.append_right_inj lbU).1 (q1.symm.trans (unhide E1)))
    have f2 : d' = toL d := (List.append_right_inj lbL).1 (q2.symm.trans (unhide E2))
    have f3 : l' = toL ls := (List.append_right_inj lbA).1 (q3.symm.trans (unhide E3))
    rw [f0] at v1
    rw [f1] at v2
    rw [f2] at hd
    rw [f3] at hl
    exact (show vnB a = true ∧ vnB b' = true ∧ lvOK (toL d) = true ∧ LsOK (toL ls) K from ⟨v1, v2, hd, hl⟩))
  clear HP
  have ka : a.size ≤ maxLen := by unfold maxLen; omega
  have kb : b'.size ≤ maxLen := by unfold maxLen; omega
  cases va : vnB a
  · have Va := hide va
    clear va
    go_wp2_with fail
    refine (sValidName_any _ _ ka).mono ?_
    rintro e w' ⟨rfl, hw'⟩
    rw [unhide Va, hw']
    clear hw' w'
    have f := fun j => R1.frozen j
    have q0 := R1.cell 0
    have q1 := R1.cell 1
    have q2 := R1.cell 2
    have q3 := R1.cell 3
    simp at q0 q1 q2 q3
    have R' := put4_row R1 (.string ⟨#[]⟩) (.string ⟨#[]⟩) (.int .i64 0) (.slice none 0 0)
    have g0 := R'.cell 0
    have g1 := R'.cell 1
    have g2 := R'.cell 2
    have g3 := R'.cell 3
    simp only [put4] at g0 g1 g2 g3
    simp at g0 g1 g2 g3
    clear R'
    go_wp2_with fail
    refine bodyPost_ret (v := .tuple #[.agg #[.string ⟨#[]⟩, .string ⟨#[]⟩, .int .i64 0, .slice none 0 0], .bool false]) (by simp [results, Tryz.results10, go_sem, g0, g1, g2, g3]) rfl ?_
    exact PaAns.no (fun cl us lv K h => by have := (unhide HL cl us lv K h).1; rw [unhide Va] at this; cases this) (put4_below B1 (Nat.le_refl _) (.string ⟨#[]⟩) (.string ⟨#[]⟩) (.int .i64 0) (.slice none 0 0))
  have Va := hide va
  clear va
  go_wp2_with fail
  refine (sValidName_any _ _ ka).mono ?_
  rintro e w' ⟨rfl, hw'⟩
  rw [unhide Va, hw']
  clear hw' w'
  cases vb : vnB b'
  · have Vb := hide vb
    clear vb
    go_wp2_with fail
    refine (sValidName_any _ _ kb).mono ?_
    rintro e w' ⟨rfl, hw'⟩
    rw [unhide Vb, hw']
    clear hw' w'
    have f := fun j => R1.frozen j
    have q0 := R1.cell 0
    have q1 := R1.cell 1
    have q2 := R1.cell 2
    have q3 := R1.cell 3
    simp at q0 q1 q2 q3
    have R' := put4_row R1 (.string ⟨#[]⟩) (.string ⟨#[]⟩) (.int .i64 0) (.slice none 0 0)
    have g0 := R'.cell 0
    have g1 := R'.cell 1
    have g2 := R'.cell 2
    have g3 := R'.cell 3
    simp only [put4] at g0 g1 g2 g3
    simp at g0 g1 g2 g3
    clear R'
    go_wp2_with fail
    refine bodyPost_ret (v := .tuple #[.agg #[.string ⟨#[]⟩, .string ⟨#[]⟩, .int .i64 0, .slice none 0 0], .bool false]) (by simp [results, Tryz.results10, go_sem, g0, g1, g2, g3]) rfl ?_
    exact PaAns.no (fun cl us lv K h => by have := (unhide HL cl us lv K h).2.1; rw [unhide Vb] at this; cases this) (put4_below B1 (Nat.le_refl _) (.string ⟨#[]⟩) (.string ⟨#[]⟩) (.int .i64 0) (.slice none 0 0))
  have Vb := hide vb
  clear vb
  go_wp2_with fail
  refine (sValidName_any _ _ kb).mono ?_
  rintro e w' ⟨rfl, hw'⟩
  rw [unhide Vb, hw']
  clear hw' w'
  go_wp2_with fail
  refine (l1digits_any d _ (by omega)).mono ?_
  rintro e w' ⟨⟨n, od, rfl, d1, d2⟩, hw'⟩
  rw [hw']
  clear hw' w'
  have D1 := hide d1
  have D2 := hide d2
  clear d1 d2
  have HN := hide (fun (h : lvOK (toL d) = false) (cl us : ByteArray) (lv : Int) (K : List ByteArray) (k : AskOf (toL t) cl us lv K) => (show False by
    have := (unhide HL cl us lv K k).2.2.1
    rw [h] at this; cases this))
  cases od
  · have f := fun j => R1.frozen j
    have q0 := R1.cell 0
    have q1 := R1.cell 1
    have q2 := R1.cell 2
    have q3 := R1.cell 3
    simp at q0 q1 q2 q3
    have R' := put4_row R1 (.string ⟨#[]⟩) (.string ⟨#[]⟩) (.int .i64 0) (.slice none 0 0)
    have g0 := R'.cell 0
    have g1 := R'.cell 1
    have g2 := R'.cell 2
    have g3 := R'.cell 3
    simp only [put4] at g0 g1 g2 g3
    simp at g0 g1 g2 g3
    clear R'
    go_wp2_with fail
    refine bodyPost_ret (v := .tuple #[.agg #[.string ⟨#[]⟩, .string ⟨#[]⟩, .int .i64 0, .slice none 0 0], .bool false]) (by simp [results, Tryz.results10, go_sem, g0, g1, g2, g3]) rfl ?_
    exact PaAns.no (unhide HN (unhide D2 (by first | rfl | trivial))) (put4_below B1 (Nat.le_refl _) (.string ⟨#[]⟩) (.string ⟨#[]⟩) (.int .i64 0) (.slice none 0 0))
  obtain ⟨g1, g2, g3⟩ := unhide D1 (by first | rfl | trivial)
  clear D1 D2
  have G1 := hide g1
  have G3 := hide g3
  clear g1 g3
  by_cases h7 : 7 < d.size
  · have i7 : (7 : Int) < (d.size : Int) := by omega
    have Hf := hide (lvOK_long (l := toL d) (by rw [toL_size]; omega))
    have f := fun j => R1.frozen j
    have q0 := R1.cell 0
    have q1 := R1.cell 1
    have q2 := R1.cell 2
    have q3 := R1.cell 3
    simp at q0 q1 q2 q3
    have R' := put4_row R1 (.string ⟨#[]⟩) (.string ⟨#[]⟩) (.int .i64 0) (.slice none 0 0)
    have g0 := R'.cell 0
    have g1 := R'.cell 1
    have g2 := R'.cell 2
    have g3 := R'.cell 3
    simp only [put4] at g0 g1 g2 g3
    simp at g0 g1 g2 g3
    clear R'
    go_wp2_with fail
    refine bodyPost_ret (v := .tuple #[.agg #[.string ⟨#[]⟩, .string ⟨#[]⟩, .int .i64 0, .slice none 0 0], .bool false]) (by simp [results, Tryz.results10, go_sem, g0, g1, g2, g3]) rfl ?_
    exact PaAns.no (unhide HN (unhide Hf)) (put4_below B1 (Nat.le_refl _) (.string ⟨#[]⟩) (.string ⟨#[]⟩) (.int .i64 0) (.slice none 0 0))
  have i7 : ¬ ((7 : Int) < (d.size : Int)) := by omega
  by_cases h1 : 1 < d.size
  · have i1 : (1 : Int) < (d.size : Int) := by omega
    have Hh := hide (head_byte d (by omega))
    by_cases hz : ((d[0]'(by omega)).toNat : Int) = 48
    · have ez : d[0]'(by omega) = 48 := UInt8.toNat_inj.1 (by have : (48 : UInt8).toNat = 48 := rfl; omega)
      have Hf := hide (lvOK_zero (l := toL d) (by rw [toL_size]; omega) (by rw [unhide Hh, ez]))
      clear ez
      have f := fun j => R1.frozen j
      have q0 := R1.cell 0
      have q1 := R1.cell 1
      have q2 := R1.cell 2
      have q3 := R1.cell 3
      simp at q0 q1 q2 q3
      have R' := put4_row R1 (.string ⟨#[]⟩) (.string ⟨#[]⟩) (.int .i64 0) (.slice none 0 0)
      have g0 := R'.cell 0
      have g1 := R'.cell 1
      have g2 := R'.cell 2
      have g3 := R'.cell 3
      simp only [put4] at g0 g1 g2 g3
      simp at g0 g1 g2 g3
      clear R'
      go_wp2_with fail
      refine bodyPost_ret (v := .tuple #[.agg #[.string ⟨#[]⟩, .string ⟨#[]⟩, .int .i64 0, .slice none 0 0], .bool false]) (by simp [results, Tryz.results10, go_sem, g0, g1, g2, g3]) rfl ?_
      exact PaAns.no (unhide HN (unhide Hf)) (put4_below B1 (Nat.le_refl _) (.string ⟨#[]⟩) (.string ⟨#[]⟩) (.int .i64 0) (.slice none 0 0))
    · have Hv := hide (lvOK_of (l := toL d) (by rw [toL_size]; omega) (by rw [toL_size]; omega) (unhide G1) (.inr (by
        rw [unhide Hh]
        intro e
        simp only [Option.some.injEq] at e
        rw [e] at hz
        exact hz rfl)))
      have hz' : (((d[0]'(by omega)).toNat : Int) == 48) = false := by rw [beq_eq_false_iff_ne]; exact hz
      go_wp2_with fail
      refine (l1list_any ls _ (by omega)).mono ?_
      rintro e w5 ⟨y, cy, K, ol, rfl, ho, hb5, l1, l2⟩
      have R5 := R1.after hb5 (Nat.le_refl _)
      have B5 := B1.trans (hb5.mono B1.size)
      have O5 := owns_mono (base' := w.heap.size + 1) ho (by omega)
      have L1 := hide l1
      have L2 := hide l2
      clear l1 l2 hb5 ho
      cases ol
      · have f := fun j => R5.frozen j
        have q0 := R5.cell 0
        have q1 := R5.cell 1
        have q2 := R5.cell 2
        have q3 := R5.cell 3
        simp at q0 q1 q2 q3
        have R' := put4_row R5 (.string ⟨#[]⟩) (.string ⟨#[]⟩) (.int .i64 0) (.slice none 0 0)
        have g0 := R'.cell 0
        have g1 := R'.cell 1
        have g2 := R'.cell 2
        have g3 := R'.cell 3
        simp only [put4] at g0 g1 g2 g3
        simp at g0 g1 g2 g3
        clear R'
        go_wp2_with fail
        refine bodyPost_ret (v := .tuple #[.agg #[.string ⟨#[]⟩, .string ⟨#[]⟩, .int .i64 0, .slice none 0 0], .bool false]) (by simp [results, Tryz.results10, go_sem, g0, g1, g2, g3]) rfl ?_
        exact PaAns.no (fun cl us lv K h => unhide L2 (by first | rfl | trivial) K (unhide HL cl us lv K h).2.2.2) (put4_below B5 (Nat.le_refl _) (.string ⟨#[]⟩) (.string ⟨#[]⟩) (.int .i64 0) (.slice none 0 0))
      have f := fun j => R5.frozen j
      have q0 := R5.cell 0
      have q1 := R5.cell 1
      have q2 := R5.cell 2
      have q3 := R5.cell 3
      simp at q0 q1 q2 q3
      have R' := put4_row R5 (.string a) (.string b') (.int .i64 n) (.slice y K.length cy)
      have g0 := R'.cell 0
      have g1 := R'.cell 1
      have g2 := R'.cell 2
      have g3 := R'.cell 3
      simp only [put4] at g0 g1 g2 g3
      simp at g0 g1 g2 g3
      clear R'
      go_wp2_with fail
      refine bodyPost_ret (v := .tuple #[.agg #[.string a, .string b', .int .i64 n, .slice y K.length cy], .bool true]) (by simp [results, Tryz.results10, go_sem, g0, g1, g2, g3]) rfl ?_
      refine ⟨a, b', n, y, cy, K, true, rfl, owns_mono (put4_owns O5 (Nat.lt_succ_self _) (.string a) (.string b') (.int .i64 n) (.slice y K.length cy)) (Nat.le_succ _), put4_below B5 (Nat.le_refl _) (.string a) (.string b') (.int .i64 n) (.slice y K.length cy), AskAns.yes ?_⟩
      rw [unhide G3]
      exact AskOf.of_parts (unhide Ht) (unhide Hp) (unhide E0) (unhide E1) (unhide E2) (unhide E3) (unhide Va) (unhide Vb) (unhide Hv) (unhide L1 (by first | rfl | trivial))
  · have i1 : ¬ ((1 : Int) < (d.size : Int)) := by omega
    have Hv := hide (lvOK_of (l := toL d) (by rw [toL_size]; omega) (by rw [toL_size]; omega) (unhide G1) (.inl (by rw [toL_size]; omega)))
    go_wp2_with fail
    refine (l1list_any ls _ (by omega)).mono ?_
    rintro e w5 ⟨y, cy, K, ol, rfl, ho, hb5, l1, l2⟩
    have R5 := R1.after hb5 (Nat.le_refl _)
    have B5 := B1.trans (hb5.mono B1.size)
    have O5 := owns_mono (base' := w.heap.size + 1) ho (by omega)
    have L1 := hide l1
    have L2 := hide l2
    clear l1 l2 hb5 ho
    cases ol
    · have f := fun j => R5.frozen j
      have q0 := R5.cell 0
      have q1 := R5.cell 1
      have q2 := R5.cell 2
      have q3 := R5.cell 3
      simp at q0 q1 q2 q3
      have R' := put4_row R5 (.string ⟨#[]⟩) (.string ⟨#[]⟩) (.int .i64 0) (.slice none 0 0)
      have g0 := R'.cell 0
      have g1 := R'.cell 1
      have g2 := R'.cell 2
      have g3 := R'.cell 3
      simp only [put4] at g0 g1 g2 g3
      simp at g0 g1 g2 g3
      clear R'
      go_wp2_with fail
      refine bodyPost_ret (v := .tuple #[.agg #[.string ⟨#[]⟩, .string ⟨#[]⟩, .int .i64 0, .slice none 0 0], .bool false]) (by simp [results, Tryz.results10, go_sem, g0, g1, g2, g3]) rfl ?_
      exact PaAns.no (fun cl us lv K h => unhide L2 (by first | rfl | trivial) K (unhide HL cl us lv K h).2.2.2) (put4_below B5 (Nat.le_refl _) (.string ⟨#[]⟩) (.string ⟨#[]⟩) (.int .i64 0) (.slice none 0 0))
    have f := fun j => R5.frozen j
    have q0 := R5.cell 0
    have q1 := R5.cell 1
    have q2 := R5.cell 2
    have q3 := R5.cell 3
    simp at q0 q1 q2 q3
    have R' := put4_row R5 (.string a) (.string b') (.int .i64 n) (.slice y K.length cy)
    have g0 := R'.cell 0
    have g1 := R'.cell 1
    have g2 := R'.cell 2
    have g3 := R'.cell 3
    simp only [put4] at g0 g1 g2 g3
    simp at g0 g1 g2 g3
    clear R'
    go_wp2_with fail
    refine bodyPost_ret (v := .tuple #[.agg #[.string a, .string b', .int .i64 n, .slice y K.length cy], .bool true]) (by simp [results, Tryz.results10, go_sem, g0, g1, g2, g3]) rfl ?_
    refine ⟨a, b', n, y, cy, K, true, rfl, owns_mono (put4_owns O5 (Nat.lt_succ_self _) (.string a) (.string b') (.int .i64 n) (.slice y K.length cy)) (Nat.le_succ _), put4_below B5 (Nat.le_refl _) (.string a) (.string b') (.int .i64 n) (.slice y K.length cy), AskAns.yes ?_⟩
    rw [unhide G3]
    exact AskOf.of_parts (unhide Ht) (unhide Hp) (unhide E0) (unhide E1) (unhide E2) (unhide E3) (unhide Va) (unhide Vb) (unhide Hv) (unhide L1 (by first | rfl | trivial))

end Go.Proofs.YtnahfogbemfngaaGreatDoor

/-
  The model's look at a typed node. Own work.
-/
import Derived.Test.YtpbopjgmiaoomaaGreatDoorMXAL
namespace Go.Proofs.YtpbopjgmiaoomaaGreatDoor
open Go.RowKit
set_option linter.unusedVariables false

set_option maxRecDepth 100000 in
set_option maxHeartbeats 3200000 in
theorem l2fieldsU_any (x : Nd) (an : Option Addr) (nn cn : Nat) (ak : Option Addr) (nk ck : Nat) (w : World) (hN : Strs w an nn cn x.names) (hK : nk = x.kids.length) (hs : x.text.size ≤ 1048576) (hk : nk ≤ 1048576) :
    Calls Tryz.prog 69 #[ndV x.op x.num x.text an nn cn ak nk ck, .bool true] w fun e w' => e = .returned (.bool (fieldsU x)) ∧ Below w.heap.size w w' := by
  have hn := hN.len
  obtain ⟨op, num, text, names, kids⟩ := x
  simp only at hN hK hs hn ⊢
  have R0 := Row.new w #[.int .i64 op, .int .i64 num, .string text, .slice an nn cn, .slice ak nk ck] 103
  have B0 := (Below.refl w.heap.size w).alloc (Nat.le_refl _) (.cells #[.int .i64 op, .int .i64 num, .string text, .slice an nn cn, .slice ak nk ck] 103)
  have z0 : (w.alloc (.cells #[.int .i64 op, .int .i64 num, .string text, .slice an nn cn, .slice ak nk ck] 103)).heap.size = w.heap.size + 1 := by simp
  have Hn := hide hn
  have HK := hide hK
  clear hn hK
  have HF := hide (show fieldsU ⟨op, num, text, names, kids⟩ = (decide ((kids.length : Int) = kidN op) && (if op = 1 then decide (text.size = 0) && decide (names.length = 0) else if op = 2 then quotedB text && decide (num = 0) && decide (names.length = 0) else if op = 3 then decide (num = 0 ∨ num = 1) && decide (text.size = 0) && decide (names.length = 0) else if op = 4 then setB names && decide (num = 0) && decide (text.size = 0) else if op = 5 then false else if op = 6 then decide (0 ≤ num ∧ num ≤ 5) && decide (text.size = 0) && decide (names.length = 0) else if op = 7 then decide (0 ≤ num ∧ num < 600) && decide (text.size = 0) && decide (names.length = 0) else decide (num = 0) && decide (text.size = 0) && decide (names.length = 0))) from rfl)
  rw [← unhide HK, ← unhide Hn] at HF
  generalize fieldsU ⟨op, num, text, names, kids⟩ = FB at HF ⊢
  unfold ndV
  go_enter Tryz.func69, Tryz.ntmps69
  go_wp2_with fail
  obtain ⟨c0, c1, c2, c3, c4, cf⟩ := row5 R0
  generalize w.alloc (.cells #[.int .i64 op, .int .i64 num, .string text, .slice an nn cn, .slice ak nk ck] 103) = W at *
  by_cases hkn : (nk : Int) = kidN op
  case neg =>
    have ek : ((nk : Int) != kidN op) = true := bne_iff_ne.2 hkn
    go_region_held3 (fun w' => w'.cell? ⟨w.heap.size, 4, none⟩ = some (.slice ak nk ck) ∧ w'.cell? ⟨w.heap.size, 0, none⟩ = some (.int .i64 op)) (go_keep)
      ((go_at_call 90; refine (l2kids_any _ _).mono ?_; rintro e w1 ⟨rfl, hw1⟩; rw [hw1]; clear hw1))
    all_goals
      go_wp2
      go_ret
      exact ⟨ret_bool (by rw [unhide HF, decide_eq_false hkn]; rfl), B0.drew⟩
  have ek : ((nk : Int) != kidN op) = false := by rw [hkn]; simp
  have Hkn := hide hkn
  clear hkn
  go_region_held3 (fun w' => w'.cell? ⟨w.heap.size, 4, none⟩ = some (.slice ak nk ck) ∧ w'.cell? ⟨w.heap.size, 0, none⟩ = some (.int .i64 op)) (go_keep)
    ((go_at_call 90; refine (l2kids_any _ _).mono ?_; rintro e w1 ⟨rfl, hw1⟩; rw [hw1]; clear hw1))
  have R1 : Row W.drew w.heap.size #[.int .i64 op, .int .i64 num, .string text, .slice an nn cn, .slice ak nk ck] 103 := ⟨R0.out⟩
  have B1 : Below w.heap.size w W.drew := B0.drew
  have N1 : Strs W.drew an nn cn names := (hN.below B0 (Nat.le_refl _)).drew'
  have z1 : W.drew.heap.size = w.heap.size + 1 := z0
  clear R0 B0 c0 c1 c2 c3 c4 cf hN z0
  generalize W.drew = W1 at R1 B1 N1 z1 ⊢
  have R2 := R1.alloc (.cells #[.int .i64 op, .int .i64 0, .string ⟨#[]⟩, .slice none 0 0, .slice none 0 0] 103)
  have B2 := B1.alloc (by omega) (.cells #[.int .i64 op, .int .i64 0, .string ⟨#[]⟩, .slice none 0 0, .slice none 0 0] 103)
  have N2 := N1.below ((Below.refl W1.heap.size W1).alloc (Nat.le_refl _) (.cells #[.int .i64 op, .int .i64 0, .string ⟨#[]⟩, .slice none 0 0, .slice none 0 0] 103)) (Nat.le_refl _)
  have Q2 := Row.new W1 #[.int .i64 op, .int .i64 0, .string ⟨#[]⟩, .slice none 0 0, .slice none 0 0] 103
  rw [z1] at Q2
  have z2 : (W1.alloc (.cells #[.int .i64 op, .int .i64 0, .string ⟨#[]⟩, .slice none 0 0, .slice none 0 0] 103)).heap.size = w.heap.size + 2 := by simp [z1]
  obtain ⟨c0, c1, c2, c3, c4, cf⟩ := row5 R1
  have tl := tl_nil text
  by_cases o1 : op = 1
  · subst o1
    have HF := hide ((unhide HF).trans (by rw [decide_eq_true (unhide Hkn), if_pos rfl, Bool.true_and]))
    go_wp2
    all_goals
      go_ret
      refine ⟨ret_bool ?_, B1.alloc (by omega) _⟩
      rw [unhide HF]
      have nb : ((nn : Int) == 0) = decide (nn = 0) := by rw [Bool.eq_iff_iff]; simp
      clear HF R1 R2 Q2 B1 B2 N1 N2 c0 c1 c2 c3 c4 cf
      simp_all
      try omega
  by_cases o2 : op = 2
  · subst o2
    have HF := hide ((unhide HF).trans (by rw [decide_eq_true (unhide Hkn), if_neg (by omega), if_pos rfl, Bool.true_and]))
    cases hq : quotedB text
    · have Hq := hide hq
      clear hq
      go_wp2_with (go_at_call 91; refine (l2quoted_any _ _ hs).mono ?_; rintro e w' ⟨rfl, hw⟩; rw [unhide Hq, hw]; clear hw)
      all_goals
        go_ret
        refine ⟨ret_bool ?_, B1.alloc (by omega) _⟩
        rw [unhide HF]
        have hq := unhide Hq
        have nb : ((nn : Int) == 0) = decide (nn = 0) := by rw [Bool.eq_iff_iff]; simp
        clear HF R1 R2 Q2 B1 B2 N1 N2 c0 c1 c2 c3 c4 cf
        simp_all
        try omega
    · have Hq := hide hq
      clear hq
      go_wp2_with (go_at_call 91; refine (l2quoted_any _ _ hs).mono ?_; rintro e w' ⟨rfl, hw⟩; rw [unhide Hq, hw]; clear hw)
      all_goals
        go_ret
        refine ⟨ret_bool ?_, B1.alloc (by omega) _⟩
        rw [unhide HF]
        have hq := unhide Hq
        have nb : ((nn : Int) == 0) = decide (nn = 0) := by rw [Bool.eq_iff_iff]; simp
        clear HF R1 R2 Q2 B1 B2 N1 N2 c0 c1 c2 c3 c4 cf
        simp_all
        try omega
  by_cases o3 : op = 3
  · subst o3
    have HF := hide ((unhide HF).trans (by rw [decide_eq_true (unhide Hkn), if_neg (by omega), if_neg (by omega), if_pos rfl, Bool.true_and]))
    go_wp2
    all_goals
      go_ret
      refine ⟨ret_bool ?_, B1.alloc (by omega) _⟩
      rw [unhide HF]
      have nb : ((nn : Int) == 0) = decide (nn = 0) := by rw [Bool.eq_iff_iff]; simp
      clear HF R1 R2 Q2 B1 B2 N1 N2 c0 c1 c2 c3 c4 cf
      simp_all
      try omega
  by_cases o4 : op = 4
  · subst o4
    have HF := hide ((unhide HF).trans (by rw [decide_eq_true (unhide Hkn), if_neg (by omega), if_neg (by omega), if_neg (by omega), if_pos rfl, Bool.true_and]))
    cases hq : setB names
    · have Hq := hide hq
      clear hq
      go_wp2_with (go_at_call 92; refine (sIsSet_any _ _ _ _ _ N2).mono ?_; rintro e w' ⟨rfl, hw⟩; rw [unhide Hq, hw]; clear hw)
      all_goals
        go_ret
        refine ⟨ret_bool ?_, B1.alloc (by omega) _⟩
        rw [unhide HF]
        have hq := unhide Hq
        have nb : ((nn : Int) == 0) = decide (nn = 0) := by rw [Bool.eq_iff_iff]; simp
        clear HF R1 R2 Q2 B1 B2 N1 N2 c0 c1 c2 c3 c4 cf
        simp_all
        try omega
    · have Hq := hide hq
      clear hq
      go_wp2_with (go_at_call 92; refine (sIsSet_any _ _ _ _ _ N2).mono ?_; rintro e w' ⟨rfl, hw⟩; rw [unhide Hq, hw]; clear hw)
      all_goals
        go_ret
        refine ⟨ret_bool ?_, B1.alloc (by omega) _⟩
        rw [unhide HF]
        have hq := unhide Hq
        have nb : ((nn : Int) == 0) = decide (nn = 0) := by rw [Bool.eq_iff_iff]; simp
        clear HF R1 R2 Q2 B1 B2 N1 N2 c0 c1 c2 c3 c4 cf
        simp_all
        try omega
  by_cases o5 : op = 5
  · subst o5
    have HF := hide ((unhide HF).trans (by rw [decide_eq_true (unhide Hkn), if_neg (by omega), if_neg (by omega), if_neg (by omega), if_neg (by omega), if_pos rfl, Bool.true_and]))
    go_wp2
    all_goals
      go_ret
      refine ⟨ret_bool ?_, B1.alloc (by omega) _⟩
      rw [unhide HF]
      simp
  by_cases o6 : op = 6
  · subst o6
    have HF := hide ((unhide HF).trans (by rw [decide_eq_true (unhide Hkn), if_neg (by omega), if_neg (by omega), if_neg (by omega), if_neg (by omega), if_neg (by omega), if_pos rfl, Bool.true_and]))
    go_wp2
    all_goals
      go_ret
      refine ⟨ret_bool ?_, B1.alloc (by omega) _⟩
      rw [unhide HF]
      have nb : ((nn : Int) == 0) = decide (nn = 0) := by rw [Bool.eq_iff_iff]; simp
      clear HF R1 R2 Q2 B1 B2 N1 N2 c0 c1 c2 c3 c4 cf
      simp_all
      try omega
  by_cases o7 : op = 7
  · subst o7
    have HF := hide ((unhide HF).trans (by rw [decide_eq_true (unhide Hkn), if_neg (by omega), if_neg (by omega), if_neg (by omega), if_neg (by omega), if_neg (by omega), if_neg (by omega), if_pos rfl, Bool.true_and]))
    go_wp2
    all_goals
      go_ret
      refine ⟨ret_bool ?_, B1.alloc (by omega) _⟩
      rw [unhide HF]
      have nb : ((nn : Int) == 0) = decide (nn = 0) := by rw [Bool.eq_iff_iff]; simp
      clear HF R1 R2 Q2 B1 B2 N1 N2 c0 c1 c2 c3 c4 cf
      simp_all
      try omega
  have HF := hide ((unhide HF).trans (by rw [decide_eq_true (unhide Hkn), if_neg o1, if_neg o2, if_neg o3, if_neg o4, if_neg o5, if_neg o6, if_neg o7, Bool.true_and]))
  have p1 := beq_eq_false_iff_ne.2 o1
  have p2 := beq_eq_false_iff_ne.2 o2
  have p3 := beq_eq_false_iff_ne.2 o3
  have p4 := beq_eq_false_iff_ne.2 o4
  have p5 := beq_eq_false_iff_ne.2 o5
  have p6 := beq_eq_false_iff_ne.2 o6
  have p7 := beq_eq_false_iff_ne.2 o7
  go_wp2
  all_goals
    go_ret
    refine ⟨ret_bool ?_, B1.alloc (by omega) _⟩
    rw [unhide HF]
    have nb : ((nn : Int) == 0) = decide (nn = 0) := by rw [Bool.eq_iff_iff]; simp
    clear HF R1 R2 Q2 B1 B2 N1 N2 c0 c1 c2 c3 c4 cf
    simp_all
    try omega

end Go.Proofs.YtpbopjgmiaoomaaGreatDoor

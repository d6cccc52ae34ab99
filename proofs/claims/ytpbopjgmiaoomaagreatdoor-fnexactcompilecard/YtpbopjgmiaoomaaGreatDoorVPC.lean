/-
  The walk over the program's fields of a node. Own work.
-/
import Derived.Test.YtpbopjgmiaoomaaGreatDoorVPB
namespace Go.Proofs.YtpbopjgmiaoomaaGreatDoor
open Go.RowKit
set_option linter.unusedVariables false

/-- the fields of a node, but for its kids -/
def wfB (x : Nd) : Bool :=
  if x.op = 1 then decide (0 ≤ x.num) && decide (x.text.size = 0) && decide (x.names.length = 0)
  else if x.op = 2 then quotedB x.text && decide (x.num = 0) && decide (x.names.length = 0)
  else if x.op = 3 then decide (x.num = 0 ∨ x.num = 1) && decide (x.text.size = 0) && decide (x.names.length = 0)
  else if x.op = 4 then setB x.names && decide (x.num = 0) && decide (x.text.size = 0)
  else if x.op = 5 then identB x.text && decide (x.num = 0) && decide (x.names.length = 0)
  else if x.op = 6 ∨ x.op = 7 then false
  else decide (x.num = 0) && decide (x.text.size = 0) && decide (x.names.length = 0)

set_option maxRecDepth 100000 in
set_option maxHeartbeats 3200000 in
theorem writtenFields_any (x : Nd) (an : Option Addr) (nn cn : Nat) (ak : Option Addr) (nk ck : Nat) (w : World) (hN : Strs w an nn cn x.names) (hs : x.text.size ≤ 1048576) :
    Calls Tryz.prog 81 #[ndV x.op x.num x.text an nn cn ak nk ck] w fun e w' => e = .returned (.bool (wfB x)) ∧ Below w.heap.size w w' := by
  have hn := hN.len
  obtain ⟨op, num, text, names, kids⟩ := x
  simp only at hN hs hn ⊢
  have R0 := Row.new w #[.int .i64 op, .int .i64 num, .string text, .slice an nn cn, .slice ak nk ck] 103
  have B0 := (Below.refl w.heap.size w).alloc (Nat.le_refl _) (.cells #[.int .i64 op, .int .i64 num, .string text, .slice an nn cn, .slice ak nk ck] 103)
  have N0 := hN.below B0 (Nat.le_refl _)
  have Hn := hide hn
  clear hn
  have HF := hide (show wfB ⟨op, num, text, names, kids⟩ = (if op = 1 then decide (0 ≤ num) && decide (text.size = 0) && decide (names.length = 0) else if op = 2 then quotedB text && decide (num = 0) && decide (names.length = 0) else if op = 3 then decide (num = 0 ∨ num = 1) && decide (text.size = 0) && decide (names.length = 0) else if op = 4 then setB names && decide (num = 0) && decide (text.size = 0) else if op = 5 then identB text && decide (num = 0) && decide (names.length = 0) else if op = 6 ∨ op = 7 then false else decide (num = 0) && decide (text.size = 0) && decide (names.length = 0)) from rfl)
  rw [← unhide Hn] at HF
  generalize wfB ⟨op, num, text, names, kids⟩ = FB at HF ⊢
  unfold ndV
  have tl := tl_nil text
  obtain ⟨c0, c1, c2, c3, c4, cf⟩ := row5 R0
  go_enter Tryz.func81, Tryz.ntmps81
  go_wp2_with fail
  generalize w.alloc (.cells #[.int .i64 op, .int .i64 num, .string text, .slice an nn cn, .slice ak nk ck] 103) = W at *
  go_region
  have R1 : Row W.drew w.heap.size #[.int .i64 op, .int .i64 num, .string text, .slice an nn cn, .slice ak nk ck] 103 := ⟨R0.out⟩
  have B1 : Below w.heap.size w W.drew := B0.drew
  have N1 : Strs W.drew an nn cn names := N0.drew'
  clear R0 B0 N0 c0 c1 c2 c3 c4 cf hN
  generalize W.drew = W1 at R1 B1 N1 ⊢
  obtain ⟨c0, c1, c2, c3, c4, cf⟩ := row5 R1
  by_cases o1 : op = 1
  · subst o1
    have HF := hide ((unhide HF).trans (by rw [if_pos rfl]))
    go_wp2
    all_goals
      go_ret
      refine ⟨ret_bool ?_, B1⟩
      rw [unhide HF]
      have ti : text.toList.isEmpty = decide (text.size = 0) := by rw [Bool.eq_iff_iff, List.isEmpty_iff, decide_eq_true_iff]; exact tl_nil text
      have nb : ((nn : Int) == 0) = decide (nn = 0) := by rw [Bool.eq_iff_iff]; simp
      clear HF R1 B1 N1 c0 c1 c2 c3 c4 cf
      simp_all
      try omega
  by_cases o2 : op = 2
  · subst o2
    have HF := hide ((unhide HF).trans (by rw [if_neg (by omega), if_pos rfl]))
    cases hq : quotedB text
    · have Hq := hide hq
      clear hq
      go_wp2_with (go_at_call 99; refine (nameBytes_any _ _ (by unfold maxLen; omega)).mono ?_; rintro e w2 ⟨rfl, hw⟩; rw [← quotedB_eq, unhide Hq, hw]; clear hw)
      all_goals
        go_ret
        refine ⟨ret_bool ?_, B1⟩
        rw [unhide HF]
        have hq := unhide Hq
        have ti : text.toList.isEmpty = decide (text.size = 0) := by rw [Bool.eq_iff_iff, List.isEmpty_iff, decide_eq_true_iff]; exact tl_nil text
        have nb : ((nn : Int) == 0) = decide (nn = 0) := by rw [Bool.eq_iff_iff]; simp
        clear HF R1 B1 N1 c0 c1 c2 c3 c4 cf
        simp_all
        try omega
    · have Hq := hide hq
      clear hq
      go_wp2_with (go_at_call 99; refine (nameBytes_any _ _ (by unfold maxLen; omega)).mono ?_; rintro e w2 ⟨rfl, hw⟩; rw [← quotedB_eq, unhide Hq, hw]; clear hw)
      all_goals
        go_ret
        refine ⟨ret_bool ?_, B1⟩
        rw [unhide HF]
        have hq := unhide Hq
        have ti : text.toList.isEmpty = decide (text.size = 0) := by rw [Bool.eq_iff_iff, List.isEmpty_iff, decide_eq_true_iff]; exact tl_nil text
        have nb : ((nn : Int) == 0) = decide (nn = 0) := by rw [Bool.eq_iff_iff]; simp
        clear HF R1 B1 N1 c0 c1 c2 c3 c4 cf
        simp_all
        try omega
  by_cases o3 : op = 3
  · subst o3
    have HF := hide ((unhide HF).trans (by rw [if_neg (by omega), if_neg (by omega), if_pos rfl]))
    go_wp2
    all_goals
      go_ret
      refine ⟨ret_bool ?_, B1⟩
      rw [unhide HF]
      have ti : text.toList.isEmpty = decide (text.size = 0) := by rw [Bool.eq_iff_iff, List.isEmpty_iff, decide_eq_true_iff]; exact tl_nil text
      have nb : ((nn : Int) == 0) = decide (nn = 0) := by rw [Bool.eq_iff_iff]; simp
      clear HF R1 B1 N1 c0 c1 c2 c3 c4 cf
      simp_all
      try omega
  by_cases o4 : op = 4
  · subst o4
    have HF := hide ((unhide HF).trans (by rw [if_neg (by omega), if_neg (by omega), if_neg (by omega), if_pos rfl]))
    cases hq : setB names
    · have Hq := hide hq
      clear hq
      go_wp2_with (go_at_call 101; refine (iIsSet_any _ _ _ _ _ N1).mono ?_; rintro e w2 ⟨rfl, hb2⟩; rw [unhide Hq]; have B2 := B1.trans (hb2.mono B1.size))
      all_goals
        go_ret
        refine ⟨ret_bool ?_, B2⟩
        rw [unhide HF]
        have hq := unhide Hq
        have ti : text.toList.isEmpty = decide (text.size = 0) := by rw [Bool.eq_iff_iff, List.isEmpty_iff, decide_eq_true_iff]; exact tl_nil text
        have nb : ((nn : Int) == 0) = decide (nn = 0) := by rw [Bool.eq_iff_iff]; simp
        clear HF R1 B1 N1 c0 c1 c2 c3 c4 cf
        simp_all
        try omega
    · have Hq := hide hq
      clear hq
      go_wp2_with (go_at_call 101; refine (iIsSet_any _ _ _ _ _ N1).mono ?_; rintro e w2 ⟨rfl, hb2⟩; rw [unhide Hq]; have B2 := B1.trans (hb2.mono B1.size))
      all_goals
        go_ret
        refine ⟨ret_bool ?_, B2⟩
        rw [unhide HF]
        have hq := unhide Hq
        have ti : text.toList.isEmpty = decide (text.size = 0) := by rw [Bool.eq_iff_iff, List.isEmpty_iff, decide_eq_true_iff]; exact tl_nil text
        have nb : ((nn : Int) == 0) = decide (nn = 0) := by rw [Bool.eq_iff_iff]; simp
        clear HF R1 B1 N1 c0 c1 c2 c3 c4 cf
        simp_all
        try omega
  by_cases o5 : op = 5
  · subst o5
    have HF := hide ((unhide HF).trans (by rw [if_neg (by omega), if_neg (by omega), if_neg (by omega), if_neg (by omega), if_pos rfl]))
    cases hq : identB text
    · have Hq := hide hq
      clear hq
      go_wp2_with (go_at_call 100; refine (couldBeName_any _ _ hs).mono ?_; rintro e w2 ⟨rfl, hw⟩; rw [unhide Hq, hw]; clear hw)
      all_goals
        go_ret
        refine ⟨ret_bool ?_, B1⟩
        rw [unhide HF]
        have hq := unhide Hq
        have ti : text.toList.isEmpty = decide (text.size = 0) := by rw [Bool.eq_iff_iff, List.isEmpty_iff, decide_eq_true_iff]; exact tl_nil text
        have nb : ((nn : Int) == 0) = decide (nn = 0) := by rw [Bool.eq_iff_iff]; simp
        clear HF R1 B1 N1 c0 c1 c2 c3 c4 cf
        simp_all
        try omega
    · have Hq := hide hq
      clear hq
      go_wp2_with (go_at_call 100; refine (couldBeName_any _ _ hs).mono ?_; rintro e w2 ⟨rfl, hw⟩; rw [unhide Hq, hw]; clear hw)
      all_goals
        go_ret
        refine ⟨ret_bool ?_, B1⟩
        rw [unhide HF]
        have hq := unhide Hq
        have ti : text.toList.isEmpty = decide (text.size = 0) := by rw [Bool.eq_iff_iff, List.isEmpty_iff, decide_eq_true_iff]; exact tl_nil text
        have nb : ((nn : Int) == 0) = decide (nn = 0) := by rw [Bool.eq_iff_iff]; simp
        clear HF R1 B1 N1 c0 c1 c2 c3 c4 cf
        simp_all
        try omega
  by_cases o6 : op = 6
  · subst o6
    have HF := hide ((unhide HF).trans (by rw [if_neg (by omega), if_neg (by omega), if_neg (by omega), if_neg (by omega), if_neg (by omega), if_pos (by omega)]))
    go_wp2
    all_goals
      go_ret
      refine ⟨ret_bool ?_, B1⟩
      rw [unhide HF]
      have ti : text.toList.isEmpty = decide (text.size = 0) := by rw [Bool.eq_iff_iff, List.isEmpty_iff, decide_eq_true_iff]; exact tl_nil text
      have nb : ((nn : Int) == 0) = decide (nn = 0) := by rw [Bool.eq_iff_iff]; simp
      clear HF R1 B1 N1 c0 c1 c2 c3 c4 cf
      simp_all
      try omega
  by_cases o7 : op = 7
  · subst o7
    have HF := hide ((unhide HF).trans (by rw [if_neg (by omega), if_neg (by omega), if_neg (by omega), if_neg (by omega), if_neg (by omega), if_pos (by omega)]))
    go_wp2
    all_goals
      go_ret
      refine ⟨ret_bool ?_, B1⟩
      rw [unhide HF]
      have ti : text.toList.isEmpty = decide (text.size = 0) := by rw [Bool.eq_iff_iff, List.isEmpty_iff, decide_eq_true_iff]; exact tl_nil text
      have nb : ((nn : Int) == 0) = decide (nn = 0) := by rw [Bool.eq_iff_iff]; simp
      clear HF R1 B1 N1 c0 c1 c2 c3 c4 cf
      simp_all
      try omega
  have HF := hide ((unhide HF).trans (by rw [if_neg o1, if_neg o2, if_neg o3, if_neg o4, if_neg o5, if_neg (by omega)]))
  have p1 := beq_eq_false_iff_ne.2 o1
  have p2 := beq_eq_false_iff_ne.2 o2
  have p3 := beq_eq_false_iff_ne.2 o3
  have p4 := beq_eq_false_iff_ne.2 o4
  have p5 := beq_eq_false_iff_ne.2 o5
  have p6 := beq_eq_false_iff_ne.2 o6
  have p7 := beq_eq_false_iff_ne.2 o7
  go_wp2
  all_goals
    go_ret
    refine ⟨ret_bool ?_, B1⟩
    rw [unhide HF]
    have ti : text.toList.isEmpty = decide (text.size = 0) := by rw [Bool.eq_iff_iff, List.isEmpty_iff, decide_eq_true_iff]; exact tl_nil text
    have nb : ((nn : Int) == 0) = decide (nn = 0) := by rw [Bool.eq_iff_iff]; simp
    clear HF R1 B1 N1 c0 c1 c2 c3 c4 cf
    simp_all
    try omega

end Go.Proofs.YtpbopjgmiaoomaaGreatDoor

/-
  FnSets: the law. Own work.
-/
import Derived.Test.YtajfgmlbeaogkacDoorDE
namespace Go.Proofs.YtajfgmlbeaogkacDoor
open Go.RowKit
set_option linter.unusedVariables false

variable {aS aO aZ aW : Addr}

theorem within_minus' {ss tt : List ByteArray} (h1 : setB ss = true) (h2 : setB tt = true) : withinB ss tt = (((minusL ss tt).length : Int) == 0) := by
  rw [within_minus h1 h2]
  by_cases h : (minusL ss tt).length = 0
  · rw [decide_eq_true h, h]; rfl
  · rw [decide_eq_false h]
    exact (beq_eq_false_iff_ne.2 (by omega)).symm

theorem setB_minus {ss tt : List ByteArray} (h1 : setB ss = true) (h2 : setB tt = true) : setB (minusL ss tt) = true := by
  have e1 : minusL ss tt = pick ss tt false := by simp [minusL, h1, h2]
  rw [e1]; exact setB_pick tt false h1

set_option maxRecDepth 100000 in
set_option maxHeartbeats 12800000 in
theorem fnSets_walk (a : Option Addr) (n c : Nat) (zs : List Int) (w : World) (hs : Sent w aS aO aZ aW) (h : Bytes w a n c zs) :
    Calls Tryd.prog 5 #[.slice a n c] w fun e w' => e = .returned (.bool true) ∧ Below w.heap.size w w' := by
  have hnn : n ≤ 9223372036854775807 := by have := h.cap; have := h.small; unfold maxLen at this; omega
  by_cases hl : 1048576 < n
  · have il : (1048576 : Int) < (n : Int) := by omega
    go_enter Tryd.func5, Tryd.ntmps5
    go_wp2_with fail
    go_ret
    exact ⟨rfl, Below.refl _ _⟩
  have il : ¬ ((1048576 : Int) < (n : Int)) := by omega
  have hn : n ≤ 1048576 := by omega
  clear hl
  go_enter Tryd.func5, Tryd.ntmps5
  go_wp2_with fail
  refine (DrawUnion_any a n c zs w h hn).mono ?_
  rintro e w1 ⟨x, cx, K, y, cy, L, rfl, lK, lL, NA, NB, B⟩
  have SK := NA.strs
  have SL := NB.strs
  have zK := hide NA.sizes
  have zL := hide NB.sizes
  have nK := owns_nil NA.own
  have nL := owns_nil NB.own
  have HS := hs.below B (Nat.le_refl _)
  clear h hs NA NB
  go_wp2_with fail
  refine (iUnion_any _ _ _ _ _ _ _ _ _ HS SK SL).mono ?_
  rintro e w2 ⟨xu, cu, U, k, rfl, ho, hb, hu⟩
  have SK := SK.below hb (Nat.le_refl _)
  have SL := SL.below hb (Nat.le_refl _)
  have HS := HS.below hb (Nat.le_refl _)
  have B := B.trans (hb.mono B.size)
  have SU := Strs.of_owns ho (hu.sizes (unhide zK) (unhide zL))
  have HU := hide hu
  clear ho hu
  clear hb
  go_wp2_with fail
  refine (sUnion_all _ _ _ _ _ _ _ _ _ SK SL nK nL).mono ?_
  rintro e w3 ⟨xw, cw, W, kw, rfl, ho, hb, hw⟩
  have SK := SK.below hb (Nat.le_refl _)
  have SL := SL.below hb (Nat.le_refl _)
  have SU := SU.below hb (Nat.le_refl _)
  have HS := HS.below hb (Nat.le_refl _)
  have B := B.trans (hb.mono B.size)
  obtain ⟨e1, e2⟩ := hw.unique (unhide HU)
  have e1 := e1.symm
  have e2 := e2.symm
  subst e1
  subst e2
  have SW := Strs.of_owns ho (hw.sizes (unhide zK) (unhide zL))
  clear ho hw
  clear hb
  go_wp2_with fail
  refine (sameNames_same _ _ _ _ _ _ _ SU SW).mono ?_
  rintro e w4 ⟨rfl, hb⟩
  have SK := SK.below hb (Nat.le_refl _)
  have SL := SL.below hb (Nat.le_refl _)
  have SU := SU.below hb (Nat.le_refl _)
  have SW := SW.below hb (Nat.le_refl _)
  have HS := HS.below hb (Nat.le_refl _)
  have B := B.trans (hb.mono B.size)
  clear hb
  clear SW
  cases hv : (setB K && setB L)
  · obtain ⟨e1, e2⟩ := (unhide HU).bad hv
    subst e1 e2
    have Hme := hide (show meetL K L = [] by simp [meetL, hv])
    have Hmi := hide (show minusL K L = [] by simp [minusL, hv])
    have Hwi := hide (show withinB K L = false by rw [withinB, ← Bool.and_assoc, hv]; rfl)
    clear HU hv SU
    go_wp2_with fail
    refine (iMeet_any _ _ _ _ _ _ _ _ _ SK SL).mono ?_
    rintro e w5 ⟨xm, cm, rfl, ho, hb⟩
    have SK := SK.below hb (Nat.le_refl _)
    have SL := SL.below hb (Nat.le_refl _)
    have HS := HS.below hb (Nat.le_refl _)
    have B := B.trans (hb.mono B.size)
    clear ho
    rw [unhide Hme]
    clear hb
    go_wp2_with fail
    refine (iMinus_any _ _ _ _ _ _ _ _ _ SK SL).mono ?_
    rintro e w6 ⟨xn, cn, rfl, ho, hb⟩
    have SK := SK.below hb (Nat.le_refl _)
    have SL := SL.below hb (Nat.le_refl _)
    have HS := HS.below hb (Nat.le_refl _)
    have B := B.trans (hb.mono B.size)
    clear ho
    rw [unhide Hmi]
    clear hb
    go_wp2_with fail
    refine (iWithin_any _ _ _ _ _ _ _ _ _ SK SL).mono ?_
    rintro e w7 ⟨rfl, hb⟩
    have SK := SK.below hb (Nat.le_refl _)
    have SL := SL.below hb (Nat.le_refl _)
    have HS := HS.below hb (Nat.le_refl _)
    have B := B.trans (hb.mono B.size)
    rw [unhide Hwi]
    clear hb
    go_wp2_with fail
    go_ret
    exact ⟨rfl, B⟩
  obtain ⟨M, hM, m1, m2⟩ := (unhide HU).good hv
  obtain ⟨s1, s2⟩ : setB K = true ∧ setB L = true := by rw [Bool.and_eq_true] at hv; exact hv
  have l1 := (setB_parts s1).1
  have l2 := (setB_parts s2).1
  have zm := hide (meet_sizes K L (unhide zK))
  have zn := hide (minus_sizes K L (unhide zK))
  have Hup := hide (union_parts s1 s2)
  have Hap := hide (meet_apart (ss := K) (tt := L))
  have Hsw := hide (meet_swap s1 s2)
  have Hwm := hide (within_minus' s1 s2)
  have Hml := hide (meet_left s1 s2)
  have Hmr := hide (meet_right s1 s2)
  have Hmw := hide (fun (hl : 64 < M.length) => make_wide s1 s2 hM hl)
  have Hmg := hide (fun (hl : M.length ≤ 64) => make_good s1 s2 hM hl)
  have Huw := hide (fun (hl : 64 < M.length) => union_wide s1 s2 hM hl)
  have Hug := hide (fun (hl : M.length ≤ 64) => union_good s1 s2 hM hl)
  have Hwl := hide (fun (hl : M.length ≤ 64) => within_left s1 s2 hM hl)
  have Hwr := hide (fun (hl : M.length ≤ 64) => within_right s1 s2 hM hl)
  have Hmb := hide (fun (hl : M.length ≤ 64) => minus_back s1 s2 hM hl)
  clear hv s1 s2 hM
  by_cases hl : 64 < M.length
  · obtain ⟨e1, e2⟩ := m1 hl
    subst e1 e2
    clear m1 m2 HU
    clear SU
    go_wp2_with fail
    refine (iMeet_any _ _ _ _ _ _ _ _ _ SK SL).mono ?_
    rintro e w5 ⟨xm, cm, rfl, ho, hb⟩
    have SK := SK.below hb (Nat.le_refl _)
    have SL := SL.below hb (Nat.le_refl _)
    have HS := HS.below hb (Nat.le_refl _)
    have B := B.trans (hb.mono B.size)
    have SM := Strs.of_owns ho (unhide zm)
    clear ho
    clear hb
    go_wp2_with fail
    refine (iMinus_any _ _ _ _ _ _ _ _ _ SK SL).mono ?_
    rintro e w6 ⟨xn, cn, rfl, ho, hb⟩
    have SK := SK.below hb (Nat.le_refl _)
    have SL := SL.below hb (Nat.le_refl _)
    have SM := SM.below hb (Nat.le_refl _)
    have HS := HS.below hb (Nat.le_refl _)
    have B := B.trans (hb.mono B.size)
    have SN := Strs.of_owns ho (unhide zn)
    clear ho
    clear hb
    go_wp2_with fail
    refine (iUnion_any _ _ _ _ _ _ _ _ _ HS SM SN).mono ?_
    rintro e w7 ⟨xp, cp, P, kp, rfl, ho, hb, hu⟩
    have SK := SK.below hb (Nat.le_refl _)
    have SL := SL.below hb (Nat.le_refl _)
    have SM := SM.below hb (Nat.le_refl _)
    have SN := SN.below hb (Nat.le_refl _)
    have HS := HS.below hb (Nat.le_refl _)
    have B := B.trans (hb.mono B.size)
    obtain ⟨e1, e2⟩ := hu.unique (unhide Hup)
    have e1 := e1.symm
    have e2 := e2.symm
    subst e1
    subst e2
    have SP := Strs.of_owns ho (unhide zK)
    clear ho hu
    clear hb
    go_wp2_with fail
    refine (sameNames_same _ _ _ _ _ _ _ SP SK).mono ?_
    rintro e w8 ⟨rfl, hb⟩
    have SK := SK.below hb (Nat.le_refl _)
    have SL := SL.below hb (Nat.le_refl _)
    have SM := SM.below hb (Nat.le_refl _)
    have SN := SN.below hb (Nat.le_refl _)
    have SP := SP.below hb (Nat.le_refl _)
    have HS := HS.below hb (Nat.le_refl _)
    have B := B.trans (hb.mono B.size)
    clear hb
    clear SP
    go_wp2_with fail
    refine (iMeet_any _ _ _ _ _ _ _ _ _ SM SN).mono ?_
    rintro e w9 ⟨xq, cq, rfl, ho, hb⟩
    have SK := SK.below hb (Nat.le_refl _)
    have SL := SL.below hb (Nat.le_refl _)
    have SM := SM.below hb (Nat.le_refl _)
    have SN := SN.below hb (Nat.le_refl _)
    have HS := HS.below hb (Nat.le_refl _)
    have B := B.trans (hb.mono B.size)
    clear ho
    rw [unhide Hap]
    clear hb
    go_wp2_with fail
    refine (iMeet_any _ _ _ _ _ _ _ _ _ SL SK).mono ?_
    rintro e w10 ⟨xr, cr, rfl, ho, hb⟩
    have SK := SK.below hb (Nat.le_refl _)
    have SL := SL.below hb (Nat.le_refl _)
    have SM := SM.below hb (Nat.le_refl _)
    have SN := SN.below hb (Nat.le_refl _)
    have HS := HS.below hb (Nat.le_refl _)
    have B := B.trans (hb.mono B.size)
    rw [unhide Hsw] at ho ⊢
    have SR := Strs.of_owns ho (unhide zm)
    clear ho
    clear hb
    go_wp2_with fail
    refine (sameNames_same _ _ _ _ _ _ _ SR SM).mono ?_
    rintro e w11 ⟨rfl, hb⟩
    have SK := SK.below hb (Nat.le_refl _)
    have SL := SL.below hb (Nat.le_refl _)
    have SM := SM.below hb (Nat.le_refl _)
    have SN := SN.below hb (Nat.le_refl _)
    have HS := HS.below hb (Nat.le_refl _)
    have B := B.trans (hb.mono B.size)
    clear hb
    clear SR
    go_wp2_with fail
    refine (iWithin_any _ _ _ _ _ _ _ _ _ SK SL).mono ?_
    rintro e w12 ⟨rfl, hb⟩
    have SK := SK.below hb (Nat.le_refl _)
    have SL := SL.below hb (Nat.le_refl _)
    have SM := SM.below hb (Nat.le_refl _)
    have SN := SN.below hb (Nat.le_refl _)
    have HS := HS.below hb (Nat.le_refl _)
    have B := B.trans (hb.mono B.size)
    rw [unhide Hwm]
    clear hb
    go_wp2_with fail
    refine (iWithin_any _ _ _ _ _ _ _ _ _ SM SK).mono ?_
    rintro e w13 ⟨rfl, hb⟩
    have SK := SK.below hb (Nat.le_refl _)
    have SL := SL.below hb (Nat.le_refl _)
    have SM := SM.below hb (Nat.le_refl _)
    have SN := SN.below hb (Nat.le_refl _)
    have HS := HS.below hb (Nat.le_refl _)
    have B := B.trans (hb.mono B.size)
    rw [unhide Hml]
    clear hb
    go_wp2_with fail
    refine (iWithin_any _ _ _ _ _ _ _ _ _ SM SL).mono ?_
    rintro e w14 ⟨rfl, hb⟩
    have SK := SK.below hb (Nat.le_refl _)
    have SL := SL.below hb (Nat.le_refl _)
    have SM := SM.below hb (Nat.le_refl _)
    have SN := SN.below hb (Nat.le_refl _)
    have HS := HS.below hb (Nat.le_refl _)
    have B := B.trans (hb.mono B.size)
    rw [unhide Hmr]
    clear hb
    clear SM
    clear SN
    have Hk := hide SK.len
    have Hl := hide SL.len
    go_wp2_with (at_builtin; refine append_strs rfl _ _ rfl w14.heap.size _ _ _ rfl (World.ownsRow_nil _ _ _ _) _ _ _ L rfl SL nL ?c1 (Nat.le_refl _) ?_)
    case c1 => omega
    intro v1 wa hown1 hgrow1
    have ba : Below w14.heap.size w14 wa := (Below.refl _ _).grown hgrow1 (Nat.le_refl _) (fun k hk => by cases hk)
    obtain ⟨xa, ca, hf1⟩ := owns_form hown1
    rw [hf1] at hown1 ⊢
    clear hf1 hgrow1
    go_wp2_with (at_builtin; refine append_strs rfl _ _ rfl w14.heap.size _ _ _ rfl hown1 _ _ _ K rfl (SK.below ba (Nat.le_refl _)) nK ?d1 ba.size ?_)
    case d1 => omega
    intro v2 w15 hown2 hgrow2
    have hb : Below w14.heap.size w14 w15 := ba.grown hgrow2 ba.size (fun k hk => (hown1.lt k hk).1)
    obtain ⟨xb, cb, hf2⟩ := owns_form hown2
    rw [hf2] at hown2 ⊢
    clear hgrow2 hown1 hf2 ba
    have SK := SK.below hb (Nat.le_refl _)
    have SL := SL.below hb (Nat.le_refl _)
    have HS := HS.below hb (Nat.le_refl _)
    have B := B.trans (hb.mono B.size)
    clear hb
    have ow : w15.ownsRow w14.heap.size 9 1 (.slice xb (L ++ K).length cb) (L ++ K).length ((L ++ K).map Value.string) := by
      rw [List.map_append, List.length_append]
      simpa using hown2
    have SA := Strs.of_owns ow (sizes_app (unhide zL) (unhide zK))
    have nA := owns_nil ow
    have pA := owns_spot ow
    have e3 : L.length + K.length = (L ++ K).length := (List.length_append ..).symm
    first | rw [e3] | (rw [Nat.zero_add]; rw [e3]) | skip
    clear ow hown2 e3
    have Hmk := hide (unhide Hmw hl)
    have Hun := hide (unhide Huw hl)
    generalize L ++ K = G at SA Hmk ⊢
    go_wp2_with fail
    refine (iMakeSet_all _ _ _ _ _ SA nA pA).mono ?_
    rintro e w16 ⟨xg, cg, G1, kg, rfl, ho, hb, hu⟩
    have SK := SK.below hb (Nat.le_refl _)
    have SL := SL.below hb (Nat.le_refl _)
    have HS := HS.below hb (Nat.le_refl _)
    have B := B.trans (hb.mono B.size)
    obtain ⟨e1, e2⟩ := hu.unique (unhide Hmk)
    have e1 := e1.symm
    have e2 := e2.symm
    subst e1
    subst e2
    clear ho hu
    clear hb
    go_wp2_with fail
    refine (iUnion_any _ _ _ _ _ _ _ _ _ HS SL SK).mono ?_
    rintro e w17 ⟨xy, cy', Y, ky, rfl, ho, hb, hu⟩
    have SK := SK.below hb (Nat.le_refl _)
    have SL := SL.below hb (Nat.le_refl _)
    have HS := HS.below hb (Nat.le_refl _)
    have B := B.trans (hb.mono B.size)
    obtain ⟨e1, e2⟩ := hu.unique (unhide Hun)
    have e1 := e1.symm
    have e2 := e2.symm
    subst e1
    subst e2
    clear ho hu
    clear hb
    go_wp2_with fail
    go_ret
    exact ⟨rfl, B⟩
  · have hl : M.length ≤ 64 := by omega
    obtain ⟨e1, e2⟩ := m2 hl
    subst e1 e2
    clear m1 m2 HU
    go_wp2_with fail
    refine (iMeet_any _ _ _ _ _ _ _ _ _ SK SL).mono ?_
    rintro e w5 ⟨xm, cm, rfl, ho, hb⟩
    have SK := SK.below hb (Nat.le_refl _)
    have SL := SL.below hb (Nat.le_refl _)
    have SU := SU.below hb (Nat.le_refl _)
    have HS := HS.below hb (Nat.le_refl _)
    have B := B.trans (hb.mono B.size)
    have SM := Strs.of_owns ho (unhide zm)
    clear ho
    clear hb
    go_wp2_with fail
    refine (iMinus_any _ _ _ _ _ _ _ _ _ SK SL).mono ?_
    rintro e w6 ⟨xn, cn, rfl, ho, hb⟩
    have SK := SK.below hb (Nat.le_refl _)
    have SL := SL.below hb (Nat.le_refl _)
    have SU := SU.below hb (Nat.le_refl _)
    have SM := SM.below hb (Nat.le_refl _)
    have HS := HS.below hb (Nat.le_refl _)
    have B := B.trans (hb.mono B.size)
    have SN := Strs.of_owns ho (unhide zn)
    clear ho
    clear hb
    go_wp2_with fail
    refine (iUnion_any _ _ _ _ _ _ _ _ _ HS SM SN).mono ?_
    rintro e w7 ⟨xp, cp, P, kp, rfl, ho, hb, hu⟩
    have SK := SK.below hb (Nat.le_refl _)
    have SL := SL.below hb (Nat.le_refl _)
    have SU := SU.below hb (Nat.le_refl _)
    have SM := SM.below hb (Nat.le_refl _)
    have SN := SN.below hb (Nat.le_refl _)
    have HS := HS.below hb (Nat.le_refl _)
    have B := B.trans (hb.mono B.size)
    obtain ⟨e1, e2⟩ := hu.unique (unhide Hup)
    have e1 := e1.symm
    have e2 := e2.symm
    subst e1
    subst e2
    have SP := Strs.of_owns ho (unhide zK)
    clear ho hu
    clear hb
    go_wp2_with fail
    refine (sameNames_same _ _ _ _ _ _ _ SP SK).mono ?_
    rintro e w8 ⟨rfl, hb⟩
    have SK := SK.below hb (Nat.le_refl _)
    have SL := SL.below hb (Nat.le_refl _)
    have SU := SU.below hb (Nat.le_refl _)
    have SM := SM.below hb (Nat.le_refl _)
    have SN := SN.below hb (Nat.le_refl _)
    have SP := SP.below hb (Nat.le_refl _)
    have HS := HS.below hb (Nat.le_refl _)
    have B := B.trans (hb.mono B.size)
    clear hb
    clear SP
    go_wp2_with fail
    refine (iMeet_any _ _ _ _ _ _ _ _ _ SM SN).mono ?_
    rintro e w9 ⟨xq, cq, rfl, ho, hb⟩
    have SK := SK.below hb (Nat.le_refl _)
    have SL := SL.below hb (Nat.le_refl _)
    have SU := SU.below hb (Nat.le_refl _)
    have SM := SM.below hb (Nat.le_refl _)
    have SN := SN.below hb (Nat.le_refl _)
    have HS := HS.below hb (Nat.le_refl _)
    have B := B.trans (hb.mono B.size)
    clear ho
    rw [unhide Hap]
    clear hb
    go_wp2_with fail
    refine (iMeet_any _ _ _ _ _ _ _ _ _ SL SK).mono ?_
    rintro e w10 ⟨xr, cr, rfl, ho, hb⟩
    have SK := SK.below hb (Nat.le_refl _)
    have SL := SL.below hb (Nat.le_refl _)
    have SU := SU.below hb (Nat.le_refl _)
    have SM := SM.below hb (Nat.le_refl _)
    have SN := SN.below hb (Nat.le_refl _)
    have HS := HS.below hb (Nat.le_refl _)
    have B := B.trans (hb.mono B.size)
    rw [unhide Hsw] at ho ⊢
    have SR := Strs.of_owns ho (unhide zm)
    clear ho
    clear hb
    go_wp2_with fail
    refine (sameNames_same _ _ _ _ _ _ _ SR SM).mono ?_
    rintro e w11 ⟨rfl, hb⟩
    have SK := SK.below hb (Nat.le_refl _)
    have SL := SL.below hb (Nat.le_refl _)
    have SU := SU.below hb (Nat.le_refl _)
    have SM := SM.below hb (Nat.le_refl _)
    have SN := SN.below hb (Nat.le_refl _)
    have HS := HS.below hb (Nat.le_refl _)
    have B := B.trans (hb.mono B.size)
    clear hb
    clear SR
    go_wp2_with fail
    refine (iWithin_any _ _ _ _ _ _ _ _ _ SK SL).mono ?_
    rintro e w12 ⟨rfl, hb⟩
    have SK := SK.below hb (Nat.le_refl _)
    have SL := SL.below hb (Nat.le_refl _)
    have SU := SU.below hb (Nat.le_refl _)
    have SM := SM.below hb (Nat.le_refl _)
    have SN := SN.below hb (Nat.le_refl _)
    have HS := HS.below hb (Nat.le_refl _)
    have B := B.trans (hb.mono B.size)
    rw [unhide Hwm]
    clear hb
    go_wp2_with fail
    refine (iWithin_any _ _ _ _ _ _ _ _ _ SM SK).mono ?_
    rintro e w13 ⟨rfl, hb⟩
    have SK := SK.below hb (Nat.le_refl _)
    have SL := SL.below hb (Nat.le_refl _)
    have SU := SU.below hb (Nat.le_refl _)
    have SM := SM.below hb (Nat.le_refl _)
    have SN := SN.below hb (Nat.le_refl _)
    have HS := HS.below hb (Nat.le_refl _)
    have B := B.trans (hb.mono B.size)
    rw [unhide Hml]
    clear hb
    go_wp2_with fail
    refine (iWithin_any _ _ _ _ _ _ _ _ _ SM SL).mono ?_
    rintro e w14 ⟨rfl, hb⟩
    have SK := SK.below hb (Nat.le_refl _)
    have SL := SL.below hb (Nat.le_refl _)
    have SU := SU.below hb (Nat.le_refl _)
    have SM := SM.below hb (Nat.le_refl _)
    have SN := SN.below hb (Nat.le_refl _)
    have HS := HS.below hb (Nat.le_refl _)
    have B := B.trans (hb.mono B.size)
    rw [unhide Hmr]
    clear hb
    clear SM
    have Hk := hide SK.len
    have Hl := hide SL.len
    go_wp2_with (at_builtin; refine append_strs rfl _ _ rfl w14.heap.size _ _ _ rfl (World.ownsRow_nil _ _ _ _) _ _ _ L rfl SL nL ?c1 (Nat.le_refl _) ?_)
    case c1 => omega
    intro v1 wa hown1 hgrow1
    have ba : Below w14.heap.size w14 wa := (Below.refl _ _).grown hgrow1 (Nat.le_refl _) (fun k hk => by cases hk)
    obtain ⟨xa, ca, hf1⟩ := owns_form hown1
    rw [hf1] at hown1 ⊢
    clear hf1 hgrow1
    go_wp2_with (at_builtin; refine append_strs rfl _ _ rfl w14.heap.size _ _ _ rfl hown1 _ _ _ K rfl (SK.below ba (Nat.le_refl _)) nK ?d1 ba.size ?_)
    case d1 => omega
    intro v2 w15 hown2 hgrow2
    have hb : Below w14.heap.size w14 w15 := ba.grown hgrow2 ba.size (fun k hk => (hown1.lt k hk).1)
    obtain ⟨xb, cb, hf2⟩ := owns_form hown2
    rw [hf2] at hown2 ⊢
    clear hgrow2 hown1 hf2 ba
    have SK := SK.below hb (Nat.le_refl _)
    have SL := SL.below hb (Nat.le_refl _)
    have SU := SU.below hb (Nat.le_refl _)
    have SN := SN.below hb (Nat.le_refl _)
    have HS := HS.below hb (Nat.le_refl _)
    have B := B.trans (hb.mono B.size)
    clear hb
    have ow : w15.ownsRow w14.heap.size 9 1 (.slice xb (L ++ K).length cb) (L ++ K).length ((L ++ K).map Value.string) := by
      rw [List.map_append, List.length_append]
      simpa using hown2
    have SA := Strs.of_owns ow (sizes_app (unhide zL) (unhide zK))
    have nA := owns_nil ow
    have pA := owns_spot ow
    have e3 : L.length + K.length = (L ++ K).length := (List.length_append ..).symm
    first | rw [e3] | (rw [Nat.zero_add]; rw [e3]) | skip
    clear ow hown2 e3
    have Hmk := hide (unhide Hmg hl)
    have Hun := hide (unhide Hug hl)
    generalize L ++ K = G at SA Hmk ⊢
    have Hwl := hide (unhide Hwl hl)
    have Hwr := hide (unhide Hwr hl)
    have Hmb := hide (unhide Hmb hl)
    go_wp2_with fail
    refine (iMakeSet_all _ _ _ _ _ SA nA pA).mono ?_
    rintro e w16 ⟨xg, cg, G1, kg, rfl, ho, hb, hu⟩
    have SK := SK.below hb (Nat.le_refl _)
    have SL := SL.below hb (Nat.le_refl _)
    have SU := SU.below hb (Nat.le_refl _)
    have SN := SN.below hb (Nat.le_refl _)
    have HS := HS.below hb (Nat.le_refl _)
    have B := B.trans (hb.mono B.size)
    obtain ⟨e1, e2⟩ := hu.unique (unhide Hmk)
    have e1 := e1.symm
    have e2 := e2.symm
    subst e1
    subst e2
    have SG := Strs.of_owns ho SU.sizes
    clear ho hu
    clear hb
    go_wp2_with fail
    refine (iUnion_any _ _ _ _ _ _ _ _ _ HS SL SK).mono ?_
    rintro e w17 ⟨xy, cy', Y, ky, rfl, ho, hb, hu⟩
    have SK := SK.below hb (Nat.le_refl _)
    have SL := SL.below hb (Nat.le_refl _)
    have SU := SU.below hb (Nat.le_refl _)
    have SN := SN.below hb (Nat.le_refl _)
    have SG := SG.below hb (Nat.le_refl _)
    have HS := HS.below hb (Nat.le_refl _)
    have B := B.trans (hb.mono B.size)
    obtain ⟨e1, e2⟩ := hu.unique (unhide Hun)
    have e1 := e1.symm
    have e2 := e2.symm
    subst e1
    subst e2
    have SY := Strs.of_owns ho SU.sizes
    clear ho hu
    clear hb
    go_wp2_with fail
    refine (sameNames_same _ _ _ _ _ _ _ SY SU).mono ?_
    rintro e w18 ⟨rfl, hb⟩
    have SK := SK.below hb (Nat.le_refl _)
    have SL := SL.below hb (Nat.le_refl _)
    have SU := SU.below hb (Nat.le_refl _)
    have SN := SN.below hb (Nat.le_refl _)
    have SG := SG.below hb (Nat.le_refl _)
    have SY := SY.below hb (Nat.le_refl _)
    have HS := HS.below hb (Nat.le_refl _)
    have B := B.trans (hb.mono B.size)
    clear hb
    go_wp2_with fail
    refine (sameNames_same _ _ _ _ _ _ _ SG SU).mono ?_
    rintro e w19 ⟨rfl, hb⟩
    have SK := SK.below hb (Nat.le_refl _)
    have SL := SL.below hb (Nat.le_refl _)
    have SU := SU.below hb (Nat.le_refl _)
    have SN := SN.below hb (Nat.le_refl _)
    have SG := SG.below hb (Nat.le_refl _)
    have SY := SY.below hb (Nat.le_refl _)
    have HS := HS.below hb (Nat.le_refl _)
    have B := B.trans (hb.mono B.size)
    clear hb
    clear SY SG
    go_wp2_with fail
    refine (iWithin_any _ _ _ _ _ _ _ _ _ SK SU).mono ?_
    rintro e w20 ⟨rfl, hb⟩
    have SK := SK.below hb (Nat.le_refl _)
    have SL := SL.below hb (Nat.le_refl _)
    have SU := SU.below hb (Nat.le_refl _)
    have SN := SN.below hb (Nat.le_refl _)
    have HS := HS.below hb (Nat.le_refl _)
    have B := B.trans (hb.mono B.size)
    rw [unhide Hwl]
    clear hb
    go_wp2_with fail
    refine (iWithin_any _ _ _ _ _ _ _ _ _ SL SU).mono ?_
    rintro e w21 ⟨rfl, hb⟩
    have SK := SK.below hb (Nat.le_refl _)
    have SL := SL.below hb (Nat.le_refl _)
    have SU := SU.below hb (Nat.le_refl _)
    have SN := SN.below hb (Nat.le_refl _)
    have HS := HS.below hb (Nat.le_refl _)
    have B := B.trans (hb.mono B.size)
    rw [unhide Hwr]
    clear hb
    go_wp2_with fail
    refine (iMinus_any _ _ _ _ _ _ _ _ _ SU SL).mono ?_
    rintro e w22 ⟨xz, cz, rfl, ho, hb⟩
    have SK := SK.below hb (Nat.le_refl _)
    have SL := SL.below hb (Nat.le_refl _)
    have SU := SU.below hb (Nat.le_refl _)
    have SN := SN.below hb (Nat.le_refl _)
    have HS := HS.below hb (Nat.le_refl _)
    have B := B.trans (hb.mono B.size)
    rw [unhide Hmb] at ho ⊢
    have SZ := Strs.of_owns ho (unhide zn)
    clear ho
    clear hb
    go_wp2_with fail
    refine (sameNames_same _ _ _ _ _ _ _ SZ SN).mono ?_
    rintro e w23 ⟨rfl, hb⟩
    have SK := SK.below hb (Nat.le_refl _)
    have SL := SL.below hb (Nat.le_refl _)
    have SU := SU.below hb (Nat.le_refl _)
    have SN := SN.below hb (Nat.le_refl _)
    have HS := HS.below hb (Nat.le_refl _)
    have B := B.trans (hb.mono B.size)
    clear hb
    go_wp2_with fail
    go_ret
    exact ⟨rfl, B⟩

end Go.Proofs.YtajfgmlbeaogkacDoor

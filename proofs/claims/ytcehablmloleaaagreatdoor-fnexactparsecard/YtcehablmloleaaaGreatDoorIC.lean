/-
  The law of Parse, walked (written by mkic.py). Own work.
-/
import Derived.Test.YtcehablmloleaaaGreatDoorID
import Derived.Test.YtcehablmloleaaaGreatDoorHW
namespace Go.Proofs.YtcehablmloleaaaGreatDoor
open Go.RowKit
set_option linter.unusedVariables false

theorem rowTouchP {w w' : World} {b lo hi : Nat} {cs : Array Value} {t : TypeId} (h : Row w b cs t) (T : Touch lo hi w w') (hd : b < lo ∨ hi ≤ b) : Row w' b cs t := ⟨(T.block b h.lt hd).trans h.out⟩

set_option maxRecDepth 100000 in
set_option maxHeartbeats 12800000 in
theorem fnExactParse_walk {a1 a2 a3 a4 a5 a6 : Addr} (t : ByteArray) (w : World) (S : EvP w a1 a2 a3 a4 a5 a6) (htt : t.size ≤ maxLen) :
    Calls Tryz.prog 3 #[.string t] w fun e w' => e = .returned (.bool true) ∧ Below w.heap.size w w' := by
  unfold maxLen at htt
  by_cases hl : 1048576 < t.size
  · have il : (1048576 : Int) < (t.size : Int) := by omega
    go_enter Tryz.func3, Tryz.ntmps3
    go_wp2_with fail
    go_ret
    exact ⟨rfl, Below.refl _ _⟩
  have il : ¬ ((1048576 : Int) < (t.size : Int)) := by omega
  have ht : t.size ≤ 1048576 := by omega
  clear hl
  obtain ⟨x, d⟩ := DP.total _ (scanR t).toks (Nat.le_refl _)
  have HOK := hide (psR_small t x d)
  have HSP := hide (sParse_any t x d w ht)
  have HIP := hide (fun (W : World) (hW : Below w.heap.size w W) => iParse_any t x d W ht (S.below hW))
  clear S d
  generalize psR t x = R at HOK HSP HIP
  obtain ⟨N, L, P, cd, at_⟩ := R
  dsimp only at HOK
  have HL3 := hide (show L.length ≤ 65535 ∧ P.length ≤ 65535 from ⟨(unhide HOK).2.1.1, (unhide HOK).2.2⟩)
  have B0 := Below.refl w.heap.size w
  go_enter Tryz.func3, Tryz.ntmps3
  go_wp2_with fail
  refine (unhide HSP).mono ?_
  intro e v1 hr
  obtain ⟨x0, cx0, y0, cy0, z0, cz0, nv0, kv0, rfl, OW, hb1⟩ := hr.own
  clear hr HSP
  have E1 := B0.trans (hb1.mono B0.size)
  clear B0
  clear hb1
  have hbA := (Below.refl v1.heap.size v1).alloc (Nat.le_refl _) (.cells #[.slice x0 N.length cx0, .slice y0 L.length cy0] 25)
  have hbB := (Below.refl (v1.alloc (.cells #[.slice x0 N.length cx0, .slice y0 L.length cy0] 25)).heap.size (v1.alloc (.cells #[.slice x0 N.length cx0, .slice y0 L.length cy0] 25))).alloc (Nat.le_refl _) (.cells #[.int .i64 cd, .int .i64 at_] 28)
  have hbC := hbA.trans (hbB.mono hbA.size)
  have RW := (Row.new v1 #[.slice x0 N.length cx0, .slice y0 L.length cy0] 25).after hbB (Nat.le_refl _)
  have RV := Row.new (v1.alloc (.cells #[.slice x0 N.length cx0, .slice y0 L.length cy0] 25)) #[.int .i64 cd, .int .i64 at_] 28
  simp only [World.size_alloc] at RV
  have zv2 : v1.heap.size + 2 ≤ ((v1.alloc (.cells #[.slice x0 N.length cx0, .slice y0 L.length cy0] 25)).alloc (.cells #[.int .i64 cd, .int .i64 at_] 28)).heap.size := by simp
  have E2 := E1.trans (hbC.mono E1.size)
  replace OW := OW.below hbC OW.top
  clear E1
  clear hbA hbB hbC
  dsimp only
  go_wp2_with fail
  generalize (v1.alloc (.cells #[.slice x0 N.length cx0, .slice y0 L.length cy0] 25)).alloc (.cells #[.int .i64 cd, .int .i64 at_] 28) = v2 at RW RV OW E2 zv2  ⊢
  have zw2 := E2.size
  refine (unhide HIP v2 E2).mono ?_
  intro e v3 hr
  obtain ⟨x1, cx1, y1, cy1, z1, cz1, nv1, kv1, rfl, OG, hb3⟩ := hr.own
  clear hr
  have z23 := hb3.size
  have E3 := E2.trans (hb3.mono E2.size)
  replace RW := RW.after hb3 (Nat.le_refl _)
  replace RV := RV.after hb3 (Nat.le_refl _)
  replace OW := OW.below hb3 OW.top
  clear E2
  clear hb3
  have hbA := (Below.refl v3.heap.size v3).alloc (Nat.le_refl _) (.cells #[.slice x1 N.length cx1, .slice y1 L.length cy1] 25)
  have hbB := (Below.refl (v3.alloc (.cells #[.slice x1 N.length cx1, .slice y1 L.length cy1] 25)).heap.size (v3.alloc (.cells #[.slice x1 N.length cx1, .slice y1 L.length cy1] 25))).alloc (Nat.le_refl _) (.cells #[.int .i64 cd, .int .i64 at_] 28)
  have hbC := hbA.trans (hbB.mono hbA.size)
  have RG := (Row.new v3 #[.slice x1 N.length cx1, .slice y1 L.length cy1] 25).after hbB (Nat.le_refl _)
  have RK := Row.new (v3.alloc (.cells #[.slice x1 N.length cx1, .slice y1 L.length cy1] 25)) #[.int .i64 cd, .int .i64 at_] 28
  simp only [World.size_alloc] at RK
  have zv4 : v3.heap.size + 2 ≤ ((v3.alloc (.cells #[.slice x1 N.length cx1, .slice y1 L.length cy1] 25)).alloc (.cells #[.int .i64 cd, .int .i64 at_] 28)).heap.size := by simp
  have E4 := E3.trans (hbC.mono E3.size)
  replace RW := RW.after hbC (Nat.le_refl _)
  replace RV := RV.after hbC (Nat.le_refl _)
  replace OW := OW.below hbC OW.top
  replace OG := OG.below hbC OG.top
  clear E3
  clear hbA hbB hbC
  obtain ⟨RW0, RW1⟩ := rowP2 RW
  obtain ⟨RV0, RV1⟩ := rowP2 RV
  obtain ⟨RG0, RG1⟩ := rowP2 RG
  obtain ⟨RK0, RK1⟩ := rowP2 RK
  dsimp only
  go_wp2_with fail
  generalize (v3.alloc (.cells #[.slice x1 N.length cx1, .slice y1 L.length cy1] 25)).alloc (.cells #[.int .i64 cd, .int .i64 at_] 28) = v4 at RW RV RG RK OW OG E4 zv4 RW0 RW1 RV0 RV1 RG0 RG1 RK0 RK1 ⊢
  refine (eqPol OG OW (unhide HOK)).mono ?_
  rintro e v5 ⟨rfl, hbq⟩
  clear RW0 RW1 RV0 RV1 RG0 RG1 RK0 RK1
  have E5 := E4.trans (hbq.mono E4.size)
  replace RW := RW.after hbq (Nat.le_refl _)
  replace RV := RV.after hbq (Nat.le_refl _)
  replace RG := RG.after hbq (Nat.le_refl _)
  replace RK := RK.after hbq (Nat.le_refl _)
  replace OW := OW.below hbq OW.top
  replace OG := OG.below hbq OG.top
  clear E4
  clear hbq
  obtain ⟨RW0, RW1⟩ := rowP2 RW
  obtain ⟨RV0, RV1⟩ := rowP2 RV
  obtain ⟨RG0, RG1⟩ := rowP2 RG
  obtain ⟨RK0, RK1⟩ := rowP2 RK
  dsimp only
  go_wp2_with fail
  refine (eqPls OG OW (unhide HOK)).mono ?_
  rintro e v6 ⟨rfl, hbq⟩
  clear RW0 RW1 RV0 RV1 RG0 RG1 RK0 RK1
  have E6 := E5.trans (hbq.mono E5.size)
  replace RW := RW.after hbq (Nat.le_refl _)
  replace RV := RV.after hbq (Nat.le_refl _)
  replace RG := RG.after hbq (Nat.le_refl _)
  replace RK := RK.after hbq (Nat.le_refl _)
  replace OW := OW.below hbq OW.top
  replace OG := OG.below hbq OG.top
  clear E5
  clear hbq
  obtain ⟨RW0, RW1⟩ := rowP2 RW
  obtain ⟨RV0, RV1⟩ := rowP2 RV
  obtain ⟨RG0, RG1⟩ := rowP2 RG
  obtain ⟨RK0, RK1⟩ := rowP2 RK
  dsimp only
  go_wp2_with fail
  refine (eqFaultP cd at_ _).mono ?_
  rintro e v7 ⟨rfl, hbq⟩
  clear RW0 RW1 RV0 RV1 RG0 RG1 RK0 RK1
  have E7 := E6.trans (hbq.mono E6.size)
  replace RW := RW.after hbq (Nat.le_refl _)
  replace RV := RV.after hbq (Nat.le_refl _)
  replace RG := RG.after hbq (Nat.le_refl _)
  replace RK := RK.after hbq (Nat.le_refl _)
  replace OW := OW.below hbq OW.top
  replace OG := OG.below hbq OG.top
  clear E6
  clear hbq
  obtain ⟨RG0, RG1⟩ := rowP2 RG
  obtain ⟨l3, l4⟩ := unhide HL3
  obtain ⟨mb0, mb1⟩ := mkP_bound (unhide HOK) l3
  dsimp only
  go_wp2_with fail
  refine (markPolicy_own _ _ _ _ _ _ _ _ _ _ _ N _ _ L P _ OG (unhide HOK)).mono ?_
  rintro e v8 ⟨rfl, OM, T8⟩
  clear OG RG0 RG1

  have zb1 := E7.size
  have E8 := below_touch E7 T8 (by have := E7.size; omega) E7.size
  replace RW := rowTouchP RW T8 (by omega)
  replace RV := rowTouchP RV T8 (by omega)
  replace RG := rowTouchP RG T8 (by omega)
  replace RK := rowTouchP RK T8 (by omega)
  replace OW := OW.touch T8 (by omega)
  clear E7 T8
  obtain ⟨mk, hmk⟩ : ∃ mk, mk = mkP N L.length := ⟨_, rfl⟩
  rw [← hmk] at mb0 mb1 ⊢
  have HMK := hide hmk
  clear hmk
  dsimp only
  go_wp2_with fail
  refine (markPlaces_own _ _ _ _ _ _ _ _ _ _ _ (mdl 1 N) _ _ _ P mk _ OM l4 mb0 (by omega)).mono ?_
  rintro e v9 ⟨rfl, ON, T9⟩
  clear OM
  have E9 := below_touch E8 T9 (by have := E8.size; omega) E8.size
  replace RW := rowTouchP RW T9 (by omega)
  replace RV := rowTouchP RV T9 (by omega)
  replace RG := rowTouchP RG T9 (by omega)
  replace RK := rowTouchP RK T9 (by omega)
  replace OW := OW.touch T9 (by omega)
  clear E8 T9
  obtain ⟨RG0, RG1⟩ := rowP2 RG
  dsimp only
  go_wp2_with fail
  refine (heldPolicy_own _ _ _ _ _ _ _ _ _ _ _ N _ _ L P _ _ ON (unhide HOK) l3 l4).mono ?_
  rintro e v10 ⟨rfl, hbq⟩
  clear RG0 RG1
  rw [← unhide HMK]
  have hm0 : ¬ (mk < 0) := by omega
  have E10 := E9.trans (hbq.mono E9.size)
  replace RW := RW.after hbq (Nat.le_refl _)
  replace RV := RV.after hbq (Nat.le_refl _)
  replace RG := RG.after hbq (Nat.le_refl _)
  replace RK := RK.after hbq (Nat.le_refl _)
  replace OW := OW.below hbq OW.top
  replace ON := ON.below hbq ON.top
  clear E9
  clear hbq
  dsimp only
  go_wp2_with fail
  refine (heldPlaces_own _ _ _ _ _ _ _ _ _ _ _ (mdl 1 N) _ _ _ mk _ ON l4 mb0 (by omega)).mono ?_
  rintro e v11 ⟨rfl, hbq⟩
  have E11 := E10.trans (hbq.mono E10.size)
  replace RW := RW.after hbq (Nat.le_refl _)
  replace RV := RV.after hbq (Nat.le_refl _)
  replace RG := RG.after hbq (Nat.le_refl _)
  replace RK := RK.after hbq (Nat.le_refl _)
  replace OW := OW.below hbq OW.top
  replace ON := ON.below hbq ON.top
  clear E10
  clear hbq
  have hm1 : ¬ (mk + (P.length : Int) < 0) := by omega
  dsimp only
  go_wp2_with fail
  refine (unhide HIP v11 E11).mono ?_
  intro e v12 hr
  obtain ⟨x2, cx2, y2, cy2, z2, cz2, nv2, kv2, rfl, OH, hb3⟩ := hr.own
  clear hr
  have E12 := E11.trans (hb3.mono E11.size)
  replace RW := RW.after hb3 (Nat.le_refl _)
  replace RV := RV.after hb3 (Nat.le_refl _)
  replace RG := RG.after hb3 (Nat.le_refl _)
  replace RK := RK.after hb3 (Nat.le_refl _)
  replace OW := OW.below hb3 OW.top
  replace ON := ON.below hb3 ON.top
  clear E11
  clear hb3
  have hbA := (Below.refl v12.heap.size v12).alloc (Nat.le_refl _) (.cells #[.slice x2 N.length cx2, .slice y2 L.length cy2] 25)
  have hbB := (Below.refl (v12.alloc (.cells #[.slice x2 N.length cx2, .slice y2 L.length cy2] 25)).heap.size (v12.alloc (.cells #[.slice x2 N.length cx2, .slice y2 L.length cy2] 25))).alloc (Nat.le_refl _) (.cells #[.int .i64 cd, .int .i64 at_] 28)
  have hbC := hbA.trans (hbB.mono hbA.size)
  have RH := (Row.new v12 #[.slice x2 N.length cx2, .slice y2 L.length cy2] 25).after hbB (Nat.le_refl _)
  have RI := Row.new (v12.alloc (.cells #[.slice x2 N.length cx2, .slice y2 L.length cy2] 25)) #[.int .i64 cd, .int .i64 at_] 28
  simp only [World.size_alloc] at RI
  have zv13 : v12.heap.size + 2 ≤ ((v12.alloc (.cells #[.slice x2 N.length cx2, .slice y2 L.length cy2] 25)).alloc (.cells #[.int .i64 cd, .int .i64 at_] 28)).heap.size := by simp
  have E13 := E12.trans (hbC.mono E12.size)
  replace RW := RW.after hbC (Nat.le_refl _)
  replace RV := RV.after hbC (Nat.le_refl _)
  replace RG := RG.after hbC (Nat.le_refl _)
  replace RK := RK.after hbC (Nat.le_refl _)
  replace OW := OW.below hbC OW.top
  replace ON := ON.below hbC ON.top
  replace OH := OH.below hbC OH.top
  clear E12
  clear hbA hbB hbC
  obtain ⟨RW0, RW1⟩ := rowP2 RW
  obtain ⟨RV0, RV1⟩ := rowP2 RV
  obtain ⟨RH0, RH1⟩ := rowP2 RH
  obtain ⟨RI0, RI1⟩ := rowP2 RI
  dsimp only
  go_wp2_with fail
  generalize (v12.alloc (.cells #[.slice x2 N.length cx2, .slice y2 L.length cy2] 25)).alloc (.cells #[.int .i64 cd, .int .i64 at_] 28) = v13 at RW RV RG RK RH RI OW ON OH E13 zv13 RW0 RW1 RV0 RV1 RH0 RH1 RI0 RI1 ⊢
  refine (eqPol OH OW (unhide HOK)).mono ?_
  rintro e v14 ⟨rfl, hbq⟩
  clear RW0 RW1 RV0 RV1 RH0 RH1 RI0 RI1
  have E14 := E13.trans (hbq.mono E13.size)
  replace RW := RW.after hbq (Nat.le_refl _)
  replace RV := RV.after hbq (Nat.le_refl _)
  replace RG := RG.after hbq (Nat.le_refl _)
  replace RK := RK.after hbq (Nat.le_refl _)
  replace RH := RH.after hbq (Nat.le_refl _)
  replace RI := RI.after hbq (Nat.le_refl _)
  replace OW := OW.below hbq OW.top
  replace ON := ON.below hbq ON.top
  replace OH := OH.below hbq OH.top
  clear E13
  clear hbq
  obtain ⟨RW0, RW1⟩ := rowP2 RW
  obtain ⟨RV0, RV1⟩ := rowP2 RV
  obtain ⟨RH0, RH1⟩ := rowP2 RH
  obtain ⟨RI0, RI1⟩ := rowP2 RI
  dsimp only
  go_wp2_with fail
  refine (eqPls OH OW (unhide HOK)).mono ?_
  rintro e v15 ⟨rfl, hbq⟩
  clear RW0 RW1 RV0 RV1 RH0 RH1 RI0 RI1
  have E15 := E14.trans (hbq.mono E14.size)
  replace RW := RW.after hbq (Nat.le_refl _)
  replace RV := RV.after hbq (Nat.le_refl _)
  replace RG := RG.after hbq (Nat.le_refl _)
  replace RK := RK.after hbq (Nat.le_refl _)
  replace RH := RH.after hbq (Nat.le_refl _)
  replace RI := RI.after hbq (Nat.le_refl _)
  replace OW := OW.below hbq OW.top
  replace ON := ON.below hbq ON.top
  replace OH := OH.below hbq OH.top
  clear E14
  clear hbq
  obtain ⟨RW0, RW1⟩ := rowP2 RW
  obtain ⟨RV0, RV1⟩ := rowP2 RV
  obtain ⟨RH0, RH1⟩ := rowP2 RH
  obtain ⟨RI0, RI1⟩ := rowP2 RI
  dsimp only
  go_wp2_with fail
  refine (eqFaultP cd at_ _).mono ?_
  rintro e v16 ⟨rfl, hbq⟩
  clear RW0 RW1 RV0 RV1 RH0 RH1 RI0 RI1
  have E16 := E15.trans (hbq.mono E15.size)
  replace RW := RW.after hbq (Nat.le_refl _)
  replace RV := RV.after hbq (Nat.le_refl _)
  replace RG := RG.after hbq (Nat.le_refl _)
  replace RK := RK.after hbq (Nat.le_refl _)
  replace RH := RH.after hbq (Nat.le_refl _)
  replace RI := RI.after hbq (Nat.le_refl _)
  replace OW := OW.below hbq OW.top
  replace ON := ON.below hbq ON.top
  replace OH := OH.below hbq OH.top
  clear E15
  clear hbq
  clear hm0 hm1
  obtain ⟨RG0, RG1⟩ := rowP2 RG
  dsimp only
  go_wp2_with fail
  refine (heldPolicy_own _ _ _ _ _ _ _ _ _ _ _ N _ _ L P _ _ ON (unhide HOK) l3 l4).mono ?_
  rintro e v17 ⟨rfl, hbq⟩
  clear RG0 RG1
  rw [← unhide HMK]
  have hm0 : ¬ (mk < 0) := by omega
  have E17 := E16.trans (hbq.mono E16.size)
  replace RW := RW.after hbq (Nat.le_refl _)
  replace RV := RV.after hbq (Nat.le_refl _)
  replace RG := RG.after hbq (Nat.le_refl _)
  replace RK := RK.after hbq (Nat.le_refl _)
  replace RH := RH.after hbq (Nat.le_refl _)
  replace RI := RI.after hbq (Nat.le_refl _)
  replace OW := OW.below hbq OW.top
  replace ON := ON.below hbq ON.top
  replace OH := OH.below hbq OH.top
  clear E16
  clear hbq
  dsimp only
  go_wp2_with fail
  refine (heldPlaces_own _ _ _ _ _ _ _ _ _ _ _ (mdl 1 N) _ _ _ mk _ ON l4 mb0 (by omega)).mono ?_
  rintro e v18 ⟨rfl, hbq⟩
  have E18 := E17.trans (hbq.mono E17.size)
  replace RW := RW.after hbq (Nat.le_refl _)
  replace RV := RV.after hbq (Nat.le_refl _)
  replace RG := RG.after hbq (Nat.le_refl _)
  replace RK := RK.after hbq (Nat.le_refl _)
  replace RH := RH.after hbq (Nat.le_refl _)
  replace RI := RI.after hbq (Nat.le_refl _)
  replace OW := OW.below hbq OW.top
  replace ON := ON.below hbq ON.top
  replace OH := OH.below hbq OH.top
  clear E17
  clear hbq
  have hm1 : ¬ (mk + (P.length : Int) < 0) := by omega
  dsimp only
  go_wp2_with fail
  go_ret
  exact ⟨rfl, E18⟩

end Go.Proofs.YtcehablmloleaaaGreatDoor

/-
  The model's Compile. Own work.
-/
import Derived.Test.YtpbopjgmiaoomaaGreatDoorCPJ
namespace Go.Proofs.YtpbopjgmiaoomaaGreatDoor
open Go.RowKit
set_option linter.unusedVariables false
set_option linter.unusedSimpArgs false

set_option maxRecDepth 100000 in
set_option maxHeartbeats 12800000 in
theorem sCompile_any (a b e : Option Addr) (n c m d k f : Nat) (N : List Nd) (L : List St) (T : List Int) (w : World) (h1 : Nds w a n c N) (h2 : Sts w b m d L) (h3 : Ints w e k f T) (hnz : NmZ w a N) :
    Calls Tryz.prog 5 #[.agg #[.slice a n c, .slice b m d, .slice e k f]] w fun r w' => ∃ o, IsCp N L T o ∧ CpA o w r w' := by
  have B0 := (Below.refl w.heap.size w).alloc (Nat.le_refl _) (.cells #[.slice a n c, .slice b m d, .slice e k f] 36)
  have B1 := B0.alloc B0.size (.cells #[.slice none 0 0, .int .i64 0, .slice none 0 0] 31)
  have RT := (Row.new w #[.slice a n c, .slice b m d, .slice e k f] 36).alloc (.cells #[.slice none 0 0, .int .i64 0, .slice none 0 0] 31)
  have RO := Row.new (w.alloc (.cells #[.slice a n c, .slice b m d, .slice e k f] 36)) #[.slice none 0 0, .int .i64 0, .slice none 0 0] 31
  simp only [World.size_alloc] at RO
  have N2 := h1.below B1 (Nat.le_refl _)
  have L2 := h2.below B1 (Nat.le_refl _)
  have I2 := h3.below B1 (Nat.le_refl _)
  have HN := hide h1.len
  have HL := hide h2.len
  have hms := h2.small
  have HNZ := hide (hnz.below h1 B1)
  clear h1 h2 h3 hnz B0
  go_enter Tryz.func5, Tryz.ntmps5
  go_wp2_with fail
  generalize (w.alloc (.cells #[.slice a n c, .slice b m d, .slice e k f] 36)).alloc (.cells #[.slice none 0 0, .int .i64 0, .slice none 0 0] 31) = W2 at B1 RT RO N2 L2 I2 HNZ ⊢
  generalize hw0 : w.heap.size = tb at B1 RT RO ⊢
  have HW := hide hw0
  generalize hqb : tb + 1 = ob at RO ⊢
  have hob : tb ≤ ob := by omega
  have hto : tb ≠ ob := by omega
  clear hw0 hqb
  refine (sWellTyped_any _ _ _ _ _ _ _ _ _ N L T _ N2 L2 I2).mono ?_
  rintro r w3 ⟨⟨v, rfl, hv⟩, hb3⟩
  have hz2 : tb ≤ W2.heap.size := by have := RT.lt; omega
  have B3 := B1.trans (hb3.mono hz2)
  have RT3 := RT.after hb3 (Nat.le_refl _)
  have RO3 := RO.after hb3 (Nat.le_refl _)
  have HZN := hide ((unhide HNZ).below N2 hb3)
  have N3 := N2.below hb3 (Nat.le_refl _)
  have L3 := L2.below hb3 (Nat.le_refl _)
  clear N2 L2 I2 RT RO
  cases v with
  | false =>
    have HX := hide (show IsCp N L T ⟨[], 0, []⟩ from .inl ⟨hv, rfl⟩)
    clear hv
    obtain ⟨x0, x1, x2⟩ := rowC RO3
    have f0 := fun j => RO3.frozen j
    obtain ⟨p0, p1, p2⟩ := rowC (((RO3.set 0 (.slice none 0 0)).set 1 (.int .i64 0)).set 2 (.slice none 0 0))
    have BE := ((B3.setCell (p := ⟨ob, 0, none⟩) hob (.slice none 0 0)).setCell (p := ⟨ob, 1, none⟩) hob (.int .i64 0)).setCell (p := ⟨ob, 2, none⟩) hob (.slice none 0 0)
    dsimp only
    go_wp2_with fail
    refine bodyPost_ret (v := .agg #[.slice none 0 0, .int .i64 0, .slice none 0 0]) (by simp [results, Tryz.results5, go_sem, p0, p1, p2]) rfl ⟨⟨[], 0, []⟩, unhide HX, none, 0, none, 0, [], rfl, OwnP.nil _ _, World.ownsRow_nil _ _ _ _, ?_⟩
    rw [unhide HW]
    exact BE
  | true =>
    have HV := hide hv
    clear hv
    have C4 := (Below.refl w3.heap.size w3).alloc (Nat.le_refl _) (.cells #[.slice none 0 0, .int .i64 0, .slice none 0 0] 31)
    have RT4 := RT3.after C4 (Nat.le_refl _)
    have RO4 := RO3.after C4 (Nat.le_refl _)
    have RC4 := Row.new w3 #[.slice none 0 0, .int .i64 0, .slice none 0 0] 31
    obtain ⟨u0, u1, u2⟩ := rowC RT4
    have hwell : wellT N L = true := by
      rcases unhide HV with ⟨_, h⟩ | ⟨h, _⟩
      · cases h
      · exact h
    have HP := hide (wellPT_of hwell)
    have HWL := hide hwell
    clear hwell
    dsimp only
    go_wp2_with fail
    have HF := hide (unhide HP).fields
    obtain ⟨Es, hEl, hE⟩ := treesT_ex (unhide HP)
    have HX := hide (show IsCp N L T (codeC Es L) from .inr ⟨unhide HV, Es, hEl, hE, rfl⟩)
    have HEl := hide hEl
    have HEE := hide hE
    have HCN := hide (cntL_le (unhide HWL) hEl hE)
    have HRT := hide (show ∀ s ∈ L, (s.cond = -1 ∨ (0 ≤ s.cond ∧ s.cond < Es.length)) ∧ (s.grant = -1 ∨ (0 ≤ s.grant ∧ s.grant < Es.length)) by rw [hEl]; exact (unhide HP).roots)
    have HSZ := hide (show szL Es L ≤ 13200 by have := szL_le Es L (unhide HRT); have := unhide HCN; have := (unhide HP).m; omega)
    have HKD := hide (show ∀ t ∈ L, t.kind = 3 ∨ t.cond ≠ -1 from fun t ht => by have := (unhide HP).stm t ht; omega)
    have HQ := hide (show ∀ q : Nat, q < Es.length → ∀ W, Below w3.heap.size w3 W → Calls Tryz.prog 18 #[.slice a n c, .int .i64 q] W (L4C w3 (exAt Es q) W) from fun q hq W hW => by
      have e : exAt Es (q : Int) = Es[q] := by rw [exAt, Int.toNat_natCast, List.getD_eq_getElem?_getD, List.getElem?_eq_getElem hq]; rfl
      rw [e]
      exact l4of_any w3 a n c N N3 (unhide HZN) (unhide HF) (hE q hq) W hW)
    have hzo : ob < w3.heap.size := RO3.lt
    have hzt : tb < w3.heap.size := RT3.lt
    have hm6 : m ≤ 600 := by have := (unhide HP).m; rw [unhide HL] at this; exact this
    have HLS := hide L3
    clear hE hEl HCN HF N3 L3 RT3 RO3 u0 u1 u2
    go_loopw [3, 24] (fun v i wr => ∃ j : Nat, j ≤ m ∧ i = .int .i64 j ∧ InsO w3 (w3.heap.size + 1) v (allI5 Es 0 0 (L.take j)) wr ∧ Row wr tb #[.slice a n c, .slice b m d, .slice e k f] 36 ∧ Row wr ob #[.slice none 0 0, .int .i64 0, .slice none 0 0] 31 ∧ Row wr w3.heap.size #[.slice none 0 0, .int .i64 (letsN (L.take j) : Nat), .slice none 0 0] 31 ∧ Below w3.heap.size w3 wr ∧ w3.heap.size + 1 ≤ wr.heap.size) (fun _ i _ => m - (intOf i).toNat)
    case atStart => exact ⟨0, Nat.zero_le _, rfl, InsO.nil _ _ _, RT4, RO4, RC4, C4, by simp⟩
    case round =>
      clear RT4 RO4 RC4 C4
      obtain ⟨j, hj, rfl, IA, RT, RO, RC, D0, hzr⟩ := hrel
      by_cases hlt : j < m
      · have ilt : (j : Int) < (m : Int) := by omega
        have hjl : j < L.length := by rw [unhide HL]; exact hlt
        obtain ⟨sb, so, hsa, hsb, c0, c1, c2, c3⟩ := ((unhide HLS).below D0 (Nat.le_refl _)).cells j hjl
        subst hsa
        obtain ⟨hr1, hr2⟩ := unhide HRT L[j] (List.getElem_mem hjl)
        have hst := (unhide HP).stm L[j] (List.getElem_mem hjl)
        have len1 := allI5_len Es (L.take j) (fun t ht => unhide HKD t (List.mem_of_mem_take ht))
        have room := szL_room Es L j hjl
        have hbd : (allI5 Es 0 0 (L.take j)).length + (szAt Es L[j].cond + szAt Es L[j].grant + 2) ≤ 13200 := by have := unhide HSZ; omega
        have HAL := hide (show allI5 Es 0 0 (L.take (j + 1)) = allI5 Es 0 0 (L.take j) ++ stI5 Es (letsN (L.take j)) (allI5 Es 0 0 (L.take j)).length L[j] by rw [List.take_succ_eq_append_getElem hjl, allI5_snoc, Nat.zero_add, Nat.zero_add])
        have HLT := hide (show letsN (L.take (j + 1)) = letsN (L.take j) + letN L[j] by rw [List.take_succ_eq_append_getElem hjl, letsN_snoc])
        have hk6 : (letsN (L.take j) : Int) ≤ 600 := by have := letsN_le (L.take j); have := List.length_take_le j L; omega
        have Hlt := hide hlt
        clear len1 room hlt
        generalize L[j] = s at c0 c1 c2 c3 hr1 hr2 hst hbd HAL HLT
        clear hjl
        generalize allI5 Es 0 0 (L.take j) = AL at IA hbd HAL
        generalize letsN (L.take j) = kN at RC HAL HLT hk6
        obtain ⟨kd, nm, cd, gr⟩ := s
        dsimp only at c0 c1 c2 c3 hr1 hr2 hst hbd
        obtain ⟨xa, ca, rfl, _⟩ := IA.form
        rcases hst with ⟨rfl, _, hcd, rfl⟩ | ⟨rfl, hcd⟩ | ⟨rfl, rfl⟩
        · obtain ⟨q, rfl⟩ : ∃ q : Nat, cd = q := ⟨cd.toNat, by omega⟩
          have hql : q < Es.length := by omega
          have HC1 := hide (unhide HQ q hql)
          have hs1 : szAt Es (q : Int) = sizeI (exAt Es q) := by rw [szAt, if_neg (by omega)]
          have HBD := hide (show AL.length + (sizeI (exAt Es q) + 2) ≤ 13200 by rw [hs1] at hbd; omega)
          have HZ1 := hide (show sizeI (exAt Es q) ≤ 1048576 by have := unhide HBD; omega)
          have q0 : (0 : Int) ≤ (q : Int) := by omega
          clear hr1 hr2 hbd hs1 hql hcd
          generalize hX1 : exAt Es (q : Int) = e1 at HC1 HBD HZ1
          have HX1 := hide hX1
          clear hX1
          have C1 := (Below.refl wr.heap.size wr).alloc (Nat.le_refl _) (.cells #[.int .i64 1, .string nm, .int .i64 q, .int .i64 (-1)] 49)
          have RS := Row.new wr #[.int .i64 1, .string nm, .int .i64 q, .int .i64 (-1)] 49
          have E1 := D0.trans (C1.mono D0.size)
          have I1 := IA.below C1
          have F1 := KJ.of_below C1
          have RT_1 := F1 _ _ _ RT (by decide)
          have RO_1 := F1 _ _ _ RO (by decide)
          have RC_1 := F1 _ _ _ RC (by decide)
          clear RT RO RC C1 F1 IA
          obtain ⟨t0, t1, t2⟩ := rowC RT_1
          obtain ⟨k0, k1, k2⟩ := rowC RC_1
          have kf := fun j => Row.frozen RC_1 j
          obtain ⟨s0, s1, s2, s3⟩ := row4C RS
          go_wp2_with fail
          refine (unhide HC1 _ E1).mono ?_
          rintro r wz2 ⟨⟨kop, knum, ktext, kan, knn, kcn, kka, kkn, kkc⟩, rfl, hs2, hb2⟩
          clear t0 t1 t2 k0 k1 k2 kf s0 s1 s2 s3
          have HS2 := hide ((hs2 wz2 ⟨Nat.le_refl _, fun _ _ _ => rfl⟩ (unhide HZ1)).2 (AL.length) (by have := unhide HZ1; have := unhide HBD; omega))
          simp only [Int.natCast_add, Int.cast_ofNat_Int] at HS2
          clear hs2
          have E2 := E1.trans (hb2.mono E1.size)
          have I2 := I1.below hb2
          have F2 := KJ.of_below hb2
          clear I1
          have RT_2 := F2 _ _ _ RT_1 (by decide)
          clear RT_1
          have RO_2 := F2 _ _ _ RO_1 (by decide)
          clear RO_1
          have RC_2 := F2 _ _ _ RC_1 (by decide)
          clear RC_1
          have RS_2 := F2 _ _ _ RS (by decide)
          clear RS
          clear F2
          clear hb2
          dsimp only
          obtain ⟨t0, t1, t2⟩ := rowC RT_2
          obtain ⟨k0, k1, k2⟩ := rowC RC_2
          have kf := fun j => Row.frozen RC_2 j
          obtain ⟨s0, s1, s2, s3⟩ := row4C RS_2
          go_wp2_with fail
          refine (unhide HS2).mono ?_
          rintro r wz3 ⟨⟨u3, rfl, G3⟩, hb3⟩
          clear t0 t1 t2 k0 k1 k2 kf s0 s1 s2 s3
          clear HS2
          have hGl3 := G3.lt
          obtain ⟨x3, c3, hv3, hx3⟩ := G3.form
          rw [treeI_len] at hv3 hx3
          subst hv3
          have E3 := E2.trans (hb3.mono E2.size)
          have I3 := I2.below hb3
          have F3 := KJ.of_below hb3
          clear I2
          have RT_3 := F3 _ _ _ RT_2 (by decide)
          clear RT_2
          have RO_3 := F3 _ _ _ RO_2 (by decide)
          clear RO_2
          have RC_3 := F3 _ _ _ RC_2 (by decide)
          clear RC_2
          have RS_3 := F3 _ _ _ RS_2 (by decide)
          clear RS_2
          clear F3
          clear hb3
          dsimp only
          obtain ⟨g4, V4, hg4, hK14, hK24, hK34⟩ := hx3 (sizeI_pos _)
          subst hg4
          have hKl4 : V4.length = sizeI e1 := by rw [← List.length_map (f := J5.i), hK14, treeI_len]
          have hz4 := E3.size
          have hy4 := RC_3.lt
          obtain ⟨t0, t1, t2⟩ := rowC RT_3
          obtain ⟨k0, k1, k2⟩ := rowC RC_3
          have kf := fun j => Row.frozen RC_3 j
          obtain ⟨s0, s1, s2, s3⟩ := row4C RS_3
          go_wp2_with (at_builtin; refine wpList_insK rfl _ _ rfl w3 (w3.heap.size + 1) _ (AL) rfl I3 ⟨g4, 0, none⟩ (sizeI e1) c3 V4 rfl hKl4 hK24 hK34 (by (try simp only [List.length_append, List.length_map, List.length_cons, List.length_nil]); have := unhide HBD; omega) (by omega) ?_)
          intro x4 y4 c4 wz4 Q4 M4 F4 T4 HY4
          clear t0 t1 t2 k0 k1 k2 kf s0 s1 s2 s3
          have E4 := E3.trans (M4.mono (Nat.le_succ _))
          have Z4 : InsO w3 (w3.heap.size + 1) (.slice x4 y4 c4) (AL ++ treeI e1 AL.length) wz4 := by simpa [List.append_assoc, hK14] using Q4
          clear Q4 I3 hz4 hy4 M4 T4 hK14 hK24 hK34 hKl4
          have RT_4 := F4 _ _ _ RT_3 (by decide)
          clear RT_3
          have RO_4 := F4 _ _ _ RO_3 (by decide)
          clear RO_3
          have RC_4 := F4 _ _ _ RC_3 (by decide)
          clear RC_3
          have RS_4 := F4 _ _ _ RS_3 (by decide)
          clear RS_3
          clear F4
          have C5 := (Below.refl wz4.heap.size wz4).alloc (Nat.le_refl _) (.cells #[.int .i64 4, .int .i64 ((kN : Int)), .int .i64 0, .int .i64 0, .string ⟨#[]⟩, .slice none 0 0] 59)
          have P5 := Z4.below C5
          have hz5 := E4.size
          have hy5 := RC_4.lt
          have FC5 := KJ.of_below C5
          obtain ⟨t0, t1, t2⟩ := rowC RT_4
          obtain ⟨k0, k1, k2⟩ := rowC RC_4
          have kf := fun j => Row.frozen RC_4 j
          obtain ⟨s0, s1, s2, s3⟩ := row4C RS_4
          go_wp2_with (at_builtin; refine wpList_insK rfl _ _ rfl w3 (w3.heap.size + 1) _ (AL ++ treeI e1 AL.length) rfl P5 ⟨wz4.heap.size, 0, none⟩ 1 1 [plainJ 4 ((kN : Int))] rfl rfl (NmO.plain _ _ _) (six_cell wz4 (plainJ 4 ((kN : Int))) _ (by simp)) (by (try simp only [List.length_append, List.length_map, List.length_cons, List.length_nil, treeI_len]); have := unhide HBD; omega) (by simp; omega) ?_)
          intro x5 y5 c5 wz5 Q5 M5 F5 T5 HY5
          clear t0 t1 t2 k0 k1 k2 kf s0 s1 s2 s3
          have E5 := (E4.trans (C5.mono hz5)).trans (M5.mono (Nat.le_succ _))
          have FF5 := FC5.trans F5
          have Z5 : InsO w3 (w3.heap.size + 1) (.slice x5 y5 c5) (AL ++ treeI e1 AL.length ++ [(plainJ 4 ((kN : Int))).i]) wz5 := by simpa [List.append_assoc] using Q5
          clear Q5 Z4 P5 hz5 hy5 M5 T5 C5 FC5 F5
          have RT_5 := FF5 _ _ _ RT_4 (by decide)
          clear RT_4
          have RO_5 := FF5 _ _ _ RO_4 (by decide)
          clear RO_4
          have RC_5 := FF5 _ _ _ RC_4 (by decide)
          clear RC_4
          have RS_5 := FF5 _ _ _ RS_4 (by decide)
          clear RS_4
          clear FF5
          obtain ⟨t0, t1, t2⟩ := rowC RT_5
          obtain ⟨k0, k1, k2⟩ := rowC RC_5
          have kf := fun j => Row.frozen RC_5 j
          obtain ⟨s0, s1, s2, s3⟩ := row4C RS_5
          have hzE := E5.size
          have RCn := RC_5.set 1 (.int .i64 ((kN : Int) + 1))
          simp only [List.setIfInBounds_toArray, List.set_cons_zero, List.set_cons_succ] at RCn
          have RTn := RT_5.setFar (p := ⟨w3.heap.size, 1, none⟩) (by show tb ≠ w3.heap.size; omega) (.int .i64 ((kN : Int) + 1))
          have ROn := RO_5.setFar (p := ⟨w3.heap.size, 1, none⟩) (by show ob ≠ w3.heap.size; omega) (.int .i64 ((kN : Int) + 1))
          have HIn := hide (Z5.keepB (w' := wz5.setCell ⟨w3.heap.size, 1, none⟩ (.int .i64 ((kN : Int) + 1))) (fun z hz => heap_setCell_other wz5 _ z _ (by have := (Z5.lt z hz).1; show z ≠ w3.heap.size; omega)))
          have Dn := E5.setCell (p := ⟨w3.heap.size, 1, none⟩) (Nat.le_refl _) (.int .i64 ((kN : Int) + 1))
          have hzN : w3.heap.size + 1 ≤ (wz5.setCell ⟨w3.heap.size, 1, none⟩ (.int .i64 ((kN : Int) + 1))).heap.size := by have := RC_5.lt; simp; omega
          go_wp2_with fail
          go_roundw
          case rel =>
            refine ⟨j + 1, unhide Hlt, by go_num, ?_, RTn, ROn, ?_, Dn, hzN⟩
            · rw [unhide HAL]
              have := unhide HIn
              simpa [stI5, unhide HX1, List.append_assoc, plainJ] using this
            · have e : ((kN + letN ⟨1, nm, (q : Int), -1⟩ : Nat) : Int) = (kN : Int) + 1 := by simp [letN]
              rw [unhide HLT, e]
              exact RCn
          case measure => have := unhide Hlt; simp [intOf]; omega
        · obtain ⟨q, rfl⟩ : ∃ q : Nat, cd = q := ⟨cd.toNat, by omega⟩
          have hql : q < Es.length := by omega
          have HC1 := hide (unhide HQ q hql)
          have hs1 : szAt Es (q : Int) = sizeI (exAt Es q) := by rw [szAt, if_neg (by omega)]
          have q0 : (0 : Int) ≤ (q : Int) := by omega
          have HZ1 := hide (show sizeI (exAt Es q) ≤ 1048576 by omega)
          by_cases hg : gr = -1
          · subst hg
            have HBD := hide (show AL.length + (sizeI (exAt Es q) + 2) ≤ 13200 by omega)
            clear hr1 hr2 hbd hs1 hql hcd
            generalize hX1 : exAt Es (q : Int) = e1 at HC1 HBD HZ1
            have HX1 := hide hX1
            clear hX1
            have C1 := (Below.refl wr.heap.size wr).alloc (Nat.le_refl _) (.cells #[.int .i64 2, .string nm, .int .i64 q, .int .i64 (-1)] 49)
            have RS := Row.new wr #[.int .i64 2, .string nm, .int .i64 q, .int .i64 (-1)] 49
            have E1 := D0.trans (C1.mono D0.size)
            have I1 := IA.below C1
            have F1 := KJ.of_below C1
            have RT_1 := F1 _ _ _ RT (by decide)
            have RO_1 := F1 _ _ _ RO (by decide)
            have RC_1 := F1 _ _ _ RC (by decide)
            clear RT RO RC C1 F1 IA
            obtain ⟨t0, t1, t2⟩ := rowC RT_1
            obtain ⟨k0, k1, k2⟩ := rowC RC_1
            have kf := fun j => Row.frozen RC_1 j
            obtain ⟨s0, s1, s2, s3⟩ := row4C RS
            go_wp2_with fail
            refine (unhide HC1 _ E1).mono ?_
            rintro r wz2 ⟨⟨kop, knum, ktext, kan, knn, kcn, kka, kkn, kkc⟩, rfl, hs2, hb2⟩
            clear t0 t1 t2 k0 k1 k2 kf s0 s1 s2 s3
            have HS2 := hide ((hs2 wz2 ⟨Nat.le_refl _, fun _ _ _ => rfl⟩ (unhide HZ1)).2 (AL.length) (by have := unhide HZ1; have := unhide HBD; omega))
            simp only [Int.natCast_add, Int.cast_ofNat_Int] at HS2
            clear hs2
            have E2 := E1.trans (hb2.mono E1.size)
            have I2 := I1.below hb2
            have F2 := KJ.of_below hb2
            clear I1
            have RT_2 := F2 _ _ _ RT_1 (by decide)
            clear RT_1
            have RO_2 := F2 _ _ _ RO_1 (by decide)
            clear RO_1
            have RC_2 := F2 _ _ _ RC_1 (by decide)
            clear RC_1
            have RS_2 := F2 _ _ _ RS (by decide)
            clear RS
            clear F2
            clear hb2
            dsimp only
            obtain ⟨t0, t1, t2⟩ := rowC RT_2
            obtain ⟨k0, k1, k2⟩ := rowC RC_2
            have kf := fun j => Row.frozen RC_2 j
            obtain ⟨s0, s1, s2, s3⟩ := row4C RS_2
            go_wp2_with fail
            refine (unhide HS2).mono ?_
            rintro r wz3 ⟨⟨u3, rfl, G3⟩, hb3⟩
            clear t0 t1 t2 k0 k1 k2 kf s0 s1 s2 s3
            clear HS2
            have hGl3 := G3.lt
            obtain ⟨x3, c3, hv3, hx3⟩ := G3.form
            rw [treeI_len] at hv3 hx3
            subst hv3
            have E3 := E2.trans (hb3.mono E2.size)
            have I3 := I2.below hb3
            have F3 := KJ.of_below hb3
            clear I2
            have RT_3 := F3 _ _ _ RT_2 (by decide)
            clear RT_2
            have RO_3 := F3 _ _ _ RO_2 (by decide)
            clear RO_2
            have RC_3 := F3 _ _ _ RC_2 (by decide)
            clear RC_2
            have RS_3 := F3 _ _ _ RS_2 (by decide)
            clear RS_2
            clear F3
            clear hb3
            dsimp only
            obtain ⟨g4, V4, hg4, hK14, hK24, hK34⟩ := hx3 (sizeI_pos _)
            subst hg4
            have hKl4 : V4.length = sizeI e1 := by rw [← List.length_map (f := J5.i), hK14, treeI_len]
            have hz4 := E3.size
            have hy4 := RC_3.lt
            obtain ⟨t0, t1, t2⟩ := rowC RT_3
            obtain ⟨k0, k1, k2⟩ := rowC RC_3
            have kf := fun j => Row.frozen RC_3 j
            obtain ⟨s0, s1, s2, s3⟩ := row4C RS_3
            go_wp2_with (at_builtin; refine wpList_insK rfl _ _ rfl w3 (w3.heap.size + 1) _ (AL) rfl I3 ⟨g4, 0, none⟩ (sizeI e1) c3 V4 rfl hKl4 hK24 hK34 (by (try simp only [List.length_append, List.length_map, List.length_cons, List.length_nil]); have := unhide HBD; omega) (by omega) ?_)
            intro x4 y4 c4 wz4 Q4 M4 F4 T4 HY4
            clear t0 t1 t2 k0 k1 k2 kf s0 s1 s2 s3
            have E4 := E3.trans (M4.mono (Nat.le_succ _))
            have Z4 : InsO w3 (w3.heap.size + 1) (.slice x4 y4 c4) (AL ++ treeI e1 AL.length) wz4 := by simpa [List.append_assoc, hK14] using Q4
            clear Q4 I3 hz4 hy4 M4 T4 hK14 hK24 hK34 hKl4
            have RT_4 := F4 _ _ _ RT_3 (by decide)
            clear RT_3
            have RO_4 := F4 _ _ _ RO_3 (by decide)
            clear RO_3
            have RC_4 := F4 _ _ _ RC_3 (by decide)
            clear RC_3
            have RS_4 := F4 _ _ _ RS_3 (by decide)
            clear RS_3
            clear F4
            have hYi : (y4 : Int) ≤ 13200 := by have := unhide HY4; have := unhide HBD; omega
            have HYB := hide (show y4 = AL.length + sizeI e1 from unhide HY4)
            have HBD0 := HBD
            clear HBD
            have HBD := hide (And.intro (unhide HBD0) (unhide HYB))
            have C5 := (Below.refl wz4.heap.size wz4).alloc (Nat.le_refl _) (.cells #[.int .i64 24, .int .i64 0, .int .i64 0, .int .i64 0, .string ⟨#[]⟩, .slice none 0 0] 59)
            have hAB : ∀ q, (Value.slice x4 y4 c4).ownBlock = some q → q < wz4.heap.size := fun q hq => by have := (Z4.lt q hq).2; simpa using this
            have JL : InsO w3 (wz4.heap.size) (.slice (some ⟨wz4.heap.size, 0, none⟩) 1 1) [(plainJ 24 0).i] (wz4.alloc (.cells #[.int .i64 24, .int .i64 0, .int .i64 0, .int .i64 0, .string ⟨#[]⟩, .slice none 0 0] 59)) := by have := InsO.lit w3 wz4 wz4.heap.size (plainJ 24 0) (StZ.none0 w3) (Nat.le_refl _); (try simp only [World.size_alloc] at this); exact this
            have hzl5 := RC_4.lt
            obtain ⟨ot0, ot1, ot2⟩ := rowC RT_4
            obtain ⟨ok0, ok1, ok2⟩ := rowC RC_4
            obtain ⟨os0, os1, os2, os3⟩ := row4C RS_4
            have E5 := E4.trans (C5.mono E4.size)
            have I5 := Z4.below C5
            have F5 := KJ.of_below C5
            clear Z4
            have RT_5 := F5 _ _ _ RT_4 (by decide)
            clear RT_4
            have RO_5 := F5 _ _ _ RO_4 (by decide)
            clear RO_4
            have RC_5 := F5 _ _ _ RC_4 (by decide)
            clear RC_4
            have RS_5 := F5 _ _ _ RS_4 (by decide)
            clear RS_4
            clear F5
            clear C5
            have HND := hide (show (1 : Nat) ≤ 13200 ∧ 0 < 1 from ⟨by decide, by decide⟩)
            have C6 := (Below.refl (wz4.alloc (.cells #[.int .i64 24, .int .i64 0, .int .i64 0, .int .i64 0, .string ⟨#[]⟩, .slice none 0 0] 59)).heap.size (wz4.alloc (.cells #[.int .i64 24, .int .i64 0, .int .i64 0, .int .i64 0, .string ⟨#[]⟩, .slice none 0 0] 59))).alloc (Nat.le_refl _) (.cells #[.int .i64 23, .int .i64 ((y4 : Int) + 1 + 1), .int .i64 0, .int .i64 0, .string ⟨#[]⟩, .slice none 0 0] 59)
            have P6 := I5.below C6
            have hz6 := E5.size
            have hy6 := RC_5.lt
            have FC6 := KJ.of_below C6
            have JP6 := JL.below C6
            obtain ⟨t0, t1, t2⟩ := rowC RT_5
            obtain ⟨k0, k1, k2⟩ := rowC RC_5
            have kf := fun j => Row.frozen RC_5 j
            obtain ⟨s0, s1, s2, s3⟩ := row4C RS_5
            go_wp2_with (at_builtin; refine wpList_insK rfl _ _ rfl w3 (w3.heap.size + 1) _ (AL ++ treeI e1 AL.length) rfl P6 ⟨wz4.heap.size + 1, 0, none⟩ 1 1 [plainJ 23 ((y4 : Int) + 1 + 1)] rfl rfl (NmO.plain _ _ _) (six_cell (wz4.alloc (.cells #[.int .i64 24, .int .i64 0, .int .i64 0, .int .i64 0, .string ⟨#[]⟩, .slice none 0 0] 59)) (plainJ 23 ((y4 : Int) + 1 + 1)) _ (by simp)) (by (try simp only [List.length_append, List.length_map, List.length_cons, List.length_nil, treeI_len]); have := unhide HBD; omega) (by simp; omega) ?_)
            intro x6 y6 c6 wz6 Q6 M6 F6 T6 HY6
            clear t0 t1 t2 k0 k1 k2 kf s0 s1 s2 s3
            have E6 := (E5.trans (C6.mono hz6)).trans (M6.mono (Nat.le_succ _))
            have FF6 := FC6.trans F6
            have Z6 : InsO w3 (w3.heap.size + 1) (.slice x6 y6 c6) (AL ++ treeI e1 AL.length ++ [(plainJ 23 ((y4 : Int) + 1 + 1)).i]) wz6 := by simpa [List.append_assoc] using Q6
            have JJ6 := JP6.keepB (w' := wz6) (fun q hq => T6 q (by have := (JP6.lt q hq).2; simpa using this) (fun e => by have a1 := (JP6.lt q hq).1; have a2 := hAB q e; omega))
            clear JP6 JL
            clear Q6 I5 P6 hz6 hy6 M6 T6 C6 FC6 F6
            have RT_6 := FF6 _ _ _ RT_5 (by decide)
            clear RT_5
            have RO_6 := FF6 _ _ _ RO_5 (by decide)
            clear RO_5
            have RC_6 := FF6 _ _ _ RC_5 (by decide)
            clear RC_5
            have RS_6 := FF6 _ _ _ RS_5 (by decide)
            clear RS_5
            clear FF6
            obtain ⟨g7, V7, hg7, hKl7, hK17, hK27, hK37⟩ := JJ6.src (by decide)
            cases hg7
            have hz7 := E6.size
            have hy7 := RC_6.lt
            obtain ⟨t0, t1, t2⟩ := rowC RT_6
            obtain ⟨k0, k1, k2⟩ := rowC RC_6
            have kf := fun j => Row.frozen RC_6 j
            obtain ⟨s0, s1, s2, s3⟩ := row4C RS_6
            go_wp2_with (at_builtin; refine wpList_insK rfl _ _ rfl w3 (w3.heap.size + 1) _ (AL ++ treeI e1 AL.length ++ [(plainJ 23 ((y4 : Int) + 1 + 1)).i]) rfl Z6 _ _ _ V7 rfl hKl7 hK27 hK37 (by (try simp only [List.length_append, List.length_map, List.length_cons, List.length_nil, treeI_len]); have := unhide HBD; have := unhide HND; omega) (by first | omega | (simp; omega)) ?_)
            intro x7 y7 c7 wz7 Q7 M7 F7 T7 HY7
            clear t0 t1 t2 k0 k1 k2 kf s0 s1 s2 s3
            have E7 := E6.trans (M7.mono (Nat.le_succ _))
            have Z7 : InsO w3 (w3.heap.size + 1) (.slice x7 y7 c7) (AL ++ treeI e1 AL.length ++ [(plainJ 23 ((y4 : Int) + 1 + 1)).i] ++ ([(plainJ 24 0).i])) wz7 := by simpa [List.append_assoc, hK17] using Q7
            clear Q7 Z6 hz7 hy7 M7 T7 hK17 hK27 hK37 hKl7 JJ6
            have RT_7 := F7 _ _ _ RT_6 (by decide)
            clear RT_6
            have RO_7 := F7 _ _ _ RO_6 (by decide)
            clear RO_6
            have RC_7 := F7 _ _ _ RC_6 (by decide)
            clear RC_6
            have RS_7 := F7 _ _ _ RS_6 (by decide)
            clear RS_6
            clear F7
            obtain ⟨t0, t1, t2⟩ := rowC RT_7
            obtain ⟨k0, k1, k2⟩ := rowC RC_7
            have kf := fun j => Row.frozen RC_7 j
            obtain ⟨s0, s1, s2, s3⟩ := row4C RS_7
            have hzN := RC_7.lt
            have HIn := hide Z7
            go_wp2_with fail
            go_roundw
            case rel =>
              refine ⟨j + 1, unhide Hlt, by go_num, ?_, RT_7, RO_7, ?_, E7, hzN⟩
              · rw [unhide HAL]
                have hy := unhide HYB
                have hyi : (y4 : Int) = (AL.length : Int) + (sizeI e1 : Nat) := by omega
                have hI := unhide HIn
                rw [st_when0, unhide HX1]
                rw [hyi] at hI
                simpa [List.append_assoc, plainJ] using hI
              · have e : ((kN + letN ⟨2, nm, (q : Int), -1⟩ : Nat) : Int) = (kN : Int) := by simp [letN]
                rw [unhide HLT, e]
                exact RC_7
            case measure => have := unhide Hlt; simp [intOf]; omega
          · obtain ⟨p, rfl⟩ : ∃ p : Nat, gr = p := ⟨gr.toNat, by omega⟩
            have hpl : p < Es.length := by omega
            have HC2 := hide (unhide HQ p hpl)
            have hs2 : szAt Es (p : Int) = sizeI (exAt Es p) := by rw [szAt, if_neg (by omega)]
            have p0 : (0 : Int) ≤ (p : Int) := by omega
            have HZ2 := hide (show sizeI (exAt Es p) ≤ 1048576 by omega)
            have HBD := hide (show AL.length + (sizeI (exAt Es q) + sizeI (exAt Es p) + 2) ≤ 13200 by omega)
            clear hr1 hr2 hbd hs1 hs2 hql hpl hcd hg
            generalize hX1 : exAt Es (q : Int) = e1 at HC1 HBD HZ1
            generalize hX2 : exAt Es (p : Int) = e2 at HC2 HBD HZ2
            have HX1 := hide hX1
            have HX2 := hide hX2
            clear hX1 hX2
            have C1 := (Below.refl wr.heap.size wr).alloc (Nat.le_refl _) (.cells #[.int .i64 2, .string nm, .int .i64 q, .int .i64 p] 49)
            have RS := Row.new wr #[.int .i64 2, .string nm, .int .i64 q, .int .i64 p] 49
            have E1 := D0.trans (C1.mono D0.size)
            have I1 := IA.below C1
            have F1 := KJ.of_below C1
            have RT_1 := F1 _ _ _ RT (by decide)
            have RO_1 := F1 _ _ _ RO (by decide)
            have RC_1 := F1 _ _ _ RC (by decide)
            clear RT RO RC C1 F1 IA
            obtain ⟨t0, t1, t2⟩ := rowC RT_1
            obtain ⟨k0, k1, k2⟩ := rowC RC_1
            have kf := fun j => Row.frozen RC_1 j
            obtain ⟨s0, s1, s2, s3⟩ := row4C RS
            go_wp2_with fail
            refine (unhide HC1 _ E1).mono ?_
            rintro r wz2 ⟨⟨kop, knum, ktext, kan, knn, kcn, kka, kkn, kkc⟩, rfl, hs2, hb2⟩
            clear t0 t1 t2 k0 k1 k2 kf s0 s1 s2 s3
            have HS2 := hide ((hs2 wz2 ⟨Nat.le_refl _, fun _ _ _ => rfl⟩ (unhide HZ1)).2 (AL.length) (by have := unhide HZ1; have := unhide HBD; omega))
            simp only [Int.natCast_add, Int.cast_ofNat_Int] at HS2
            clear hs2
            have E2 := E1.trans (hb2.mono E1.size)
            have I2 := I1.below hb2
            have F2 := KJ.of_below hb2
            clear I1
            have RT_2 := F2 _ _ _ RT_1 (by decide)
            clear RT_1
            have RO_2 := F2 _ _ _ RO_1 (by decide)
            clear RO_1
            have RC_2 := F2 _ _ _ RC_1 (by decide)
            clear RC_1
            have RS_2 := F2 _ _ _ RS (by decide)
            clear RS
            clear F2
            clear hb2
            dsimp only
            obtain ⟨t0, t1, t2⟩ := rowC RT_2
            obtain ⟨k0, k1, k2⟩ := rowC RC_2
            have kf := fun j => Row.frozen RC_2 j
            obtain ⟨s0, s1, s2, s3⟩ := row4C RS_2
            go_wp2_with fail
            refine (unhide HS2).mono ?_
            rintro r wz3 ⟨⟨u3, rfl, G3⟩, hb3⟩
            clear t0 t1 t2 k0 k1 k2 kf s0 s1 s2 s3
            clear HS2
            have hGl3 := G3.lt
            obtain ⟨x3, c3, hv3, hx3⟩ := G3.form
            rw [treeI_len] at hv3 hx3
            subst hv3
            have E3 := E2.trans (hb3.mono E2.size)
            have I3 := I2.below hb3
            have F3 := KJ.of_below hb3
            clear I2
            have RT_3 := F3 _ _ _ RT_2 (by decide)
            clear RT_2
            have RO_3 := F3 _ _ _ RO_2 (by decide)
            clear RO_2
            have RC_3 := F3 _ _ _ RC_2 (by decide)
            clear RC_2
            have RS_3 := F3 _ _ _ RS_2 (by decide)
            clear RS_2
            clear F3
            clear hb3
            dsimp only
            obtain ⟨g4, V4, hg4, hK14, hK24, hK34⟩ := hx3 (sizeI_pos _)
            subst hg4
            have hKl4 : V4.length = sizeI e1 := by rw [← List.length_map (f := J5.i), hK14, treeI_len]
            have hz4 := E3.size
            have hy4 := RC_3.lt
            obtain ⟨t0, t1, t2⟩ := rowC RT_3
            obtain ⟨k0, k1, k2⟩ := rowC RC_3
            have kf := fun j => Row.frozen RC_3 j
            obtain ⟨s0, s1, s2, s3⟩ := row4C RS_3
            go_wp2_with (at_builtin; refine wpList_insK rfl _ _ rfl w3 (w3.heap.size + 1) _ (AL) rfl I3 ⟨g4, 0, none⟩ (sizeI e1) c3 V4 rfl hKl4 hK24 hK34 (by (try simp only [List.length_append, List.length_map, List.length_cons, List.length_nil]); have := unhide HBD; omega) (by omega) ?_)
            intro x4 y4 c4 wz4 Q4 M4 F4 T4 HY4
            clear t0 t1 t2 k0 k1 k2 kf s0 s1 s2 s3
            have E4 := E3.trans (M4.mono (Nat.le_succ _))
            have Z4 : InsO w3 (w3.heap.size + 1) (.slice x4 y4 c4) (AL ++ treeI e1 AL.length) wz4 := by simpa [List.append_assoc, hK14] using Q4
            clear Q4 I3 hz4 hy4 M4 T4 hK14 hK24 hK34 hKl4
            have RT_4 := F4 _ _ _ RT_3 (by decide)
            clear RT_3
            have RO_4 := F4 _ _ _ RO_3 (by decide)
            clear RO_3
            have RC_4 := F4 _ _ _ RC_3 (by decide)
            clear RC_3
            have RS_4 := F4 _ _ _ RS_3 (by decide)
            clear RS_3
            clear F4
            have hYi : (y4 : Int) ≤ 13200 := by have := unhide HY4; have := unhide HBD; omega
            have HYB := hide (show y4 = AL.length + sizeI e1 from unhide HY4)
            have HBD0 := HBD
            clear HBD
            have HBD := hide (And.intro (unhide HBD0) (unhide HYB))
            have C5 := (Below.refl wz4.heap.size wz4).alloc (Nat.le_refl _) (.cells #[.int .i64 24, .int .i64 0, .int .i64 0, .int .i64 0, .string ⟨#[]⟩, .slice none 0 0] 59)
            have hAB : ∀ q, (Value.slice x4 y4 c4).ownBlock = some q → q < wz4.heap.size := fun q hq => by have := (Z4.lt q hq).2; simpa using this
            have JL : InsO w3 (wz4.heap.size) (.slice (some ⟨wz4.heap.size, 0, none⟩) 1 1) [(plainJ 24 0).i] (wz4.alloc (.cells #[.int .i64 24, .int .i64 0, .int .i64 0, .int .i64 0, .string ⟨#[]⟩, .slice none 0 0] 59)) := by have := InsO.lit w3 wz4 wz4.heap.size (plainJ 24 0) (StZ.none0 w3) (Nat.le_refl _); (try simp only [World.size_alloc] at this); exact this
            have hzl5 := RC_4.lt
            obtain ⟨ot0, ot1, ot2⟩ := rowC RT_4
            obtain ⟨ok0, ok1, ok2⟩ := rowC RC_4
            obtain ⟨os0, os1, os2, os3⟩ := row4C RS_4
            have E5 := E4.trans (C5.mono E4.size)
            have I5 := Z4.below C5
            have F5 := KJ.of_below C5
            clear Z4
            have RT_5 := F5 _ _ _ RT_4 (by decide)
            clear RT_4
            have RO_5 := F5 _ _ _ RO_4 (by decide)
            clear RO_4
            have RC_5 := F5 _ _ _ RC_4 (by decide)
            clear RC_4
            have RS_5 := F5 _ _ _ RS_4 (by decide)
            clear RS_4
            clear F5
            clear C5
            clear JL hAB
            obtain ⟨t0, t1, t2⟩ := rowC RT_5
            obtain ⟨k0, k1, k2⟩ := rowC RC_5
            have kf := fun j => Row.frozen RC_5 j
            obtain ⟨s0, s1, s2, s3⟩ := row4C RS_5
            go_wp2_with fail
            refine (unhide HC2 _ E5).mono ?_
            rintro r wz6 ⟨⟨kop, knum, ktext, kan, knn, kcn, kka, kkn, kkc⟩, rfl, hs6, hb6⟩
            clear t0 t1 t2 k0 k1 k2 kf s0 s1 s2 s3
            have HS6 := hide ((hs6 wz6 ⟨Nat.le_refl _, fun _ _ _ => rfl⟩ (unhide HZ2)).2 (y4 + 1) (by have := unhide HZ2; have := unhide HBD; omega))
            simp only [Int.natCast_add, Int.cast_ofNat_Int] at HS6
            clear hs6
            have E6 := E5.trans (hb6.mono E5.size)
            have I6 := I5.below hb6
            have F6 := KJ.of_below hb6
            clear I5
            have RT_6 := F6 _ _ _ RT_5 (by decide)
            clear RT_5
            have RO_6 := F6 _ _ _ RO_5 (by decide)
            clear RO_5
            have RC_6 := F6 _ _ _ RC_5 (by decide)
            clear RC_5
            have RS_6 := F6 _ _ _ RS_5 (by decide)
            clear RS_5
            clear F6
            clear hb6
            have hAB : ∀ q, (Value.slice x4 y4 c4).ownBlock = some q → q < wz6.heap.size := fun q hq => (I6.lt q hq).2
            dsimp only
            obtain ⟨t0, t1, t2⟩ := rowC RT_6
            obtain ⟨k0, k1, k2⟩ := rowC RC_6
            have kf := fun j => Row.frozen RC_6 j
            obtain ⟨s0, s1, s2, s3⟩ := row4C RS_6
            go_wp2_with fail
            refine (unhide HS6).mono ?_
            rintro r wz7 ⟨⟨u7, rfl, G7⟩, hb7⟩
            clear t0 t1 t2 k0 k1 k2 kf s0 s1 s2 s3
            clear HS6
            have hzg1 := hb7.size
            have hzg2 := E6.size
            have hGl7 := G7.lt
            obtain ⟨x7, c7, hv7, hx7⟩ := G7.form
            rw [treeI_len] at hv7 hx7
            subst hv7
            have E7 := E6.trans (hb7.mono E6.size)
            have I7 := I6.below hb7
            have F7 := KJ.of_below hb7
            clear I6
            have RT_7 := F7 _ _ _ RT_6 (by decide)
            clear RT_6
            have RO_7 := F7 _ _ _ RO_6 (by decide)
            clear RO_6
            have RC_7 := F7 _ _ _ RC_6 (by decide)
            clear RC_6
            have RS_7 := F7 _ _ _ RS_6 (by decide)
            clear RS_6
            clear F7
            clear hb7
            dsimp only
            have C8 := (Below.refl wz7.heap.size wz7).alloc (Nat.le_refl _) (.cells #[.int .i64 25, .int .i64 0, .int .i64 0, .int .i64 0, .string ⟨#[]⟩, .slice none 0 0] 59)
            have P8 := G7.below C8
            have IP8 := I7.below C8
            have hz8 := E7.size
            have hy8 := RC_7.lt
            have FC8 := KJ.of_below C8
            obtain ⟨t0, t1, t2⟩ := rowC RT_7
            obtain ⟨k0, k1, k2⟩ := rowC RC_7
            have kf := fun j => Row.frozen RC_7 j
            obtain ⟨s0, s1, s2, s3⟩ := row4C RS_7
            go_wp2_with (at_builtin; refine wpList_insK rfl _ _ rfl w3 wz6.heap.size _ (treeI e2 (y4 + 1)) rfl P8 ⟨wz7.heap.size, 0, none⟩ 1 1 [plainJ 25 0] rfl rfl (NmO.plain _ _ _) (six_cell wz7 (plainJ 25 0) _ (by simp)) (by rw [treeI_len]; have := unhide HBD; omega) (by simp; omega) ?_)
            intro x8 y8 c8 wz8 Q8 M8 F8 T8 HY8
            clear t0 t1 t2 k0 k1 k2 kf s0 s1 s2 s3
            have E8 := (E7.trans (C8.mono hz8)).trans (M8.mono (by omega))
            have FF8 := FC8.trans F8
            have I8 := IP8.keepB (w' := wz8) (fun q hq => T8 q (by have := (IP8.lt q hq).2; simpa using this) (fun e => by have a1 := (P8.lt q e).1; have a2 := hAB q hq; omega))
            have JG : InsO w3 wz6.heap.size (.slice x8 y8 c8) (treeI e2 (y4 + 1) ++ [(plainJ 25 0).i]) wz8 := by simpa using Q8
            have HND := hide (show y8 ≤ 13200 ∧ 0 < y8 by have := unhide HY8; rw [treeI_len] at this; have := unhide HBD; omega)
            have hYd : (y8 : Int) ≤ 13200 := by have := unhide HND; omega
            clear Q8 I7 P8 IP8 G7 hz8 hy8 M8 T8 C8 FC8 F8
            have RT_8 := FF8 _ _ _ RT_7 (by decide)
            clear RT_7
            have RO_8 := FF8 _ _ _ RO_7 (by decide)
            clear RO_7
            have RC_8 := FF8 _ _ _ RC_7 (by decide)
            clear RC_7
            have RS_8 := FF8 _ _ _ RS_7 (by decide)
            clear RS_7
            clear FF8
            have C9 := (Below.refl wz8.heap.size wz8).alloc (Nat.le_refl _) (.cells #[.int .i64 23, .int .i64 ((y4 : Int) + 1 + (y8 : Int)), .int .i64 0, .int .i64 0, .string ⟨#[]⟩, .slice none 0 0] 59)
            have P9 := I8.below C9
            have hz9 := E8.size
            have hy9 := RC_8.lt
            have FC9 := KJ.of_below C9
            have JP9 := JG.below C9
            obtain ⟨t0, t1, t2⟩ := rowC RT_8
            obtain ⟨k0, k1, k2⟩ := rowC RC_8
            have kf := fun j => Row.frozen RC_8 j
            obtain ⟨s0, s1, s2, s3⟩ := row4C RS_8
            go_wp2_with (at_builtin; refine wpList_insK rfl _ _ rfl w3 (w3.heap.size + 1) _ (AL ++ treeI e1 AL.length) rfl P9 ⟨wz8.heap.size, 0, none⟩ 1 1 [plainJ 23 ((y4 : Int) + 1 + (y8 : Int))] rfl rfl (NmO.plain _ _ _) (six_cell wz8 (plainJ 23 ((y4 : Int) + 1 + (y8 : Int))) _ (by simp)) (by (try simp only [List.length_append, List.length_map, List.length_cons, List.length_nil, treeI_len]); have := unhide HBD; omega) (by simp; omega) ?_)
            intro x9 y9 c9 wz9 Q9 M9 F9 T9 HY9
            clear t0 t1 t2 k0 k1 k2 kf s0 s1 s2 s3
            have E9 := (E8.trans (C9.mono hz9)).trans (M9.mono (Nat.le_succ _))
            have FF9 := FC9.trans F9
            have Z9 : InsO w3 (w3.heap.size + 1) (.slice x9 y9 c9) (AL ++ treeI e1 AL.length ++ [(plainJ 23 ((y4 : Int) + 1 + (y8 : Int))).i]) wz9 := by simpa [List.append_assoc] using Q9
            have JJ9 := JP9.keepB (w' := wz9) (fun q hq => T9 q (by have := (JP9.lt q hq).2; simpa using this) (fun e => by have a1 := (JP9.lt q hq).1; have a2 := hAB q e; omega))
            clear JP9 JG
            clear Q9 I8 P9 hz9 hy9 M9 T9 C9 FC9 F9
            have RT_9 := FF9 _ _ _ RT_8 (by decide)
            clear RT_8
            have RO_9 := FF9 _ _ _ RO_8 (by decide)
            clear RO_8
            have RC_9 := FF9 _ _ _ RC_8 (by decide)
            clear RC_8
            have RS_9 := FF9 _ _ _ RS_8 (by decide)
            clear RS_8
            clear FF9
            obtain ⟨g10, V10, hg10, hKl10, hK110, hK210, hK310⟩ := JJ9.src ((unhide HND).2)
            cases hg10
            have hz10 := E9.size
            have hy10 := RC_9.lt
            obtain ⟨t0, t1, t2⟩ := rowC RT_9
            obtain ⟨k0, k1, k2⟩ := rowC RC_9
            have kf := fun j => Row.frozen RC_9 j
            obtain ⟨s0, s1, s2, s3⟩ := row4C RS_9
            go_wp2_with (at_builtin; refine wpList_insK rfl _ _ rfl w3 (w3.heap.size + 1) _ (AL ++ treeI e1 AL.length ++ [(plainJ 23 ((y4 : Int) + 1 + (y8 : Int))).i]) rfl Z9 _ _ _ V10 rfl hKl10 hK210 hK310 (by (try simp only [List.length_append, List.length_map, List.length_cons, List.length_nil, treeI_len]); have := unhide HBD; have := unhide HND; omega) (by first | omega | (simp; omega)) ?_)
            intro x10 y10 c10 wz10 Q10 M10 F10 T10 HY10
            clear t0 t1 t2 k0 k1 k2 kf s0 s1 s2 s3
            have E10 := E9.trans (M10.mono (Nat.le_succ _))
            have Z10 : InsO w3 (w3.heap.size + 1) (.slice x10 y10 c10) (AL ++ treeI e1 AL.length ++ [(plainJ 23 ((y4 : Int) + 1 + (y8 : Int))).i] ++ (treeI e2 (y4 + 1) ++ [(plainJ 25 0).i])) wz10 := by simpa [List.append_assoc, hK110] using Q10
            clear Q10 Z9 hz10 hy10 M10 T10 hK110 hK210 hK310 hKl10 JJ9
            have RT_10 := F10 _ _ _ RT_9 (by decide)
            clear RT_9
            have RO_10 := F10 _ _ _ RO_9 (by decide)
            clear RO_9
            have RC_10 := F10 _ _ _ RC_9 (by decide)
            clear RC_9
            have RS_10 := F10 _ _ _ RS_9 (by decide)
            clear RS_9
            clear F10
            obtain ⟨t0, t1, t2⟩ := rowC RT_10
            obtain ⟨k0, k1, k2⟩ := rowC RC_10
            have kf := fun j => Row.frozen RC_10 j
            obtain ⟨s0, s1, s2, s3⟩ := row4C RS_10
            have hzN := RC_10.lt
            have HIn := hide Z10
            go_wp2_with fail
            go_roundw
            case rel =>
              refine ⟨j + 1, unhide Hlt, by go_num, ?_, RT_10, RO_10, ?_, E10, hzN⟩
              · rw [unhide HAL]
                have hy := unhide HYB
                have hyi : (y4 : Int) = (AL.length : Int) + (sizeI e1 : Nat) := by omega
                have hI := unhide HIn
                have hd := unhide HY8
                rw [treeI_len] at hd
                have hdi : (y8 : Int) = (sizeI e2 : Nat) + 1 := by omega
                rw [st_when Es kN AL.length nm q p (by omega), unhide HX1, unhide HX2]
                rw [hdi, hyi, hy] at hI
                simpa [List.append_assoc, plainJ] using hI
              · have e : ((kN + letN ⟨2, nm, (q : Int), (p : Int)⟩ : Nat) : Int) = (kN : Int) := by simp [letN]
                rw [unhide HLT, e]
                exact RC_10
            case measure => have := unhide Hlt; simp [intOf]; omega
        · by_cases hg : gr = -1
          · subst hg
            have HBD := hide (show AL.length + 2 ≤ 13200 by omega)
            clear hr1 hr2 hbd
            have C1 := (Below.refl wr.heap.size wr).alloc (Nat.le_refl _) (.cells #[.int .i64 3, .string nm, .int .i64 (-1), .int .i64 (-1)] 49)
            have RS := Row.new wr #[.int .i64 3, .string nm, .int .i64 (-1), .int .i64 (-1)] 49
            have E1 := D0.trans (C1.mono D0.size)
            have I1 := IA.below C1
            have F1 := KJ.of_below C1
            have RT_1 := F1 _ _ _ RT (by decide)
            have RO_1 := F1 _ _ _ RO (by decide)
            have RC_1 := F1 _ _ _ RC (by decide)
            clear RT RO RC C1 F1 IA
            have C2 := (Below.refl (wr.alloc (.cells #[.int .i64 3, .string nm, .int .i64 (-1), .int .i64 (-1)] 49)).heap.size (wr.alloc (.cells #[.int .i64 3, .string nm, .int .i64 (-1), .int .i64 (-1)] 49))).alloc (Nat.le_refl _) (.cells #[.int .i64 24, .int .i64 0, .int .i64 0, .int .i64 0, .string ⟨#[]⟩, .slice none 0 0] 59)
            have hAB : ∀ q, (Value.slice xa AL.length ca).ownBlock = some q → q < wr.heap.size + 1 := fun q hq => by have := (I1.lt q hq).2; simpa using this
            have JL : InsO w3 (wr.heap.size + 1) (.slice (some ⟨wr.heap.size + 1, 0, none⟩) 1 1) [(plainJ 24 0).i] ((wr.alloc (.cells #[.int .i64 3, .string nm, .int .i64 (-1), .int .i64 (-1)] 49)).alloc (.cells #[.int .i64 24, .int .i64 0, .int .i64 0, .int .i64 0, .string ⟨#[]⟩, .slice none 0 0] 59)) := by have := InsO.lit w3 (wr.alloc (.cells #[.int .i64 3, .string nm, .int .i64 (-1), .int .i64 (-1)] 49)) (wr.alloc (.cells #[.int .i64 3, .string nm, .int .i64 (-1), .int .i64 (-1)] 49)).heap.size (plainJ 24 0) (StZ.none0 w3) (Nat.le_refl _); (try simp only [World.size_alloc] at this); exact this
            have hzl2 := RC_1.lt
            obtain ⟨ot0, ot1, ot2⟩ := rowC RT_1
            obtain ⟨ok0, ok1, ok2⟩ := rowC RC_1
            obtain ⟨os0, os1, os2, os3⟩ := row4C RS
            have E2 := E1.trans (C2.mono E1.size)
            have I2 := I1.below C2
            have F2 := KJ.of_below C2
            clear I1
            have RT_2 := F2 _ _ _ RT_1 (by decide)
            clear RT_1
            have RO_2 := F2 _ _ _ RO_1 (by decide)
            clear RO_1
            have RC_2 := F2 _ _ _ RC_1 (by decide)
            clear RC_1
            have RS_2 := F2 _ _ _ RS (by decide)
            clear RS
            clear F2
            clear C2
            have HND := hide (show (1 : Nat) ≤ 13200 ∧ 0 < 1 from ⟨by decide, by decide⟩)
            obtain ⟨g3, V3, hg3, hKl3, hK13, hK23, hK33⟩ := JL.src (by decide)
            cases hg3
            have hz3 := E2.size
            have hy3 := RC_2.lt
            obtain ⟨t0, t1, t2⟩ := rowC RT_2
            obtain ⟨k0, k1, k2⟩ := rowC RC_2
            have kf := fun j => Row.frozen RC_2 j
            obtain ⟨s0, s1, s2, s3⟩ := row4C RS_2
            go_wp2_with (at_builtin; refine wpList_insK rfl _ _ rfl w3 (w3.heap.size + 1) _ (AL) rfl I2 _ _ _ V3 rfl hKl3 hK23 hK33 (by (try simp only [List.length_append, List.length_map, List.length_cons, List.length_nil, treeI_len]); have := unhide HBD; have := unhide HND; omega) (by first | omega | (simp; omega)) ?_)
            intro x3 y3 c3 wz3 Q3 M3 F3 T3 HY3
            clear t0 t1 t2 k0 k1 k2 kf s0 s1 s2 s3
            have E3 := E2.trans (M3.mono (Nat.le_succ _))
            have Z3 : InsO w3 (w3.heap.size + 1) (.slice x3 y3 c3) (AL ++ ([(plainJ 24 0).i])) wz3 := by simpa [List.append_assoc, hK13] using Q3
            clear Q3 I2 hz3 hy3 M3 T3 hK13 hK23 hK33 hKl3 JL
            have RT_3 := F3 _ _ _ RT_2 (by decide)
            clear RT_2
            have RO_3 := F3 _ _ _ RO_2 (by decide)
            clear RO_2
            have RC_3 := F3 _ _ _ RC_2 (by decide)
            clear RC_2
            have RS_3 := F3 _ _ _ RS_2 (by decide)
            clear RS_2
            clear F3
            obtain ⟨t0, t1, t2⟩ := rowC RT_3
            obtain ⟨k0, k1, k2⟩ := rowC RC_3
            have kf := fun j => Row.frozen RC_3 j
            obtain ⟨s0, s1, s2, s3⟩ := row4C RS_3
            have hzN := RC_3.lt
            have HIn := hide Z3
            go_wp2_with fail
            go_roundw
            case rel =>
              refine ⟨j + 1, unhide Hlt, by go_num, ?_, RT_3, RO_3, ?_, E3, hzN⟩
              · rw [unhide HAL]
                have hI := unhide HIn
                rw [st_else0]
                simpa [List.append_assoc, plainJ] using hI
              · have e : ((kN + letN ⟨3, nm, -1, -1⟩ : Nat) : Int) = (kN : Int) := by simp [letN]
                rw [unhide HLT, e]
                exact RC_3
            case measure => have := unhide Hlt; simp [intOf]; omega
          · obtain ⟨p, rfl⟩ : ∃ p : Nat, gr = p := ⟨gr.toNat, by omega⟩
            have hpl : p < Es.length := by omega
            have HC2 := hide (unhide HQ p hpl)
            have hs2 : szAt Es (p : Int) = sizeI (exAt Es p) := by rw [szAt, if_neg (by omega)]
            have p0 : (0 : Int) ≤ (p : Int) := by omega
            have HZ2 := hide (show sizeI (exAt Es p) ≤ 1048576 by omega)
            have HBD := hide (show AL.length + (sizeI (exAt Es p) + 2) ≤ 13200 by omega)
            clear hr1 hr2 hbd hs2 hpl hg
            generalize hX2 : exAt Es (p : Int) = e2 at HC2 HBD HZ2
            have HX2 := hide hX2
            clear hX2
            have C1 := (Below.refl wr.heap.size wr).alloc (Nat.le_refl _) (.cells #[.int .i64 3, .string nm, .int .i64 (-1), .int .i64 p] 49)
            have RS := Row.new wr #[.int .i64 3, .string nm, .int .i64 (-1), .int .i64 p] 49
            have E1 := D0.trans (C1.mono D0.size)
            have I1 := IA.below C1
            have F1 := KJ.of_below C1
            have RT_1 := F1 _ _ _ RT (by decide)
            have RO_1 := F1 _ _ _ RO (by decide)
            have RC_1 := F1 _ _ _ RC (by decide)
            clear RT RO RC C1 F1 IA
            have C2 := (Below.refl (wr.alloc (.cells #[.int .i64 3, .string nm, .int .i64 (-1), .int .i64 p] 49)).heap.size (wr.alloc (.cells #[.int .i64 3, .string nm, .int .i64 (-1), .int .i64 p] 49))).alloc (Nat.le_refl _) (.cells #[.int .i64 24, .int .i64 0, .int .i64 0, .int .i64 0, .string ⟨#[]⟩, .slice none 0 0] 59)
            have hAB : ∀ q, (Value.slice xa AL.length ca).ownBlock = some q → q < wr.heap.size + 1 := fun q hq => by have := (I1.lt q hq).2; simpa using this
            have JL : InsO w3 (wr.heap.size + 1) (.slice (some ⟨wr.heap.size + 1, 0, none⟩) 1 1) [(plainJ 24 0).i] ((wr.alloc (.cells #[.int .i64 3, .string nm, .int .i64 (-1), .int .i64 p] 49)).alloc (.cells #[.int .i64 24, .int .i64 0, .int .i64 0, .int .i64 0, .string ⟨#[]⟩, .slice none 0 0] 59)) := by have := InsO.lit w3 (wr.alloc (.cells #[.int .i64 3, .string nm, .int .i64 (-1), .int .i64 p] 49)) (wr.alloc (.cells #[.int .i64 3, .string nm, .int .i64 (-1), .int .i64 p] 49)).heap.size (plainJ 24 0) (StZ.none0 w3) (Nat.le_refl _); (try simp only [World.size_alloc] at this); exact this
            have hzl2 := RC_1.lt
            obtain ⟨ot0, ot1, ot2⟩ := rowC RT_1
            obtain ⟨ok0, ok1, ok2⟩ := rowC RC_1
            obtain ⟨os0, os1, os2, os3⟩ := row4C RS
            have E2 := E1.trans (C2.mono E1.size)
            have I2 := I1.below C2
            have F2 := KJ.of_below C2
            clear I1
            have RT_2 := F2 _ _ _ RT_1 (by decide)
            clear RT_1
            have RO_2 := F2 _ _ _ RO_1 (by decide)
            clear RO_1
            have RC_2 := F2 _ _ _ RC_1 (by decide)
            clear RC_1
            have RS_2 := F2 _ _ _ RS (by decide)
            clear RS
            clear F2
            clear C2
            clear JL hAB
            obtain ⟨t0, t1, t2⟩ := rowC RT_2
            obtain ⟨k0, k1, k2⟩ := rowC RC_2
            have kf := fun j => Row.frozen RC_2 j
            obtain ⟨s0, s1, s2, s3⟩ := row4C RS_2
            go_wp2_with fail
            refine (unhide HC2 _ E2).mono ?_
            rintro r wz3 ⟨⟨kop, knum, ktext, kan, knn, kcn, kka, kkn, kkc⟩, rfl, hs3, hb3⟩
            clear t0 t1 t2 k0 k1 k2 kf s0 s1 s2 s3
            have HS3 := hide ((hs3 wz3 ⟨Nat.le_refl _, fun _ _ _ => rfl⟩ (unhide HZ2)).2 (AL.length) (by have := unhide HZ2; have := unhide HBD; omega))
            simp only [Int.natCast_add, Int.cast_ofNat_Int] at HS3
            clear hs3
            have E3 := E2.trans (hb3.mono E2.size)
            have I3 := I2.below hb3
            have F3 := KJ.of_below hb3
            clear I2
            have RT_3 := F3 _ _ _ RT_2 (by decide)
            clear RT_2
            have RO_3 := F3 _ _ _ RO_2 (by decide)
            clear RO_2
            have RC_3 := F3 _ _ _ RC_2 (by decide)
            clear RC_2
            have RS_3 := F3 _ _ _ RS_2 (by decide)
            clear RS_2
            clear F3
            clear hb3
            have hAB : ∀ q, (Value.slice xa AL.length ca).ownBlock = some q → q < wz3.heap.size := fun q hq => (I3.lt q hq).2
            dsimp only
            obtain ⟨t0, t1, t2⟩ := rowC RT_3
            obtain ⟨k0, k1, k2⟩ := rowC RC_3
            have kf := fun j => Row.frozen RC_3 j
            obtain ⟨s0, s1, s2, s3⟩ := row4C RS_3
            go_wp2_with fail
            refine (unhide HS3).mono ?_
            rintro r wz4 ⟨⟨u4, rfl, G4⟩, hb4⟩
            clear t0 t1 t2 k0 k1 k2 kf s0 s1 s2 s3
            clear HS3
            have hzg1 := hb4.size
            have hzg2 := E3.size
            have hGl4 := G4.lt
            obtain ⟨x4, c4, hv4, hx4⟩ := G4.form
            rw [treeI_len] at hv4 hx4
            subst hv4
            have E4 := E3.trans (hb4.mono E3.size)
            have I4 := I3.below hb4
            have F4 := KJ.of_below hb4
            clear I3
            have RT_4 := F4 _ _ _ RT_3 (by decide)
            clear RT_3
            have RO_4 := F4 _ _ _ RO_3 (by decide)
            clear RO_3
            have RC_4 := F4 _ _ _ RC_3 (by decide)
            clear RC_3
            have RS_4 := F4 _ _ _ RS_3 (by decide)
            clear RS_3
            clear F4
            clear hb4
            dsimp only
            have C5 := (Below.refl wz4.heap.size wz4).alloc (Nat.le_refl _) (.cells #[.int .i64 25, .int .i64 0, .int .i64 0, .int .i64 0, .string ⟨#[]⟩, .slice none 0 0] 59)
            have P5 := G4.below C5
            have IP5 := I4.below C5
            have hz5 := E4.size
            have hy5 := RC_4.lt
            have FC5 := KJ.of_below C5
            obtain ⟨t0, t1, t2⟩ := rowC RT_4
            obtain ⟨k0, k1, k2⟩ := rowC RC_4
            have kf := fun j => Row.frozen RC_4 j
            obtain ⟨s0, s1, s2, s3⟩ := row4C RS_4
            go_wp2_with (at_builtin; refine wpList_insK rfl _ _ rfl w3 wz3.heap.size _ (treeI e2 (AL.length)) rfl P5 ⟨wz4.heap.size, 0, none⟩ 1 1 [plainJ 25 0] rfl rfl (NmO.plain _ _ _) (six_cell wz4 (plainJ 25 0) _ (by simp)) (by rw [treeI_len]; have := unhide HBD; omega) (by simp; omega) ?_)
            intro x5 y5 c5 wz5 Q5 M5 F5 T5 HY5
            clear t0 t1 t2 k0 k1 k2 kf s0 s1 s2 s3
            have E5 := (E4.trans (C5.mono hz5)).trans (M5.mono (by omega))
            have FF5 := FC5.trans F5
            have I5 := IP5.keepB (w' := wz5) (fun q hq => T5 q (by have := (IP5.lt q hq).2; simpa using this) (fun e => by have a1 := (P5.lt q e).1; have a2 := hAB q hq; omega))
            have JG : InsO w3 wz3.heap.size (.slice x5 y5 c5) (treeI e2 (AL.length) ++ [(plainJ 25 0).i]) wz5 := by simpa using Q5
            have HND := hide (show y5 ≤ 13200 ∧ 0 < y5 by have := unhide HY5; rw [treeI_len] at this; have := unhide HBD; omega)
            have hYd : (y5 : Int) ≤ 13200 := by have := unhide HND; omega
            clear Q5 I4 P5 IP5 G4 hz5 hy5 M5 T5 C5 FC5 F5
            have RT_5 := FF5 _ _ _ RT_4 (by decide)
            clear RT_4
            have RO_5 := FF5 _ _ _ RO_4 (by decide)
            clear RO_4
            have RC_5 := FF5 _ _ _ RC_4 (by decide)
            clear RC_4
            have RS_5 := FF5 _ _ _ RS_4 (by decide)
            clear RS_4
            clear FF5
            obtain ⟨g6, V6, hg6, hKl6, hK16, hK26, hK36⟩ := JG.src ((unhide HND).2)
            cases hg6
            have hz6 := E5.size
            have hy6 := RC_5.lt
            obtain ⟨t0, t1, t2⟩ := rowC RT_5
            obtain ⟨k0, k1, k2⟩ := rowC RC_5
            have kf := fun j => Row.frozen RC_5 j
            obtain ⟨s0, s1, s2, s3⟩ := row4C RS_5
            go_wp2_with (at_builtin; refine wpList_insK rfl _ _ rfl w3 (w3.heap.size + 1) _ (AL) rfl I5 _ _ _ V6 rfl hKl6 hK26 hK36 (by (try simp only [List.length_append, List.length_map, List.length_cons, List.length_nil, treeI_len]); have := unhide HBD; have := unhide HND; omega) (by first | omega | (simp; omega)) ?_)
            intro x6 y6 c6 wz6 Q6 M6 F6 T6 HY6
            clear t0 t1 t2 k0 k1 k2 kf s0 s1 s2 s3
            have E6 := E5.trans (M6.mono (Nat.le_succ _))
            have Z6 : InsO w3 (w3.heap.size + 1) (.slice x6 y6 c6) (AL ++ (treeI e2 (AL.length) ++ [(plainJ 25 0).i])) wz6 := by simpa [List.append_assoc, hK16] using Q6
            clear Q6 I5 hz6 hy6 M6 T6 hK16 hK26 hK36 hKl6 JG
            have RT_6 := F6 _ _ _ RT_5 (by decide)
            clear RT_5
            have RO_6 := F6 _ _ _ RO_5 (by decide)
            clear RO_5
            have RC_6 := F6 _ _ _ RC_5 (by decide)
            clear RC_5
            have RS_6 := F6 _ _ _ RS_5 (by decide)
            clear RS_5
            clear F6
            obtain ⟨t0, t1, t2⟩ := rowC RT_6
            obtain ⟨k0, k1, k2⟩ := rowC RC_6
            have kf := fun j => Row.frozen RC_6 j
            obtain ⟨s0, s1, s2, s3⟩ := row4C RS_6
            have hzN := RC_6.lt
            have HIn := hide Z6
            go_wp2_with fail
            go_roundw
            case rel =>
              refine ⟨j + 1, unhide Hlt, by go_num, ?_, RT_6, RO_6, ?_, E6, hzN⟩
              · rw [unhide HAL]
                have hI := unhide HIn
                have hd := unhide HY5
                rw [treeI_len] at hd
                rw [st_else Es kN AL.length nm p (by omega), unhide HX2]
                simpa [List.append_assoc, plainJ] using hI
              · have e : ((kN + letN ⟨3, nm, -1, (p : Int)⟩ : Nat) : Int) = (kN : Int) := by simp [letN]
                rw [unhide HLT, e]
                exact RC_6
            case measure => have := unhide Hlt; simp [intOf]; omega
      · -- loop two
        have ej : j = m := by omega
        subst ej
        rw [show L.take j = L by rw [← unhide HL, List.take_length]] at IA RC
        have HAE := hide (show (linkI ⟨[], 0, []⟩ (allI5 Es 0 0 L)).withS (letsN L) = codeC Es L from (codeC_eq Es L).symm)
        have hAl : (allI5 Es 0 0 L).length ≤ 13200 := Nat.le_trans (allI5_len Es L (unhide HKD)) (unhide HSZ)
        have hok := allI5_ok (unhide HP).fields (unhide HEl) (unhide HEE) L (unhide HRT) (unhide HKD) 0 0
        generalize allI5 Es 0 0 L = AL at IA HAE hAl hok
        generalize letsN L = kN at RC HAE
        obtain ⟨xa, ca, rfl, hxa⟩ := IA.form
        have HOK := hide (show ∀ z ∈ AL, okV z.val from hok)
        clear HQ HLS HRT HKD HSZ HP HWL HV
        obtain ⟨ti, hti, hz0, hz1, hz2⟩ := info_parts infoIns
        obtain ⟨wA, hwA⟩ : ∃ wA, wA = wr := ⟨_, rfl⟩
        subst hwA
        obtain ⟨JA, hJ1, hJ2, hJ3⟩ := IA
        have hJl : JA.length = AL.length := by rw [← hJ1, List.length_map]
        rw [hJl] at hJ3
        obtain ⟨curA, RA⟩ : ∃ curA, AL.length = 0 ∨ ∃ ga, xa = some ⟨ga, 0, none⟩ ∧ Row wA ga curA 59 ∧ ga ≠ w3.heap.size ∧ ∀ r u, (JA.flatMap J5.cs)[r]? = some u → curA[r]? = some u := by
          rcases Nat.eq_zero_or_pos AL.length with q | q
          · exact ⟨#[], .inl q⟩
          · obtain ⟨x', c', e', hx'⟩ := owns_form2 hJ3
            cases e'
            obtain ⟨g, rfl, _, hgc⟩ := hx' q
            obtain ⟨cur, R6, _⟩ := row_of_owns hJ3
            exact ⟨cur, .inr ⟨g, rfl, R6, R6.ne_type RC (by decide), fun r u hu => (R6.cell r).symm.trans (hgc r u hu)⟩⟩
        have HNM := hide hJ2
        have HJ1 := hide hJ1
        have HJl := hide hJl
        have hS2 : S2 wA (w3.heap.size + 1) w3.heap.size kN (linkI ⟨[], 0, []⟩ (AL.take 0)) (.slice none 0 0) (.slice none 0 0) [] := ⟨RC, OwnP.nil _ _, World.ownsRow_nil _ _ _ _, Nat.lt_succ_self _⟩
        have HRA := hide RA
        clear hJ1 hJ2 hJ3 hJl hxa hok RA RC RT hj hzr
        go_wp2_with fail
        go_loopw [94] (fun i wq => ∃ (q : Nat) (pv iv : Value) (nv : List Value), q ≤ AL.length ∧ i = .int .i64 q ∧ S2 wq (w3.heap.size + 1) w3.heap.size kN (linkI ⟨[], 0, []⟩ (AL.take q)) pv iv nv ∧ K2 w3.heap.size wA wq ∧ Below w3.heap.size w3 wq) (fun i _ => AL.length - (intOf i).toNat)
        case atStart => exact ⟨0, _, _, _, Nat.zero_le _, rfl, hS2, fun _ _ _ R _ _ _ => R, D0⟩
        case round =>
          clear hS2
          obtain ⟨q, pv, iv, nv, hq, rfl, S, K, DQ⟩ := hrel
          by_cases hlt2 : q < AL.length
          · have ilq : (q : Int) < (AL.length : Int) := by omega
            rcases unhide HRA with h0 | ⟨ga, rfl, RA, hga, hcur⟩
            · omega
            have RAq := K _ _ _ RA hga (by decide) (by decide)
            have hqJ : q < JA.length := by rw [unhide HJl]; exact hlt2
            have hqi : AL[q] = JA[q].i := by have := unhide HJ1; simp only [← this, List.getElem_map]
            have cs : ∀ r, r < 6 → ∀ u, (JA[q].cs)[r]? = some u → wr.cell? ⟨ga, q * 6 + r, none⟩ = some u := fun r hr u hu => (RAq.cell (q * 6 + r)).trans (hcur _ _ (by rw [flat6_at JA q hqJ r hr]; exact hu))
            have c0 := cs 0 (by decide) _ rfl
            have c1 := cs 1 (by decide) _ rfl
            have c2 := cs 2 (by decide) _ rfl
            have c3 := cs 3 (by decide) _ rfl
            have c4 := cs 4 (by decide) _ rfl
            have c5 := cs 5 (by decide) _ rfl
            rw [Nat.add_zero] at c0
            have hnm := unhide HNM JA[q] (List.getElem_mem hqJ)
            have hov : okV JA[q].i.val := by rw [← hqi]; exact unhide HOK _ (List.getElem_mem hlt2)
            have HLK := hide (show linkI ⟨[], 0, []⟩ (AL.take (q + 1)) = putI (linkI ⟨[], 0, []⟩ (AL.take q)) JA[q].i by rw [List.take_succ_eq_append_getElem hlt2, linkI_app, hqi]; rfl)
            have HPL := hide (show (linkI ⟨[], 0, []⟩ (AL.take q)).pool.length ≤ 13200 ∧ (linkI ⟨[], 0, []⟩ (AL.take q)).ins.length ≤ 13200 by
              have h1 := linkI_pool (AL.take q) ⟨[], 0, []⟩
              have h2 := linkI_len (AL.take q) ⟨[], 0, []⟩
              have h3 := List.length_take_le q AL
              simp only [List.length_nil, Nat.zero_add] at h1 h2
              omega)
            have HPO := hide (linkI_ok (AL.take q) ⟨[], 0, []⟩ (fun z hz => unhide HOK z (List.mem_of_mem_take hz)) (fun v hv => absurd hv (by simp)))
            have Hlt2 := hide hlt2
            generalize linkI ⟨[], 0, []⟩ (AL.take q) = s at S HLK HPL HPO
            generalize JA[q] = J at c0 c1 c2 c3 c4 c5 hnm hov HLK
            obtain ⟨⟨op, arg, ⟨vk, vn, vt, vs⟩⟩, ia, inn, ic⟩ := J
            dsimp only at c0 c1 c2 c3 c4 c5 hnm hov
            clear cs hqi hqJ hlt2 RAq hcur RA
            have C1 := (Below.refl wr.heap.size wr).alloc (Nat.le_refl _) (.cells #[.int .i64 op, .int .i64 arg, .int .i64 vk, .int .i64 vn, .string vt, .slice ia inn ic] 59)
            have RI := Row.new wr #[.int .i64 op, .int .i64 arg, .int .i64 vk, .int .i64 vn, .string vt, .slice ia inn ic] 59
            have S1 := S.below C1
            have K1 := K.trans (K2.of_below C1)
            have D1 := DQ.trans (C1.mono DQ.size)
            by_cases hop : op = 1
            · subst hop
              obtain rfl := hnm.1.len
              obtain ⟨xp, cp, rfl, _⟩ := owns_form2 S1.pool.own
              obtain ⟨g0, g1, g2⟩ := rowC S1.row
              have hpl : s.pool.length ≤ 13200 := (unhide HPL).1
              have hvl : vs.length ≤ 255 := hov.2.1
              have VL := S1.pool.vls rfl (by omega) (unhide HPO)
              obtain ⟨i0, i1, i2, i3, i4, i5⟩ := row6J RI
              have HST := hide (hnm.1.below D1 (Nat.le_refl _))
              have hcz := hnm.2
              have HZV := hide (argAt_zero ⟨vk, vn, vt, vs⟩ s.pool)
              clear hnm hov HPO K S DQ C1
              go_wp2_with fail
              clear c0 c1 c2 c3 c4 c5 i0 i1 i2 i3 i4 i5 g0 g1 g2
              generalize hib : wr.heap.size = ib at RI ⊢
              generalize wr.alloc (.cells #[.int .i64 1, .int .i64 arg, .int .i64 vk, .int .i64 vn, .string vt, .slice ia vs.length ic] 59) = w1 at S1 K1 D1 RI VL HST ⊢
              clear hib
              go_loopw [12, 106] (fun v i wk => ∃ k : Nat, k ≤ s.pool.length ∧ i = .int .i64 k ∧ v = .int .i64 (argAt ⟨vk, vn, vt, vs⟩ s.pool k) ∧ Below w1.heap.size w1 wk) (fun _ i _ => s.pool.length - (intOf i).toNat)
              case atStart => exact ⟨0, Nat.zero_le _, rfl, by rw [unhide HZV], Below.refl _ _⟩
              case round =>
                obtain ⟨k, hk, rfl, rfl, DK⟩ := hrel
                by_cases hlk : k < s.pool.length
                · have ilk : (k : Int) < (s.pool.length : Int) := by omega
                  obtain ⟨pb, po, e9, hpb, an, nn, cn, p0, p1, p2, p3, pS⟩ := (VL.below DK (Nat.le_refl _)).cells k hlk
                  subst e9
                  have RIk := RI.after DK (Nat.le_refl _)
                  have rg := argAt_range ⟨vk, vn, vt, vs⟩ s.pool k
                  have HC := hide (fun W (hW : Below wr.heap.size wr W) => l5same_any s.pool[k] ⟨vk, vn, vt, vs⟩ an nn cn ia vs.length ic W (pS.below hW (Nat.le_refl _)) (((unhide HST).below DK (Nat.le_refl _)).below hW (Nat.le_refl _)))
                  have H1 := hide (show 0 ≤ argAt ⟨vk, vn, vt, vs⟩ s.pool k → argAt ⟨vk, vn, vt, vs⟩ s.pool (k + 1) = argAt ⟨vk, vn, vt, vs⟩ s.pool k from argAt_hit hlk)
                  have H2 := hide (show argAt ⟨vk, vn, vt, vs⟩ s.pool k < 0 → s.pool[k] = ⟨vk, vn, vt, vs⟩ → argAt ⟨vk, vn, vt, vs⟩ s.pool (k + 1) = k from argAt_same hlk)
                  have H3 := hide (show argAt ⟨vk, vn, vt, vs⟩ s.pool k < 0 → s.pool[k] ≠ ⟨vk, vn, vt, vs⟩ → argAt ⟨vk, vn, vt, vs⟩ s.pool (k + 1) = argAt ⟨vk, vn, vt, vs⟩ s.pool k from argAt_other hlk)
                  have Hlk := hide hlk
                  generalize s.pool[k] = z at p0 p1 p2 p3 HC H2 H3
                  generalize argAt ⟨vk, vn, vt, vs⟩ s.pool k = ar at rg H1 H2 H3 ⊢
                  obtain ⟨zk, zn, zt, zs⟩ := z
                  dsimp only at p0 p1 p2 p3 HC
                  clear pS hlk
                  have CV := (Below.refl wr.heap.size wr).alloc (Nat.le_refl _) (.cells #[.int .i64 zk, .int .i64 zn, .string zt, .slice an nn cn] 57)
                  obtain ⟨v0, v1, v2, v3⟩ := row4C (Row.new wr #[.int .i64 zk, .int .i64 zn, .string zt, .slice an nn cn] 57)
                  have DV := DK.trans (CV.mono DK.size)
                  obtain ⟨i0, i1, i2, i3, i4, i5⟩ := row6J (RI.after DV (Nat.le_refl _))
                  by_cases ha : ar < 0
                  · have HA := hide ha
                    go_wp2_with fail
                    refine (unhide HC _ CV).mono ?_
                    rintro r wS ⟨rfl, hbS⟩
                    have DS := DV.trans (hbS.mono DV.size)
                    have HSV := hide (show ∀ bb, sameVl ⟨zk, zn, zt, zs⟩ ⟨vk, vn, vt, vs⟩ = bb → (bb = true → (⟨zk, zn, zt, zs⟩ : Vl) = ⟨vk, vn, vt, vs⟩) ∧ (bb = false → (⟨zk, zn, zt, zs⟩ : Vl) ≠ ⟨vk, vn, vt, vs⟩) from fun bb e => by
                      subst e
                      exact sameVl_iff _ _)
                    generalize hsv : sameVl ⟨zk, zn, zt, zs⟩ ⟨vk, vn, vt, vs⟩ = bb at HSV
                    have HSW := hide (unhide HSV bb rfl)
                    clear HSV hsv
                    dsimp only
                    cases bb with
                    | true =>
                      have HN := hide (unhide H2 (unhide HA) ((unhide HSW).1 rfl))
                      clear HC H1 H2 H3 HSW
                      go_wp2_with fail
                      go_roundw
                      case rel => exact ⟨k + 1, unhide Hlk, by go_num, by rw [unhide HN], DS⟩
                      case measure => have := unhide Hlk; simp [intOf]; omega
                    | false =>
                      have HN := hide (unhide H3 (unhide HA) ((unhide HSW).2 rfl))
                      clear HC H1 H2 H3 HSW
                      go_wp2_with fail
                      go_roundw
                      case rel => exact ⟨k + 1, unhide Hlk, by go_num, by rw [unhide HN], DS⟩
                      case measure => have := unhide Hlk; simp [intOf]; omega
                  · have HN := hide (unhide H1 (by omega))
                    clear HC H1 H2 H3
                    go_wp2_with fail
                    go_roundw
                    case rel => exact ⟨k + 1, unhide Hlk, by go_num, by rw [unhide HN], DV⟩
                    case measure => have := unhide Hlk; simp [intOf]; omega
                · have ek : k = s.pool.length := by omega
                  subst ek
                  have SK := S1.below DK
                  have KK := K1.trans (K2.of_below DK)
                  have DD := D1.trans (DK.mono D1.size)
                  have RIk := RI.after DK (Nat.le_refl _)
                  have rg := argAt_range ⟨vk, vn, vt, vs⟩ s.pool s.pool.length
                  have hfull := argAt_full ⟨vk, vn, vt, vs⟩ s.pool
                  generalize argAt ⟨vk, vn, vt, vs⟩ s.pool s.pool.length = ar at rg hfull ⊢
                  rcases hfull with ⟨hneg, hpla, hpoo⟩ | ⟨hpos, hpla, hpoo⟩
                  · have HPT := hide (show putI s ⟨1, arg, ⟨vk, vn, vt, vs⟩⟩ = ⟨s.pool ++ [⟨vk, vn, vt, vs⟩], s.slots, s.ins ++ [⟨1, (s.pool.length : Nat)⟩]⟩ by rw [putI, if_pos rfl]; dsimp only; rw [hpoo, hpla])
                    obtain ⟨tv, htv, vz0, vz1, vz2⟩ := info_parts infoVc
                    have hcB := SK.row.lt
                    have hS5 := (unhide HST).below DK (Nat.le_refl _)
                    have C5 := (Below.refl wr.heap.size wr).alloc (Nat.le_refl _) (.cells #[.int .i64 vk, .int .i64 vn, .string vt, .slice ia vs.length ic] 57)
                    have RV5 := Row.new wr #[.int .i64 vk, .int .i64 vn, .string vt, .slice ia vs.length ic] 57
                    have B5 := (Below.refl wr.heap.size wr).alloc (Nat.le_refl _) (.cells #[.int .i64 vk, .int .i64 vn, .string vt, .slice none 0 0] 57)
                    have RV6 := Row.new wr #[.int .i64 vk, .int .i64 vn, .string vt, .slice none 0 0] 57
                    have S6 := hS5.below B5 (Nat.le_refl _)
                    have RI5 := RIk.after C5 (Nat.le_refl _)
                    have RI6 := RIk.after B5 (Nat.le_refl _)
                    obtain ⟨g0, g1, g2⟩ := rowC SK.row
                    obtain ⟨i0, i1, i2, i3, i4, i5⟩ := row6J RIk
                    obtain ⟨j0, j1, j2, j3, j4, j5⟩ := row6J RI5
                    obtain ⟨l0, l1, l2, l3, l4, l5⟩ := row6J RI6
                    obtain ⟨v0, v1, v2, v3⟩ := row4C RV5
                    have vf := fun j => RV5.frozen j
                    obtain ⟨u0, u1, u2, u3⟩ := row4C RV6
                    have uf := fun j => RV6.frozen j
                    clear hpla hpoo rg S1 K1 D1 VL HZV HST RI hS5
                    go_wp2_with (at_builtin; refine wpList_append_strs rfl _ _ rfl (wr.heap.size + 1) _ 0 [] rfl (World.ownsRow_nil _ _ _ _) ia vs.length ic vs rfl S6 hcz (by omega) (by simp) ?_)
                    intro v6 w6 O6 D6
                    replace O6 : w6.ownsRow (wr.heap.size + 1) 9 1 v6 vs.length (vs.map Value.string) := by first | exact O6 | simpa using O6
                    obtain ⟨x6, c6, rfl, _⟩ := owns_form2 O6
                    have RV7 := RV6.after D6 (by simp)
                    have B6 := B5.trans (D6.mono (Nat.le_succ _))
                    have RV8 := RV7.set 3 (.slice x6 vs.length c6)
                    simp only [List.setIfInBounds_toArray, List.set_cons_zero, List.set_cons_succ] at RV8
                    have B7 := B6.setCell (p := ⟨wr.heap.size, 3, none⟩) (Nat.le_refl _) (.slice x6 vs.length c6)
                    have S7 := SK.below B7
                    have RI7 := RIk.after B7 (Nat.le_refl _)
                    have hz6 : wr.heap.size + 1 ≤ w6.heap.size := by have := D6.size; simpa using this
                    have O7 := own_set3 O6 ⟨wr.heap.size, 3, none⟩ (.slice x6 vs.length c6) (fun q hq => by have := (O6.lt q hq).1; show q ≠ wr.heap.size; omega)
                    have hfr : ∀ q, (Value.slice x6 vs.length c6).ownBlock = some q → (Value.slice xp s.pool.length cp).ownBlock ≠ some q ∧ ∀ j, (hj : j < nv.length) → nv[j].ownBlock ≠ some q := fun q hq => by
                      have h9 := (O6.lt q hq).1
                      exact ⟨fun e => by have := (SK.pool.lts.1 q e).2; omega, fun j hj e => by have := (SK.pool.lts.2 j hj q e).2; omega⟩
                    have NW7 := World.news_of_block (heap_alloc_new (w6.setCell ⟨wr.heap.size, 3, none⟩ (.slice x6 vs.length c6)) (.cells #[.int .i64 vk, .int .i64 vn, .string vt, .slice x6 vs.length c6] 57))
                    rw [show (w6.setCell ⟨wr.heap.size, 3, none⟩ (.slice x6 vs.length c6)).heap.size = w6.heap.size by simp] at NW7
                    have OO7 := World.ownsRow.alloc S7.pool.own (.cells #[.int .i64 vk, .int .i64 vn, .string vt, .slice x6 vs.length c6] 57)
                    have RC7 := S7.row.alloc (.cells #[.int .i64 vk, .int .i64 vn, .string vt, .slice x6 vs.length c6] 57)
                    obtain ⟨r0, r1, r2, r3⟩ := row4C RV7
                    have rf := fun j => RV7.frozen j
                    obtain ⟨y0, y1, y2, y3⟩ := row4C RV8
                    obtain ⟨k0, k1, k2⟩ := rowC S7.row
                    clear C5 B5 RV5 RV6 RV7 S6 RI5 RI6 g0 g1 g2 i0 i1 i2 i3 i4 i5 j0 j1 j2 j3 j4 j5 l0 l1 l2 l3 l4 l5 v0 v1 v2 v3 vf u0 u1 u2 u3 uf
                    go_wp2_with (at_builtin; refine wpList_append_lies _ rfl _ _ 28 rfl (w3.heap.size + 1) 57 tv (.agg #[.int .i64 0, .int .i64 0, .string ByteArray.empty, .slice none 0 0]) 4 56 Tryz.underlying28 htv vz0 vz1 vz2 rfl (by decide) (.slice xp s.pool.length cp) s.pool.length (vlC s.pool nv) rfl OO7 ⟨w6.heap.size, 0, none⟩ 1 1 [.int .i64 vk, .int .i64 vn, .string vt, .slice x6 vs.length c6] rfl rfl NW7 ?e2 (by decide) ?e3 ?e4 ?e5 (w6.heap.size + 1) (by simp) ?_)
                    case e2 => first | exact ⟨rfl, rfl, rfl, rfl⟩ | (intro u hu; simp at hu; rcases hu with rfl | rfl | rfl | rfl <;> rfl)
                    case e3 => unfold maxLen; omega
                    case e4 => omega
                    case e5 => first | omega | (simp; omega)
                    intro g7 c7 w7 OV hgrow hat hgl
                    have S8 := S7.newV (v := ⟨vk, vn, vt, vs⟩) _ (own_lowC O7 (by omega)) hfr hgrow OV (hat.imp id (fun e => by rw [e]; simp))
                    have R7 := rowGrown RC7 hgrow (fun e => own_ne_row RC7 OO7 (by decide) e.symm)
                    obtain ⟨m0, m1, m2⟩ := rowC R7
                    have mf := fun j => R7.frozen j
                    have RI8 := S8.2.1 _ _ _ RI7 (by have := RI7.ne_type S7.row (by decide); exact this) (by decide) (by decide)
                    have KK8 := (KK.trans (K2.of_below B7)).trans S8.2.1
                    have DD8 := (DD.trans (B7.mono DD.size)).trans (S8.2.2 _ (Nat.le_refl _) (DD.trans (B7.mono DD.size)).size)
                    have SS8 := S8.1
                    clear r0 r1 r2 r3 rf y0 y1 y2 y3 k0 k1 k2 RV8 hz6 tv htv vz0 vz1 vz2
                    clear S8 OV hgrow hat hgl R7 RC7 OO7 NW7 O6 O7 hfr S7 B6 B7 D6 RI7 RIk SK KK DD DK
                    obtain ⟨xi, ci, rfl, _⟩ := owns_form2 SS8.ins
                    obtain ⟨g0, g1, g2⟩ := rowC SS8.row
                    have gf := fun j => SS8.row.frozen j
                    obtain ⟨i0, i1, i2, i3, i4, i5⟩ := row6J RI8
                    have C9 := (Below.refl (w7.setCell ⟨w3.heap.size, 0, none⟩ (.slice (some ⟨g7, 0, none⟩) (s.pool.length + 1) c7)).heap.size (w7.setCell ⟨w3.heap.size, 0, none⟩ (.slice (some ⟨g7, 0, none⟩) (s.pool.length + 1) c7))).alloc (Nat.le_refl _) (.cells #[.int .i64 1, .int .i64 ((s.pool.length : Int))] 62)
                    have R9 := SS8.row.after C9 (Nat.le_refl _)
                    have O9 := World.ownsRow.alloc SS8.ins (.cells #[.int .i64 1, .int .i64 ((s.pool.length : Int))] 62)
                    have NW := World.news_of_block (heap_alloc_new (w7.setCell ⟨w3.heap.size, 0, none⟩ (.slice (some ⟨g7, 0, none⟩) (s.pool.length + 1) c7)) (.cells #[.int .i64 1, .int .i64 ((s.pool.length : Int))] 62))
                    rw [show (w7.setCell ⟨w3.heap.size, 0, none⟩ (.slice (some ⟨g7, 0, none⟩) (s.pool.length + 1) c7)).heap.size = w7.heap.size by simp] at NW
                    have hB9 := SS8.row.lt
                    rw [show (w7.setCell ⟨w3.heap.size, 0, none⟩ (.slice (some ⟨g7, 0, none⟩) (s.pool.length + 1) c7)).heap.size = w7.heap.size by simp] at hB9
                    have hil := (unhide HPL).2
                    go_wp2_with (at_builtin; refine wpList_append_lies _ rfl _ _ 29 rfl (w3.heap.size + 1) 62 ti (.agg #[.int .i64 0, .int .i64 0]) 2 16 Tryz.underlying29 hti hz0 hz1 hz2 rfl (by decide) (.slice xi s.ins.length ci) s.ins.length (insV s.ins) rfl O9 ⟨w7.heap.size, 0, none⟩ 1 1 [.int .i64 1, .int .i64 ((s.pool.length : Int))] rfl rfl NW ?c2 (by decide) ?c3 ?c4 ?c5 (w7.heap.size + 1) (by simp) ?_)
                    case c2 => first | exact ⟨rfl, rfl⟩ | (intro u hu; simp at hu; rcases hu with rfl | rfl <;> rfl)
                    case c3 => unfold maxLen; omega
                    case c4 => omega
                    case c5 => first | omega | (simp; omega)
                    intro g7 cap7 w7 O7 hgrow hat hgl
                    have S7 := SS8.newI _ 1 ((s.pool.length : Int)) hgrow O7
                    have R7 := rowGrown R9 hgrow (fun e => own_ne_row R9 O9 (by decide) e.symm)
                    obtain ⟨d0, d1, d2⟩ := rowC R7
                    have df := fun j => R7.frozen j
                    have HS7 := hide S7
                    clear S7 O7 hgrow hat hgl R7 R9 O9 NW C9
                    go_wp2_with fail
                    go_roundw
                    case rel =>
                      refine ⟨q + 1, ?_, ?_, ?_, unhide Hlt2, by go_num, ?_, KK8.trans (unhide HS7).2.1, DD8.trans ((unhide HS7).2.2 _ (Nat.le_refl _) DD8.size)⟩
                      rotate_left 3
                      rw [unhide HLK, unhide HPT]
                      exact (unhide HS7).1
                    case measure => have := unhide Hlt2; simp [intOf]; omega
                  · have HPT := hide (show putI s ⟨1, arg, ⟨vk, vn, vt, vs⟩⟩ = ⟨s.pool, s.slots, s.ins ++ [⟨1, ar⟩]⟩ by rw [putI, if_pos rfl]; dsimp only; rw [hpoo, ← hpla])
                    have hng : ¬ (ar < 0) := by omega
                    clear hpla hpoo
                    clear hpos S1 K1 D1 VL HZV HST RI
                    obtain ⟨xi, ci, rfl, _⟩ := owns_form2 SK.ins
                    obtain ⟨g0, g1, g2⟩ := rowC SK.row
                    have gf := fun j => SK.row.frozen j
                    obtain ⟨i0, i1, i2, i3, i4, i5⟩ := row6J RIk
                    have C9 := (Below.refl wr.heap.size wr).alloc (Nat.le_refl _) (.cells #[.int .i64 1, .int .i64 (ar)] 62)
                    have R9 := SK.row.after C9 (Nat.le_refl _)
                    have O9 := World.ownsRow.alloc SK.ins (.cells #[.int .i64 1, .int .i64 (ar)] 62)
                    have NW := World.news_of_block (heap_alloc_new wr (.cells #[.int .i64 1, .int .i64 (ar)] 62))
                    have hB9 := SK.row.lt
                    have hil := (unhide HPL).2
                    go_wp2_with (at_builtin; refine wpList_append_lies _ rfl _ _ 29 rfl (w3.heap.size + 1) 62 ti (.agg #[.int .i64 0, .int .i64 0]) 2 16 Tryz.underlying29 hti hz0 hz1 hz2 rfl (by decide) (.slice xi s.ins.length ci) s.ins.length (insV s.ins) rfl O9 ⟨wr.heap.size, 0, none⟩ 1 1 [.int .i64 1, .int .i64 (ar)] rfl rfl NW ?c2 (by decide) ?c3 ?c4 ?c5 (wr.heap.size + 1) (by simp) ?_)
                    case c2 => first | exact ⟨rfl, rfl⟩ | (intro u hu; simp at hu; rcases hu with rfl | rfl <;> rfl)
                    case c3 => unfold maxLen; omega
                    case c4 => omega
                    case c5 => first | omega | (simp; omega)
                    intro g7 cap7 w7 O7 hgrow hat hgl
                    have S7 := SK.newI _ 1 (ar) hgrow O7
                    have R7 := rowGrown R9 hgrow (fun e => own_ne_row R9 O9 (by decide) e.symm)
                    obtain ⟨d0, d1, d2⟩ := rowC R7
                    have df := fun j => R7.frozen j
                    have HS7 := hide S7
                    clear S7 O7 hgrow hat hgl R7 R9 O9 NW C9
                    go_wp2_with fail
                    go_roundw
                    case rel =>
                      refine ⟨q + 1, ?_, ?_, ?_, unhide Hlt2, by go_num, ?_, KK.trans (unhide HS7).2.1, DD.trans ((unhide HS7).2.2 _ (Nat.le_refl _) DD.size)⟩
                      rotate_left 3
                      rw [unhide HLK, unhide HPT]
                      exact (unhide HS7).1
                    case measure => have := unhide Hlt2; simp [intOf]; omega
            · have eop : (op == 1) = false := beq_eq_false_iff_ne.2 hop
              have HPT := hide (show putI s ⟨op, arg, ⟨vk, vn, vt, vs⟩⟩ = ⟨s.pool, s.slots, s.ins ++ [⟨op, arg⟩]⟩ by rw [putI, if_neg hop])
              clear hop hnm hov HPO
              obtain ⟨xi, ci, rfl, _⟩ := owns_form2 S1.ins
              obtain ⟨g0, g1, g2⟩ := rowC S1.row
              have gf := fun j => S1.row.frozen j
              obtain ⟨i0, i1, i2, i3, i4, i5⟩ := row6J RI
              have C9 := (Below.refl (wr.alloc (.cells #[.int .i64 op, .int .i64 arg, .int .i64 vk, .int .i64 vn, .string vt, .slice ia inn ic] 59)).heap.size (wr.alloc (.cells #[.int .i64 op, .int .i64 arg, .int .i64 vk, .int .i64 vn, .string vt, .slice ia inn ic] 59))).alloc (Nat.le_refl _) (.cells #[.int .i64 op, .int .i64 (arg)] 62)
              have R9 := S1.row.after C9 (Nat.le_refl _)
              have O9 := World.ownsRow.alloc S1.ins (.cells #[.int .i64 op, .int .i64 (arg)] 62)
              have NW := World.news_of_block (heap_alloc_new (wr.alloc (.cells #[.int .i64 op, .int .i64 arg, .int .i64 vk, .int .i64 vn, .string vt, .slice ia inn ic] 59)) (.cells #[.int .i64 op, .int .i64 (arg)] 62))
              rw [show (wr.alloc (.cells #[.int .i64 op, .int .i64 arg, .int .i64 vk, .int .i64 vn, .string vt, .slice ia inn ic] 59)).heap.size = wr.heap.size + 1 by simp] at NW
              have hB9 := S1.row.lt
              rw [show (wr.alloc (.cells #[.int .i64 op, .int .i64 arg, .int .i64 vk, .int .i64 vn, .string vt, .slice ia inn ic] 59)).heap.size = wr.heap.size + 1 by simp] at hB9
              have hil := (unhide HPL).2
              go_wp2_with (at_builtin; refine wpList_append_lies _ rfl _ _ 29 rfl (w3.heap.size + 1) 62 ti (.agg #[.int .i64 0, .int .i64 0]) 2 16 Tryz.underlying29 hti hz0 hz1 hz2 rfl (by decide) (.slice xi s.ins.length ci) s.ins.length (insV s.ins) rfl O9 ⟨wr.heap.size + 1, 0, none⟩ 1 1 [.int .i64 op, .int .i64 (arg)] rfl rfl NW ?c2 (by decide) ?c3 ?c4 ?c5 (wr.heap.size + 1 + 1) (by simp) ?_)
              case c2 => first | exact ⟨rfl, rfl⟩ | (intro u hu; simp at hu; rcases hu with rfl | rfl <;> rfl)
              case c3 => unfold maxLen; omega
              case c4 => omega
              case c5 => first | omega | (simp; omega)
              intro g7 cap7 w7 O7 hgrow hat hgl
              have S7 := S1.newI _ op (arg) hgrow O7
              have R7 := rowGrown R9 hgrow (fun e => own_ne_row R9 O9 (by decide) e.symm)
              obtain ⟨d0, d1, d2⟩ := rowC R7
              have df := fun j => R7.frozen j
              have HS7 := hide S7
              clear S7 O7 hgrow hat hgl R7 R9 O9 NW C9
              go_wp2_with fail
              go_roundw
              case rel =>
                refine ⟨q + 1, ?_, ?_, ?_, unhide Hlt2, by go_num, ?_, K1.trans (unhide HS7).2.1, D1.trans ((unhide HS7).2.2 _ (Nat.le_refl _) D1.size)⟩
                rotate_left 3
                rw [unhide HLK, unhide HPT]
                exact (unhide HS7).1
              case measure => have := unhide Hlt2; simp [intOf]; omega
          · have eq : q = AL.length := by omega
            subst eq
            have ROq := K _ _ _ RO (by omega) (by decide) (by decide)
            rw [List.take_length] at S
            have HCC := hide (show ∀ z, linkI ⟨[], 0, []⟩ AL = z → codeC Es L = ⟨z.pool, kN, z.ins⟩ from fun z hz => by rw [← unhide HAE, hz]; rfl)
            generalize hcc : linkI ⟨[], 0, []⟩ AL = cc at S
            have HX2 := hide (unhide HCC cc hcc)
            clear hcc HCC HAE HNM HJ1 HJl HRA HOK K
            obtain ⟨xp, cp, rfl, _⟩ := owns_form2 S.pool.own
            obtain ⟨xi, ci, rfl, _⟩ := owns_form2 S.ins
            obtain ⟨q0, q1, q2⟩ := rowC S.row
            obtain ⟨x0, x1, x2⟩ := rowC ROq
            have f0 := fun j => ROq.frozen j
            obtain ⟨p0, p1, p2⟩ := rowC (((ROq.set 0 (.slice xp cc.pool.length cp)).set 1 (.int .i64 kN)).set 2 (.slice xi cc.ins.length ci))
            have ni : ∀ q, (Value.slice xi cc.ins.length ci).ownBlock = some q → q ≠ ob := fun q hq => by have := (S.ins.lt q hq).1; omega
            have HPO := hide ((((S.pool.set ⟨ob, 0, none⟩ (.slice xp cc.pool.length cp) (by show ob < _; omega)).set ⟨ob, 1, none⟩ (.int .i64 kN) (by show ob < _; omega)).set ⟨ob, 2, none⟩ (.slice xi cc.ins.length ci) (by show ob < _; omega)).low (lo' := tb) (by omega))
            have HIO := hide (own_lowC (base' := tb) (own_set3 (own_set3 (own_set3 S.ins ⟨ob, 0, none⟩ (.slice xp cc.pool.length cp) ni) ⟨ob, 1, none⟩ (.int .i64 kN) ni) ⟨ob, 2, none⟩ (.slice xi cc.ins.length ci) ni) (by omega))
            have HBE := hide ((((B3.trans (DQ.mono (by omega))).setCell (p := ⟨ob, 0, none⟩) hob (.slice xp cc.pool.length cp)).setCell (p := ⟨ob, 1, none⟩) hob (.int .i64 kN)).setCell (p := ⟨ob, 2, none⟩) hob (.slice xi cc.ins.length ci))
            clear S DQ B3 ROq ni RO
            go_wp2_with fail
            refine bodyPost_ret (v := .agg #[.slice xp cc.pool.length cp, .int .i64 kN, .slice xi cc.ins.length ci]) (by simp [results, Tryz.results5, go_sem, p0, p1, p2]) rfl ⟨_, unhide HX, ?_⟩
            rw [unhide HX2]
            refine ⟨xp, cp, xi, ci, nv, rfl, ?_, ?_, ?_⟩
            · rw [unhide HW]; exact unhide HPO
            · rw [unhide HW]; exact unhide HIO
            · rw [unhide HW]; exact unhide HBE

end Go.Proofs.YtpbopjgmiaoomaaGreatDoor

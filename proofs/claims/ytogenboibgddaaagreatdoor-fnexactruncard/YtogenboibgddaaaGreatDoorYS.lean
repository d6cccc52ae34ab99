/-
  The model's verifier: a step. Own work.
-/
import Derived.Test.YtogenboibgddaaaGreatDoorMXAT
namespace Go.Proofs.YtogenboibgddaaaGreatDoor
open Go.RowKit Go.Lib
set_option linter.unusedVariables false

set_option maxRecDepth 100000 in
set_option maxHeartbeats 6400000 in
theorem sStep_any (a b : Option Addr) (n c m d S : Nat) (kn : Bool) (P : List Vl) (I : List Is1) (k : Nat) (s : Vs) (ta tb : Option Addr) (tn tc tm td : Nat) (w : World) (hP : Vls w a n c P) (hI : Iss w b m d I) (hk : k < m) (hn : n ≤ 1048576) (hop : 1 ≤ (I.getD k ⟨0, 0⟩).op ∧ (I.getD k ⟨0, 0⟩).op ≤ 25) (harg : 0 ≤ (I.getD k ⟨0, 0⟩).arg) (hs : Lt w ta tb tn tc tm td s) (hs2 : s.slots.length = S) (hS : S ≤ 600) (hH : s.stack.length ≤ 200) (hpos : ∀ x ∈ s.stack, 1 ≤ x) (hpk : ∀ x ∈ P.map Vl.kind, 1 ≤ x) (hsl : ∀ x ∈ s.slots, 0 ≤ x) :
    Calls Tryz.prog 40 #[.agg #[.slice a n c, .int .i64 S, .slice b m d], .int .i64 k, .agg #[.bool kn, .slice ta tn tc, .slice tb tm td]] w fun e w' => SpA w kn (stepV (P.map Vl.kind) S m k (I.getD k ⟨0, 0⟩) s) e w' := by
  obtain ⟨g, off, hb, hgl, i0, i1⟩ := hI.at k hk
  subst hb
  have hsm := hI.small
  have HPn := hide (show n = P.length from hP.len.symm)
  have HI := hide hI
  have Hs2 := hide hs2
  clear hs2
  have HP := hide hP
  have HS := hide hs
  have HR := hide (fun W (hb : Below w.heap.size w W) => sRange_any a (some ⟨g, off, none⟩) n c m d S I k W (hI.below hb (Nat.le_refl _)) hk hn hop)
  generalize I.getD k ⟨0, 0⟩ = i at i0 i1 hop harg HR
  obtain ⟨op, arg⟩ := i
  simp only at i0 i1 hop harg
  obtain ⟨h1op, h25⟩ := hop
  have ik : (k : Int) < (m : Int) := by omega
  have B1 := (Below.refl w.heap.size w).alloc (Nat.le_refl _) (.cells #[.slice a n c, .int .i64 S, .slice (some ⟨g, off, none⟩) m d] 39)
  have B2 := B1.alloc B1.size (.cells #[.bool kn, .slice ta tn tc, .slice tb tm td] 79)
  have B3 := B2.alloc B2.size (.cells #[.bool false, .slice none 0 0, .slice none 0 0] 79)
  have j0 := (B3.cell (p := ⟨g, off + k * 2, none⟩) hgl).trans i0
  have j1 := (B3.cell (p := ⟨g, off + k * 2 + 1, none⟩) hgl).trans i1
  have B4 := B3.alloc B3.size (.cells #[.int .i64 op, .int .i64 arg] 87)
  have R0 := (((Row.new w #[.slice a n c, .int .i64 S, .slice (some ⟨g, off, none⟩) m d] 39).alloc (.cells #[.bool kn, .slice ta tn tc, .slice tb tm td] 79)).alloc (.cells #[.bool false, .slice none 0 0, .slice none 0 0] 79)).alloc (.cells #[.int .i64 op, .int .i64 arg] 87)
  have R1 := ((Row.new (w.alloc (.cells #[.slice a n c, .int .i64 S, .slice (some ⟨g, off, none⟩) m d] 39)) #[.bool kn, .slice ta tn tc, .slice tb tm td] 79).alloc (.cells #[.bool false, .slice none 0 0, .slice none 0 0] 79)).alloc (.cells #[.int .i64 op, .int .i64 arg] 87)
  have R2 := (Row.new ((w.alloc (.cells #[.slice a n c, .int .i64 S, .slice (some ⟨g, off, none⟩) m d] 39)).alloc (.cells #[.bool kn, .slice ta tn tc, .slice tb tm td] 79)) #[.bool false, .slice none 0 0, .slice none 0 0] 79).alloc (.cells #[.int .i64 op, .int .i64 arg] 87)
  have R3 := Row.new (((w.alloc (.cells #[.slice a n c, .int .i64 S, .slice (some ⟨g, off, none⟩) m d] 39)).alloc (.cells #[.bool kn, .slice ta tn tc, .slice tb tm td] 79)).alloc (.cells #[.bool false, .slice none 0 0, .slice none 0 0] 79)) #[.int .i64 op, .int .i64 arg] 87
  rw [World.size_alloc] at R1
  rw [World.size_alloc, World.size_alloc] at R2
  rw [World.size_alloc, World.size_alloc, World.size_alloc] at R3
  have HR4 := hide (unhide HR _ B4)
  have HF : Hid (Fr w _ (.slice a n c) (.int .i64 S) (.slice (some ⟨g, off, none⟩) m d) kn ta tb tn tc tm td op arg) := hide ⟨R0, R1, R2, R3, B4⟩
  have HK := hide (fun W (hb : Below w.heap.size w W) (ha : argOk n s.slots.length ⟨op, arg⟩) => sTakes_any a (some ⟨g, off, none⟩) n c m d (.int .i64 S) (.slice (some ⟨g, off, none⟩) m d) kn P ⟨op, arg⟩ s.slots ta tb tn tc tm td W (hP.below hb (Nat.le_refl _)) (hs.sl.below hb (Nat.le_refl _)) h1op h25 ha)
  have HC := hide (fun W (hb : Below w.heap.size w W) => sCopy_any kn s.stack s.slots ta tb tn tc tm td W (hs.st.below hb (Nat.le_refl _)) (hs.sl.below hb (Nat.le_refl _)) hs.n1 hs.n2)
  clear hI hP hs i0 i1 R0 R1 R2 R3 HR B1 B2 B3 B4
  go_enter Tryz.func40, Tryz.ntmps40
  go_wp2_with fail
  refine (unhide HR4).mono ?_
  rintro e w5 ⟨rfl, hb5⟩
  have HF5 := hide ((unhide HF).after hb5)
  clear hb5 HF HR4 j0 j1
  obtain ⟨⟨c0, c1, c2⟩, ⟨s0, s1, s2⟩, ⟨r0, r1, r2⟩, ⟨i0, i1⟩, f0, f1, f2⟩ := (unhide HF5).cells
  by_cases hr : rangeV P.length S m k ⟨op, arg⟩ = true
  · have hr' : rangeV n S m k ⟨op, arg⟩ = true := by rw [unhide HPn]; exact hr
    rw [hr']
    have Hr := hide hr
    have hok : argOk n s.slots.length ⟨op, arg⟩ := by rw [unhide Hs2, unhide HPn]; exact range_arg hr harg
    have HK5 := hide (unhide HK w5 (unhide HF5).2.2.2.2 hok)
    have HOK := hide hok
    have Htl := hide (takes_len (P.map Vl.kind) ⟨op, arg⟩ s.slots h1op h25)
    simp only at Htl
    clear hr hr' hok HK
    obtain ⟨tk, HTK⟩ : ∃ tk, tk = takesM (P.map Vl.kind) ⟨op, arg⟩ s.slots := ⟨_, rfl⟩
    rw [← HTK] at HK5 Htl
    have HTk := hide HTK
    clear HTK
    go_wp2_with fail
    refine (unhide HK5).mono ?_
    rintro e w6 ⟨wa, wc, rfl, iw, hwa, hb6⟩
    have HF6 := hide ((unhide HF5).after hb6)
    have HW6 := hide iw
    have Hwa := hide hwa
    clear hb6 iw hwa HK5 c0 c1 c2 s0 s1 s2 r0 r1 r2 i0 i1 f0 f1 f2
    obtain ⟨⟨c0, c1, c2⟩, ⟨s0, s1, s2⟩, ⟨r0, r1, r2⟩, ⟨i0, i1⟩, f0, f1, f2⟩ := (unhide HF6).cells
    go_wp2_with fail
    refine (unhide HC w6 (unhide HF6).2.2.2.2).mono ?_
    rintro e w7 ⟨x7, c7, y7, d7, rfl, ow1, ow2, hap, hb7⟩
    have HF7 := hide ((unhide HF6).after hb7)
    have HW7 := hide ((unhide HW6).below hb7 (Nat.le_refl _))
    clear c0 c1 c2 s0 s1 s2 r0 r1 r2 i0 i1 f0 f1 f2
    have BT := (Below.refl w7.heap.size w7).alloc (Nat.le_refl _) (.cells #[.bool kn, .slice x7 s.stack.length c7, .slice y7 s.slots.length d7] 79)
    have HF8 := hide ((unhide HF7).after BT)
    obtain ⟨⟨c0, c1, c2⟩, ⟨s0, s1, s2⟩, ⟨r0, r1, r2⟩, ⟨i0, i1⟩, f0, f1, f2⟩ := (unhide HF8).cells
    have RT := Row.new w7 #[.bool kn, .slice x7 s.stack.length c7, .slice y7 s.slots.length d7] 79
    obtain ⟨t0, t1, t2⟩ := rowC RT
    clear c0 c1 c2
    by_cases hp : popV op ≤ s.stack.length
    · have hnlt : ¬ ((s.stack.length : Int) < (tk.1.length : Int)) := by rw [unhide Htl]; omega
      obtain ⟨z, hz⟩ : ∃ z, s.stack.length = z + popV op := ⟨s.stack.length - popV op, by omega⟩
      have Hz := hide hz
      have Hp := hide hp
      have iz : IntKind.i64.wrap ((s.stack.length : Int) - (tk.1.length : Int)) = (z : Int) := by
        rw [unhide Htl, show (s.stack.length : Int) - ((popV op : Nat) : Int) = (z : Int) by omega]
        have : z ≤ 200 := by omega
        simp [IntKind.wrap, IntKind.bits, IntKind.signed]
        omega
      have htl3 : tk.1.length ≤ 3 := by rw [unhide Htl]; have := popV_le op; omega
      clear hz hp
      by_cases h4 : op = 4
      · subst h4
        have htk : tk = ([-1], 0) := by rw [unhide HTk]; rfl
        have htk1 : tk.1.length = 1 := by rw [htk]; rfl
        have hpv : popV 4 = 1 := rfl
        have hzl : s.stack.length = z + 1 := by have := unhide Hz; omega
        have HIw := hide ((unhide HW7).below BT (Nat.le_refl _))
        have HIst := hide ((ints_own ow1 (by omega)).below BT (Nat.le_refl _))
        have HIsl := hide ((ints_own ow2 (by rw [unhide Hs2]; omega)).below BT (Nat.le_refl _))
        obtain ⟨kk, rfl⟩ := Int.eq_ofNat_of_zero_le harg
        have hkk : kk < s.slots.length := by have := (unhide HOK).2.2.2 (.inr rfl); simp only at this; omega
        obtain ⟨bw, ow, hwe, hbw, cw⟩ := (unhide HIw).cells 0 (by omega)
        obtain ⟨bg, og, hge, hbg, cg⟩ := (unhide HIst).cells z (by omega)
        have htop : s.stack[z]'(by omega) = topV s.stack := by
          rw [topV_snoc s.stack (by omega)]
          congr 1
          omega
        have hw1 : tk.1[0]'(by omega) = -1 := by simp [htk]
        rw [htop] at cg
        rw [hw1, Nat.add_zero] at cw
        have OX8 := owns_block (w' := w7.alloc (.cells #[.bool kn, .slice x7 s.stack.length c7, .slice y7 s.slots.length d7] 79)) ow1 (fun q _ hq _ => BT.block q hq)
        have OY8 := owns_block (w' := w7.alloc (.cells #[.bool kn, .slice x7 s.stack.length c7, .slice y7 s.slots.length d7] 79)) ow2 (fun q _ hq _ => BT.block q hq)
        obtain ⟨gy, hgy, hcd⟩ : ∃ gy, y7 = some ⟨gy, 0, none⟩ ∧ s.slots.length ≤ d7 := by
          rcases ow2.2 with ⟨_, h0⟩ | ⟨gg, cap, cur, hv, _, _, h1, _⟩
          · omega
          · simp only [Value.slice.injEq] at hv
            exact ⟨gg, hv.1, by rw [hv.2.2]; exact h1⟩
        have hgl2 := ow2.lt gy (by rw [hgy]; rfl)
        subst hgy
        have cs := (OY8.cellAt kk (by omega)).trans (by rw [intsV, List.getElem?_map, List.getElem?_eq_getElem hkk])
        simp only [Option.map_some] at cs
        have csf := OY8.frozenAt kk
        have hsv : s.slots[kk] = atV s.slots (kk : Int) := by unfold atV; rw [Int.toNat_natCast, List.getD, List.getElem?_eq_getElem hkk]; rfl
        rw [hsv] at cs
        have HTV := hide (show takesV ⟨4, (kk : Int)⟩ s = decide (atV s.slots (kk : Int) = 0 ∨ atV s.slots (kk : Int) = topV s.stack) from rfl)
        have HBV := hide (show behindV (P.map Vl.kind) ⟨4, (kk : Int)⟩ s = ⟨s.stack.take z, s.slots.set kk (topV s.stack)⟩ by
          have hz' : s.stack.length - 1 = z := by omega
          show (⟨s.stack.take (s.stack.length - 1), s.slots.set ((kk : Int)).toNat (topV s.stack)⟩ : Vs) = _
          rw [hz', Int.toNat_natCast])
        have Hsto := hide (OY8.stored kk (.int .i64 (topV s.stack))).1
        have HOX := hide (owns_block (w' := (w7.alloc (.cells #[.bool kn, .slice x7 s.stack.length c7, .slice (some ⟨gy, 0, none⟩) s.slots.length d7] 79)).setCell ⟨gy, kk, none⟩ (.int .i64 (topV s.stack))) OX8 (fun q _ _ hx => heap_setCell_other _ ⟨gy, kk, none⟩ q _ (fun e => hap ⟨q, 0, none⟩ ⟨gy, 0, none⟩ hx rfl e)))
        have Hf6 := hide (show w.heap.size + 1 + 1 + 1 < w6.heap.size from (unhide HF6).2.2.2.1.lt)
        have HFs := hide ((unhide HF8).far ⟨gy, kk, none⟩ (.int .i64 (topV s.stack)) (by show w.heap.size + 1 + 1 + 1 < gy; have := unhide Hf6; omega))
        have HRTs := hide (RT.setFar (p := ⟨gy, kk, none⟩) (by show w7.heap.size ≠ gy; omega) (.int .i64 (topV s.stack)))
        obtain ⟨hx7, hc7⟩ : (x7 = none → c7 = 0) ∧ (s.stack.length ≤ c7) := by
          rcases ow1.2 with ⟨hv, h0⟩ | ⟨gg, cap, cur, hv, _, _, h1, h2, _⟩
          · omega
          · simp only [Value.slice.injEq] at hv
            obtain ⟨hv1, _, rfl⟩ := hv
            exact ⟨fun e => (by rw [hv1] at e; cases e), h1⟩
        have izc : (z : Int) ≤ (c7 : Int) := by omega
        have iz0 : (0 : Int) ≤ (z : Int) := by omega
        have izs : (z : Int) < (s.stack.length : Int) := by omega
        have ikk : (kk : Int) < (s.slots.length : Int) := by omega
        have ikk0 : (0 : Int) ≤ (kk : Int) := by omega
        have iz1 : (s.stack.length : Int) - 1 = (z : Int) := by omega
        have it1 : (tk.1.length : Int) = 1 := by omega
        have htk2 : tk.2 = 0 := by rw [htk]
        have Hst0 := hide (show stepV (P.map Vl.kind) S m k ⟨4, (kk : Int)⟩ s = if takesV ⟨4, (kk : Int)⟩ s = false then (5, s) else if 100 < z then (7, s) else (0, ⟨s.stack.take z, s.slots.set kk (topV s.stack)⟩) by
          unfold stepV
          rw [List.length_map, if_neg (by rw [unhide Hr]; decide), if_neg (by show ¬ s.stack.length < popV 4; omega)]
          rw [unhide HBV]
          have hl : (s.stack.take z).length = z := by rw [List.length_take]; omega
          by_cases ht : takesV ⟨4, (kk : Int)⟩ s = false
          · rw [if_pos ht, if_pos ht]
          · rw [if_neg ht, if_neg ht, if_neg (fun h => by have := h.1; simp at this)]
            simp only [hl])
        have Hzl := hide hzl
        have Htl1 := hide htk1
        generalize tk.1.length = tl at it1 iz hnlt htl3 Htl1 cw ⊢
        have etl := unhide Htl1
        subst etl
        generalize tk.2 = tk2 at htk2 ⊢
        subst htk2
        generalize topV s.stack = tp at cg HTV HBV Hsto HOX HFs HRTs Hst0
        generalize atV s.slots (kk : Int) = sv at cs HTV
        subst hge hwe
        clear hzl htk htk1 hpv htop hw1 OX8 OY8 ow1 ow2 hsv hap hkk
        go_wp2_with fail
        have Hsz8 := hide (show w7.heap.size + 1 = (w7.alloc (.cells #[.bool kn, .slice (some ⟨bg, og, none⟩) s.stack.length c7, .slice (some ⟨gy, 0, none⟩) s.slots.length d7] 79)).heap.size by simp)
        generalize w7.alloc (.cells #[.bool kn, .slice (some ⟨bg, og, none⟩) s.stack.length c7, .slice (some ⟨gy, 0, none⟩) s.slots.length d7] 79) = w8 at BT HF8 s0 s1 s2 r0 r1 r2 i0 i1 f0 f1 f2 RT t0 t1 t2 cw cg cs csf Hsto HOX HFs HRTs Hsz8 ⊢
        go_loopw [51] (fun i wr => (i = .int .i64 0 ∧ Hid (wr = w8)) ∨ (i = .int .i64 1 ∧ Hid (wr = w8.setCell ⟨gy, kk, none⟩ (.int .i64 tp)) ∧ Hid (takesV ⟨4, (kk : Int)⟩ s = true))) (fun i _ => 1 - (RowKit.intOf i).toNat)
        case atStart => exact .inl ⟨rfl, hide rfl⟩
        case round =>
          rcases hrel with ⟨rfl, HW⟩ | ⟨rfl, HW, HT⟩
          · have hW := unhide HW
            subst hW
            by_cases hv0 : sv = 0
            · subst hv0
              have HT := hide (show takesV ⟨4, (kk : Int)⟩ s = true by rw [unhide HTV]; simp)
              go_wp2_with fail
              go_roundw
              case rel => exact .inr ⟨by go_num, hide trivial, HT⟩
              case measure => simp [RowKit.intOf]
            · have b0 : (sv != 0) = true := bne_iff_ne.2 hv0
              by_cases hvt : sv = tp
              · subst hvt
                have HT := hide (show takesV ⟨4, (kk : Int)⟩ s = true by rw [unhide HTV]; simp)
                have b1 : (sv != sv) = false := by simp
                clear hv0
                go_wp2_with fail
                go_roundw
                case rel => exact .inr ⟨by go_num, hide trivial, HT⟩
                case measure => simp [RowKit.intOf]
              · have HN := hide (show takesV ⟨4, (kk : Int)⟩ s = false by rw [unhide HTV]; simp [hv0, hvt])
                have b1 : (sv != tp) = true := bne_iff_ne.2 hvt
                have Hr5 := hide (show stepV (P.map Vl.kind) S m k ⟨4, (kk : Int)⟩ s = (5, s) by rw [unhide Hst0, if_pos (unhide HN)])
                clear hv0 hvt
                go_wp2_with fail
                obtain ⟨⟨p0, p1, p2⟩, BB⟩ := (unhide HF8).put (.bool kn) (.slice ta tn tc) (.slice tb tm td)
                exact bodyPost_ret (v := .tuple #[.agg #[.bool kn, .slice ta tn tc, .slice tb tm td], .int .i64 5]) (by simp [results, Tryz.results40, go_sem, p0, p1, p2]) rfl ⟨_, by rw [unhide Hr5], BB, (fun e => by rw [unhide Hr5] at e; simp at e), _, _, _, _, _, _, _, rfl⟩
          · have hW := unhide HW
            subst hW
            clear HW
            have RTs := unhide HRTs
            obtain ⟨ts0, ts1, ts2⟩ := rowC RTs
            have tsf := RTs.frozen 1
            have RT9 := RTs.set 1 (.slice (some ⟨bg, og, none⟩) z c7)
            simp only [List.setIfInBounds_toArray, List.set_cons_zero, List.set_cons_succ] at RT9
            obtain ⟨t0', t1', t2'⟩ := rowC RT9
            have Hf7 := hide (show w.heap.size + 1 + 1 + 1 < w7.heap.size from (unhide HF7).2.2.2.1.lt)
            have HF9 := hide ((unhide HFs).far ⟨w7.heap.size, 1, none⟩ (.slice (some ⟨bg, og, none⟩) z c7) (unhide Hf7))
            obtain ⟨_, ⟨s0', s1', s2'⟩, ⟨r0', r1', r2'⟩, ⟨i0', i1'⟩, f0', f1', f2'⟩ := (unhide HF9).cells
            obtain ⟨_, _, _, ⟨i0s, i1s⟩, _⟩ := (unhide HFs).cells
            have HO9 := hide (owns_set (owns_take (unhide HOX) z (by have := unhide Hzl; omega)) ⟨w7.heap.size, 1, none⟩ RTs int_ne_state (.slice (some ⟨bg, og, none⟩) z c7))
            have HY9 := hide (owns_set (unhide Hsto) ⟨w7.heap.size, 1, none⟩ RTs int_ne_state (.slice (some ⟨bg, og, none⟩) z c7))
            have Hr7 := hide (show stepV (P.map Vl.kind) S m k ⟨4, (kk : Int)⟩ s = if 100 < z then (7, s) else (0, ⟨s.stack.take z, s.slots.set kk tp⟩) by rw [unhide Hst0, if_neg (by rw [unhide HT]; decide)])
            have Hlt := hide (show (s.stack.take z).length = z by rw [List.length_take]; have := unhide Hzl; omega)
            have hz2 : z ≤ 200 := by have := unhide Hzl; omega
            clear RTs RT9 HTV HBV Hst0 s0 s1 s2 r0 r1 r2 i0 i1 f0 f1 f2 t0 t1 t2 cs csf cg cw
            by_cases h7 : 100 < z
            · have Hr8 := hide (show stepV (P.map Vl.kind) S m k ⟨4, (kk : Int)⟩ s = (7, s) by rw [unhide Hr7, if_pos h7])
              have i7 : (100 : Int) < (z : Int) := by omega
              clear h7
              go_wp2_with fail
              obtain ⟨⟨p0, p1, p2⟩, BB⟩ := (unhide HF9).put (.bool kn) (.slice ta tn tc) (.slice tb tm td)
              exact bodyPost_ret (v := .tuple #[.agg #[.bool kn, .slice ta tn tc, .slice tb tm td], .int .i64 7]) (by simp [results, Tryz.results40, go_sem, p0, p1, p2]) rfl ⟨_, by rw [unhide Hr8], BB, (fun e => by rw [unhide Hr8] at e; simp at e), _, _, _, _, _, _, _, rfl⟩
            · have Hr8 := hide (show stepV (P.map Vl.kind) S m k ⟨4, (kk : Int)⟩ s = (0, ⟨s.stack.take z, s.slots.set kk tp⟩) by rw [unhide Hr7, if_neg h7])
              have i7 : ¬ ((100 : Int) < (z : Int)) := by omega
              clear h7
              go_wp2_with fail
              obtain ⟨⟨p0, p1, p2⟩, BB⟩ := (unhide HF9).put (.bool kn) (.slice (some ⟨bg, og, none⟩) z c7) (.slice (some ⟨gy, 0, none⟩) s.slots.length d7)
              have O9 := unhide HO9
              rw [show (intsV s.stack).take z = intsV (s.stack.take z) by rw [intsV, intsV, List.map_take]] at O9
              have Y9 := unhide HY9
              rw [intsV_set] at Y9
              have FIN := step_fin (unhide HF9) O9 Y9 (by have := unhide Hf6; omega) (by omega) (by rw [unhide Hs2]; omega)
              have hl1 : (⟨s.stack.take z, s.slots.set kk tp⟩ : Vs).stack.length = z := unhide Hlt
              have hl2 : (⟨s.stack.take z, s.slots.set kk tp⟩ : Vs).slots.length = s.slots.length := by simp
              exact bodyPost_ret (v := .tuple #[.agg #[.bool kn, .slice (some ⟨bg, og, none⟩) z c7, .slice (some ⟨gy, 0, none⟩) s.slots.length d7], .int .i64 0]) (by simp [results, Tryz.results40, go_sem, p0, p1, p2]) rfl ⟨_, by rw [unhide Hr8], BB, (fun _ => ⟨some ⟨bg, og, none⟩, c7, some ⟨gy, 0, none⟩, d7, by rw [unhide Hr8]; simp only; rw [unhide Hlt, List.length_set], by rw [unhide Hr8]; simp only; rw [unhide Hlt, List.length_set]; exact FIN.1, FIN.2⟩), _, _, _, _, _, _, _, rfl⟩
      · have e4 : (op == 4) = false := beq_eq_false_iff_ne.2 h4
        have Hchk := hide (show chk tk.1 (s.stack.drop z) 0 = takesV ⟨op, arg⟩ s by
          have := takes_chk (P.map Vl.kind) ⟨op, arg⟩ s.stack s.slots h1op h25 h4 (unhide Hp) hpos
          rw [← unhide HTk] at this
          simp only at this
          rw [show s.stack.length - popV op = z by have := unhide Hz; omega] at this
          exact this)
        have HIst := hide ((ints_own ow1 (by omega)).below BT (Nat.le_refl _))
        have HIw := hide ((unhide HW7).below BT (Nat.le_refl _))
        have hlz : z + tk.1.length = s.stack.length := by rw [unhide Htl]; exact (unhide Hz).symm
        have Hlz := hide hlz
        clear hlz
        go_wp2_with fail
        have Hsz8 := hide (show w7.heap.size + 1 = (w7.alloc (.cells #[.bool kn, .slice x7 s.stack.length c7, .slice y7 s.slots.length d7] 79)).heap.size by simp)
        generalize w7.alloc (.cells #[.bool kn, .slice x7 s.stack.length c7, .slice y7 s.slots.length d7] 79) = w8 at BT HF8 s0 s1 s2 r0 r1 r2 i0 i1 f0 f1 f2 RT t0 t1 t2 HIst HIw Hsz8 ⊢
        go_loop [13, 51] (fun an i => ∃ (j : Nat) (av : Int), an = .int .i64 av ∧ i = .int .i64 j ∧ j ≤ tk.1.length ∧ Hid (chk (tk.1.drop j) (s.stack.drop (z + j)) av = takesV ⟨op, arg⟩ s)) (fun _ i => tk.1.length - (RowKit.intOf i).toNat)
        case atStart => exact ⟨0, 0, rfl, rfl, Nat.zero_le _, Hchk⟩
        case round =>
          obtain ⟨j, av, rfl, rfl, hj, HJ⟩ := hrel
          by_cases hjl : j < tk.1.length
          · obtain ⟨pp, hpp⟩ : ∃ pp, pp = z + j := ⟨_, rfl⟩
            have hps : pp < s.stack.length := by have := unhide Hlz; omega
            have HJ' := unhide HJ
            rw [← hpp] at HJ'
            have HST := HJ'.symm.trans (chk_step tk.1 s.stack av j pp hjl hps)
            clear HJ'
            obtain ⟨bw, ow, hwe, hbw, cw⟩ := (unhide HIw).cells j hjl
            obtain ⟨bg, og, hge, hbg, cg⟩ := (unhide HIst).cells pp hps
            have ij : (j : Int) < (tk.1.length : Int) := by omega
            have ips : (pp : Int) < (s.stack.length : Int) := by omega
            have izj : IntKind.i64.wrap ((z : Int) + (j : Int)) = (pp : Int) := by
              rw [hpp]
              have : z + j ≤ 300 := by omega
              simp [IntKind.wrap, IntKind.bits, IntKind.signed]
              omega
            have Hnx := hide (show z + (j + 1) = pp + 1 by omega)
            have Hjl := hide hjl
            subst hwe hge
            generalize tk.1[j] = wv at cw HST
            generalize s.stack[pp] = gv at cg HST
            have HSt := hide HST
            clear HST hj hjl hps hpp
            by_cases w0 : wv = 0
            · subst w0
              by_cases a0 : av = 0
              · subst a0
                have HN := hide (show chk (tk.1.drop (j + 1)) (s.stack.drop (pp + 1)) gv = takesV ⟨op, arg⟩ s by
                  have := unhide HSt
                  simp at this
                  exact this.symm)
                go_wp2_with fail
                go_round
                case rel => exact ⟨j + 1, gv, rfl, by have := unhide Hjl; go_num, unhide Hjl, by rw [unhide Hnx]; exact HN⟩
                case measure => have := unhide Hjl; simp [RowKit.intOf]; omega
              · by_cases ga : gv = av
                · subst ga
                  have HN := hide (show chk (tk.1.drop (j + 1)) (s.stack.drop (pp + 1)) gv = takesV ⟨op, arg⟩ s by
                    have := unhide HSt
                    simp [a0] at this
                    exact this.symm)
                  have b0 : (gv == 0) = false := beq_eq_false_iff_ne.2 a0
                  have b1 : (gv != gv) = false := by simp
                  clear a0
                  go_wp2_with fail
                  go_round
                  case rel => exact ⟨j + 1, gv, rfl, by have := unhide Hjl; go_num, unhide Hjl, by rw [unhide Hnx]; exact HN⟩
                  case measure => have := unhide Hjl; simp [RowKit.intOf]; omega
                · have HN := hide (show takesV ⟨op, arg⟩ s = false by
                    have := unhide HSt
                    simp [a0, ga] at this
                    exact this)
                  have b0 : (av == 0) = false := beq_eq_false_iff_ne.2 a0
                  have b1 : (gv != av) = true := bne_iff_ne.2 ga
                  clear a0 ga
                  have Hr2 := hide (show stepV (P.map Vl.kind) S m k ⟨op, arg⟩ s = (5, s) by
                    unfold stepV
                    rw [List.length_map, if_neg (by rw [unhide Hr]; decide), if_neg (by show ¬ s.stack.length < popV op; have := unhide Hp; omega), if_pos (unhide HN)])
                  go_wp2_with fail
                  obtain ⟨⟨p0, p1, p2⟩, BB⟩ := (unhide HF8).put (.bool kn) (.slice ta tn tc) (.slice tb tm td)
                  exact bodyPost_ret (v := .tuple #[.agg #[.bool kn, .slice ta tn tc, .slice tb tm td], .int .i64 5]) (by simp [results, Tryz.results40, go_sem, p0, p1, p2]) rfl ⟨_, by rw [unhide Hr2], BB, (fun e => by rw [unhide Hr2] at e; simp at e), _, _, _, _, _, _, _, rfl⟩
            · have bw0 : (wv == 0) = false := beq_eq_false_iff_ne.2 w0
              by_cases wp : 0 < wv
              · by_cases gw : gv = wv
                · subst gw
                  have HN := hide (show chk (tk.1.drop (j + 1)) (s.stack.drop (pp + 1)) av = takesV ⟨op, arg⟩ s by
                    have := unhide HSt
                    simp [w0] at this
                    exact this.symm)
                  have b1 : (gv != gv) = false := by simp
                  clear w0
                  go_wp2_with fail
                  go_round
                  case rel => exact ⟨j + 1, av, rfl, by have := unhide Hjl; go_num, unhide Hjl, by rw [unhide Hnx]; exact HN⟩
                  case measure => have := unhide Hjl; simp [RowKit.intOf]; omega
                · have HN := hide (show takesV ⟨op, arg⟩ s = false by
                    have := unhide HSt
                    simp [w0, wp, gw] at this
                    exact this)
                  have b1 : (gv != wv) = true := bne_iff_ne.2 gw
                  clear w0 gw
                  have Hr2 := hide (show stepV (P.map Vl.kind) S m k ⟨op, arg⟩ s = (5, s) by
                    unfold stepV
                    rw [List.length_map, if_neg (by rw [unhide Hr]; decide), if_neg (by show ¬ s.stack.length < popV op; have := unhide Hp; omega), if_pos (unhide HN)])
                  go_wp2_with fail
                  obtain ⟨⟨p0, p1, p2⟩, BB⟩ := (unhide HF8).put (.bool kn) (.slice ta tn tc) (.slice tb tm td)
                  exact bodyPost_ret (v := .tuple #[.agg #[.bool kn, .slice ta tn tc, .slice tb tm td], .int .i64 5]) (by simp [results, Tryz.results40, go_sem, p0, p1, p2]) rfl ⟨_, by rw [unhide Hr2], BB, (fun e => by rw [unhide Hr2] at e; simp at e), _, _, _, _, _, _, _, rfl⟩
              · have HN := hide (show chk (tk.1.drop (j + 1)) (s.stack.drop (pp + 1)) av = takesV ⟨op, arg⟩ s by
                  have := unhide HSt
                  simp [w0, wp] at this
                  exact this.symm)
                clear w0
                go_wp2_with fail
                go_round
                case rel => exact ⟨j + 1, av, rfl, by have := unhide Hjl; go_num, unhide Hjl, by rw [unhide Hnx]; exact HN⟩
                case measure => have := unhide Hjl; simp [RowKit.intOf]; omega
          · have ej : tk.1.length = j := by omega
            have Ht := hide (show takesV ⟨op, arg⟩ s = true by
              rw [← unhide HJ, ← ej, List.drop_length]
              rfl)
            have Hpu := hide (show tk.2 = pushV (P.map Vl.kind) ⟨op, arg⟩ s by
              rw [unhide HTk]
              exact takes_push (P.map Vl.kind) ⟨op, arg⟩ s.stack s.slots h1op h25 (unhide Ht))
            have Hej := hide ej
            have nij : ¬ ((j : Int) < (tk.1.length : Int)) := by omega
            clear hj hjl ej
            have hpn : 0 ≤ tk.2 := by rw [unhide HTk]; exact takesM_nonneg _ _ _ hpk hsl
            have Hst0 := hide (show stepV (P.map Vl.kind) S m k ⟨op, arg⟩ s = if op = 3 ∧ tk.2 = 0 then (6, s) else if 100 < (behindV (P.map Vl.kind) ⟨op, arg⟩ s).stack.length then (7, s) else (0, behindV (P.map Vl.kind) ⟨op, arg⟩ s) by
              unfold stepV
              rw [List.length_map, if_neg (by rw [unhide Hr]; decide), if_neg (by show ¬ s.stack.length < popV op; have := unhide Hp; omega), if_neg (by rw [unhide Ht]; decide)]
              by_cases h3 : op = 3
              · subst h3
                have e : tk.2 = atV s.slots arg := unhide Hpu
                rw [e]
              · have hA : ¬ ((⟨op, arg⟩ : Is1).op = 3 ∧ atV s.slots (⟨op, arg⟩ : Is1).arg = 0) := fun h => h3 h.1
                have hB : ¬ (op = 3 ∧ tk.2 = 0) := fun h => h3 h.1
                rw [if_neg hA]
                exact (if_neg hB).symm)
            have Hbh := hide (show behindV (P.map Vl.kind) ⟨op, arg⟩ s = if tk.2 = 0 then ⟨s.stack.take z, s.slots⟩ else ⟨s.stack.take z ++ [tk.2], s.slots⟩ by
              unfold behindV
              rw [if_neg h4, ← unhide Hpu, show s.stack.length - popV op = z by have := unhide Hz; omega])
            generalize behindV (P.map Vl.kind) ⟨op, arg⟩ s = bv at Hst0 Hbh
            obtain ⟨pu, hpu⟩ : ∃ pu, pu = tk.2 := ⟨_, rfl⟩
            rw [← hpu] at hpn Hst0 Hbh ⊢
            clear hpu Hpu
            by_cases h6 : op = 3 ∧ pu = 0
            · have Hr6 := hide (show stepV (P.map Vl.kind) S m k ⟨op, arg⟩ s = (6, s) by rw [unhide Hst0, if_pos h6])
              obtain ⟨rfl, rfl⟩ := h6
              clear Hst0 Hbh hpn
              go_wp2_with fail
              obtain ⟨⟨p0, p1, p2⟩, BB⟩ := (unhide HF8).put (.bool kn) (.slice ta tn tc) (.slice tb tm td)
              exact bodyPost_ret (v := .tuple #[.agg #[.bool kn, .slice ta tn tc, .slice tb tm td], .int .i64 6]) (by simp [results, Tryz.results40, go_sem, p0, p1, p2]) rfl ⟨_, by rw [unhide Hr6], BB, (fun e => by rw [unhide Hr6] at e; simp at e), _, _, _, _, _, _, _, rfl⟩
            · have Hr7 := hide (show stepV (P.map Vl.kind) S m k ⟨op, arg⟩ s = if 100 < bv.stack.length then (7, s) else (0, bv) by rw [unhide Hst0, if_neg h6])
              have hcase : ((op == 3) = false) ∨ ((op == 3) = true ∧ (pu == 0) = false) := by
                by_cases e3 : op = 3
                · exact .inr ⟨by rw [e3]; rfl, beq_eq_false_iff_ne.2 (fun e => h6 ⟨e3, e⟩)⟩
                · exact .inl (beq_eq_false_iff_ne.2 e3)
              clear h6 Hst0
              obtain ⟨hx7, hc7⟩ : (x7 = none → c7 = 0) ∧ (s.stack.length ≤ c7) := by
                rcases ow1.2 with ⟨hv, h0⟩ | ⟨gg, cap, cur, hv, _, _, h1, h2, _⟩
                · simp only [Value.slice.injEq] at hv
                  exact ⟨fun _ => hv.2.2, by omega⟩
                · simp only [Value.slice.injEq] at hv
                  obtain ⟨hv1, _, rfl⟩ := hv
                  exact ⟨fun e => (by rw [hv1] at e; cases e), h1⟩
              have izc : (z : Int) ≤ (c7 : Int) := by have := unhide Hz; omega
              have iz0 : (0 : Int) ≤ (z : Int) := by omega
              have hf1 := RT.frozen 1
              have HRT9 := hide (RT.set 1 (.slice x7 z c7))
              have HF9 := hide (show Fr w (w8.setCell ⟨w7.heap.size, 1, none⟩ (.slice x7 z c7)) (.slice a n c) (.int .i64 S) (.slice (some ⟨g, off, none⟩) m d) kn ta tb tn tc tm td op arg from by
                obtain ⟨g0, g1, g2, g3, g4⟩ := unhide HF8
                have hl7 := (unhide HF7).2.2.2.1.lt
                exact ⟨g0.setFar (p := ⟨w7.heap.size, 1, none⟩) (by show w.heap.size ≠ w7.heap.size; omega) _, g1.setFar (p := ⟨w7.heap.size, 1, none⟩) (by show w.heap.size + 1 ≠ w7.heap.size; omega) _, g2.setFar (p := ⟨w7.heap.size, 1, none⟩) (by show w.heap.size + 1 + 1 ≠ w7.heap.size; omega) _, g3.setFar (p := ⟨w7.heap.size, 1, none⟩) (by show w.heap.size + 1 + 1 + 1 ≠ w7.heap.size; omega) _, g4.setCell (p := ⟨w7.heap.size, 1, none⟩) (by show w.heap.size ≤ w7.heap.size; omega) _⟩)
              have Hblk := hide (show ∀ q, q < w7.heap.size → (w8.setCell ⟨w7.heap.size, 1, none⟩ (.slice x7 z c7)).heap[q]? = w7.heap[q]? from fun q hq => by
                rw [heap_setCell_other _ _ _ _ (by show q ≠ w7.heap.size; omega)]
                exact BT.block q hq)
              have HO9 := hide (owns_block (w' := (w8.setCell ⟨w7.heap.size, 1, none⟩ (.slice x7 z c7))) (owns_take ow1 z (by have := unhide Hz; omega)) (fun q _ hq _ => unhide Hblk q hq))
              have HY9 := hide (owns_block (w' := (w8.setCell ⟨w7.heap.size, 1, none⟩ (.slice x7 z c7))) ow2 (fun q _ hq _ => unhide Hblk q hq))
              have hap' := hide hap
              have Hl1 := hide ow1.lt
              have Hl2 := hide ow2.lt
              have hz6 := hide (show w6.heap.size ≤ w7.heap.size from hb7.size)
              clear hap ow1 ow2 hb7 BT
              have Htake := hide (show (intsV s.stack).take z = intsV (s.stack.take z) by rw [intsV, intsV, List.map_take])
              have hz2 : z ≤ 200 := by have := unhide Hz; omega
              have Hlt := hide (show (s.stack.take z).length = z by rw [List.length_take]; have := unhide Hz; omega)
              rw [unhide Htake] at HO9
              by_cases hp0 : 0 < pu
              · have HO10 := hide (World.ownsRow.alloc (unhide HO9) (.cells #[.int .i64 pu] 3))
                have HIN := hide (ints_new (w8.setCell ⟨w7.heap.size, 1, none⟩ (.slice x7 z c7)) w8.heap.size (by simp) [pu] 3 1 (by simp))
                have HF10 := hide ((unhide HF9).after ((Below.refl _ _).alloc (Nat.le_refl _) (.cells #[.int .i64 pu] 3)))
                have HRT10 := hide ((unhide HRT9).alloc (.cells #[.int .i64 pu] 3))
                have Hz10 := hide (show w8.heap.size + 1 = ((w8.setCell ⟨w7.heap.size, 1, none⟩ (.slice x7 z c7)).alloc (.cells #[.int .i64 pu] 3)).heap.size by simp)
                have Hbv := hide (show bv = ⟨s.stack.take z ++ [pu], s.slots⟩ by rw [unhide Hbh, if_neg (by omega)])
                have Hown7 := hide (show ∀ q, (Value.slice x7 z c7).ownBlock = some q → w6.heap.size ≤ q ∧ q < w7.heap.size from fun q hq => unhide Hl1 q (by cases x7 with
                  | none => simp [Value.ownBlock] at hq
                  | some a7 => exact hq))
                have Hf6 := hide (show w.heap.size + 1 + 1 + 1 < w6.heap.size from (unhide HF6).2.2.2.1.lt)
                have Hf7 := hide (show w.heap.size + 1 + 1 + 1 < w7.heap.size from (unhide HF7).2.2.2.1.lt)
                have HYg := hide (fun W11 (hg : World.grownBy ((w8.setCell ⟨w7.heap.size, 1, none⟩ (.slice x7 z c7)).alloc (.cells #[.int .i64 pu] 3)) W11 (Value.slice x7 z c7).ownBlock) => owns_block (w' := W11) (World.ownsRow.alloc (unhide HY9) (.cells #[.int .i64 pu] 3)) (fun q hq hl hx => hg.block q hl (fun e => by
                  cases x7 with
                  | none => cases e
                  | some a7 =>
                    have e' : q = a7.block := by simpa [Value.ownBlock] using e
                    exact unhide hap' a7 ⟨q, 0, none⟩ rfl hx e'.symm)))
                have Hbl := hide (show bv.stack.length = z + 1 by rw [unhide Hbv]; simp [unhide Hlt])
                clear Hchk
                by_cases h7 : 100 < z + 1
                · have Hr8 := hide (show stepV (P.map Vl.kind) S m k ⟨op, arg⟩ s = (7, s) by rw [unhide Hr7, unhide Hbl, if_pos h7])
                  have i7 : (100 : Int) < (z : Int) + 1 := by omega
                  have dB : (100 : Int) < ((z + 1 : Nat) : Int) := by omega
                  clear h7
                  rcases hcase with b3 | ⟨b3, b30⟩
                  all_goals
                    go_wp2_with (first
                      | (at_builtin; refine append_ints rfl _ _ rfl w6.heap.size (.slice x7 z c7) z (intsV (s.stack.take z)) rfl (unhide HO10) (some ⟨w8.heap.size, 0, none⟩) 1 1 [pu] rfl (unhide HIN) (by simp) (by omega) (by have := unhide Hz10; have := unhide hz6; have := unhide Hsz8; omega) ?_; intro v11 w11 ow11 hg11; obtain ⟨x11, c11, rfl⟩ := owns_form ow11; have HF11 := hide ((unhide HF10).grown hg11 (fun q hq => (unhide Hown7 q hq).1) (unhide Hf6)); have RT11 := (unhide HRT10).grown hg11 (fun e => by have := (unhide Hown7 _ e.symm).2; omega); have g1 := RT11.frozen 1; obtain ⟨_, m1, _⟩ := rowC RT11; have RT12 := RT11.set 1 (.slice x11 (z + 1) c11); simp only [List.setIfInBounds_toArray, List.set_cons_zero, List.set_cons_succ] at RT12; obtain ⟨t0', t1', t2'⟩ := rowC RT12; have HF12 := hide ((unhide HF11).far ⟨w7.heap.size, 1, none⟩ (.slice x11 (z + 1) c11) (unhide Hf7)); obtain ⟨_, ⟨s0', s1', s2'⟩, ⟨r0', r1', r2'⟩, _, f0', f1', f2'⟩ := (unhide HF12).cells; have HO12 := hide (owns_set ow11 ⟨w7.heap.size, 1, none⟩ RT11 int_ne_state (.slice x11 (z + 1) c11)); have HY12 := hide (owns_set (unhide HYg w11 hg11) ⟨w7.heap.size, 1, none⟩ RT11 int_ne_state (.slice x11 (z + 1) c11)); clear hg11 ow11 RT11 RT12 s0 s1 s2 r0 r1 r2 i0 i1 f0 f1 f2 t0 t1 t2)
                      | fail)
                    obtain ⟨⟨p0, p1, p2⟩, BB⟩ := (unhide HF12).put (.bool kn) (.slice ta tn tc) (.slice tb tm td)
                    exact bodyPost_ret (v := .tuple #[.agg #[.bool kn, .slice ta tn tc, .slice tb tm td], .int .i64 7]) (by simp [results, Tryz.results40, go_sem, p0, p1, p2]) rfl ⟨_, by rw [unhide Hr8], BB, (fun e => by rw [unhide Hr8] at e; simp at e), _, _, _, _, _, _, _, rfl⟩
                · have Hr8 := hide (show stepV (P.map Vl.kind) S m k ⟨op, arg⟩ s = (0, bv) by rw [unhide Hr7, unhide Hbl, if_neg h7])
                  have i7 : ¬ ((100 : Int) < (z : Int) + 1) := by omega
                  have dB : ¬ ((100 : Int) < ((z + 1 : Nat) : Int)) := by omega
                  clear h7
                  rcases hcase with b3 | ⟨b3, b30⟩
                  all_goals
                    go_wp2_with (first
                      | (at_builtin; refine append_ints rfl _ _ rfl w6.heap.size (.slice x7 z c7) z (intsV (s.stack.take z)) rfl (unhide HO10) (some ⟨w8.heap.size, 0, none⟩) 1 1 [pu] rfl (unhide HIN) (by simp) (by omega) (by have := unhide Hz10; have := unhide hz6; have := unhide Hsz8; omega) ?_; intro v11 w11 ow11 hg11; obtain ⟨x11, c11, rfl⟩ := owns_form ow11; have HF11 := hide ((unhide HF10).grown hg11 (fun q hq => (unhide Hown7 q hq).1) (unhide Hf6)); have RT11 := (unhide HRT10).grown hg11 (fun e => by have := (unhide Hown7 _ e.symm).2; omega); have g1 := RT11.frozen 1; obtain ⟨_, m1, _⟩ := rowC RT11; have RT12 := RT11.set 1 (.slice x11 (z + 1) c11); simp only [List.setIfInBounds_toArray, List.set_cons_zero, List.set_cons_succ] at RT12; obtain ⟨t0', t1', t2'⟩ := rowC RT12; have HF12 := hide ((unhide HF11).far ⟨w7.heap.size, 1, none⟩ (.slice x11 (z + 1) c11) (unhide Hf7)); obtain ⟨_, ⟨s0', s1', s2'⟩, ⟨r0', r1', r2'⟩, _, f0', f1', f2'⟩ := (unhide HF12).cells; have HO12 := hide (owns_set ow11 ⟨w7.heap.size, 1, none⟩ RT11 int_ne_state (.slice x11 (z + 1) c11)); have HY12 := hide (owns_set (unhide HYg w11 hg11) ⟨w7.heap.size, 1, none⟩ RT11 int_ne_state (.slice x11 (z + 1) c11)); clear hg11 ow11 RT11 RT12 s0 s1 s2 r0 r1 r2 i0 i1 f0 f1 f2 t0 t1 t2)
                      | fail)
                    obtain ⟨⟨p0, p1, p2⟩, BB⟩ := (unhide HF12).put (.bool kn) (.slice x11 (z + 1) c11) (.slice y7 s.slots.length d7)
                    have O12 := unhide HO12
                    rw [show intsV (s.stack.take z) ++ intsV [pu] = intsV (s.stack.take z ++ [pu]) by simp [intsV]] at O12
                    have FIN := step_fin (unhide HF12) O12 (unhide HY12) (by have := unhide Hf6; omega) (by omega) (by rw [unhide Hs2]; omega)
                    have hl1 : bv.stack.length = z + 1 := unhide Hbl
                    have hl2 : bv.slots.length = s.slots.length := by rw [unhide Hbv]
                    exact bodyPost_ret (v := .tuple #[.agg #[.bool kn, .slice x11 (z + 1) c11, .slice y7 s.slots.length d7], .int .i64 0]) (by simp [results, Tryz.results40, go_sem, p0, p1, p2]) rfl ⟨_, by rw [unhide Hr8], BB, (fun _ => ⟨x11, c11, y7, d7, by rw [unhide Hr8]; simp only; rw [hl1, hl2], by rw [unhide Hr8]; simp only; rw [hl1, hl2, unhide Hbv]; exact FIN.1, FIN.2⟩), _, _, _, _, _, _, _, rfl⟩
              · have epu : pu = 0 := by omega
                subst epu
                have Hbv := hide (show bv = ⟨s.stack.take z, s.slots⟩ by rw [unhide Hbh, if_pos rfl])
                have Hbl := hide (show bv.stack.length = z by rw [unhide Hbv]; exact unhide Hlt)
                have RT9 := unhide HRT9
                simp only [List.setIfInBounds_toArray, List.set_cons_zero, List.set_cons_succ] at RT9
                obtain ⟨t0', t1', t2'⟩ := rowC RT9
                obtain ⟨_, ⟨s0', s1', s2'⟩, ⟨r0', r1', r2'⟩, _, f0', f1', f2'⟩ := (unhide HF9).cells
                have Hf6 := hide (show w.heap.size + 1 + 1 + 1 < w6.heap.size from (unhide HF6).2.2.2.1.lt)
                clear Hchk RT9
                have hc3 : (op == 3) = false := by
                  rcases hcase with b3 | ⟨_, b30⟩
                  · exact b3
                  · simp at b30
                clear hcase
                by_cases h7 : 100 < z
                · have Hr8 := hide (show stepV (P.map Vl.kind) S m k ⟨op, arg⟩ s = (7, s) by rw [unhide Hr7, unhide Hbl, if_pos h7])
                  have i7 : (100 : Int) < (z : Int) := by omega
                  clear h7
                  go_wp2_with fail
                  obtain ⟨⟨p0, p1, p2⟩, BB⟩ := (unhide HF9).put (.bool kn) (.slice ta tn tc) (.slice tb tm td)
                  exact bodyPost_ret (v := .tuple #[.agg #[.bool kn, .slice ta tn tc, .slice tb tm td], .int .i64 7]) (by simp [results, Tryz.results40, go_sem, p0, p1, p2]) rfl ⟨_, by rw [unhide Hr8], BB, (fun e => by rw [unhide Hr8] at e; simp at e), _, _, _, _, _, _, _, rfl⟩
                · have Hr8 := hide (show stepV (P.map Vl.kind) S m k ⟨op, arg⟩ s = (0, bv) by rw [unhide Hr7, unhide Hbl, if_neg h7])
                  have i7 : ¬ ((100 : Int) < (z : Int)) := by omega
                  clear h7
                  go_wp2_with fail
                  obtain ⟨⟨p0, p1, p2⟩, BB⟩ := (unhide HF9).put (.bool kn) (.slice x7 z c7) (.slice y7 s.slots.length d7)
                  have FIN := step_fin (unhide HF9) (unhide HO9) (unhide HY9) (by have := unhide Hf6; omega) (by omega) (by rw [unhide Hs2]; omega)
                  have hl1 : bv.stack.length = z := unhide Hbl
                  have hl2 : bv.slots.length = s.slots.length := by rw [unhide Hbv]
                  exact bodyPost_ret (v := .tuple #[.agg #[.bool kn, .slice x7 z c7, .slice y7 s.slots.length d7], .int .i64 0]) (by simp [results, Tryz.results40, go_sem, p0, p1, p2]) rfl ⟨_, by rw [unhide Hr8], BB, (fun _ => ⟨x7, c7, y7, d7, by rw [unhide Hr8]; simp only; rw [hl1, hl2], by rw [unhide Hr8]; simp only; rw [hl1, hl2, unhide Hbv]; exact FIN.1, FIN.2⟩), _, _, _, _, _, _, _, rfl⟩
    · have Hr2 := hide (show stepV (P.map Vl.kind) S m k ⟨op, arg⟩ s = (4, s) by unfold stepV; rw [List.length_map, if_neg (by rw [unhide Hr]; decide), if_pos (by show s.stack.length < popV op; omega)])
      have hlt : (s.stack.length : Int) < (tk.1.length : Int) := by rw [unhide Htl]; omega
      clear hp
      generalize tk.1.length = tl at hlt ⊢
      go_wp2_with fail
      obtain ⟨⟨p0, p1, p2⟩, BB⟩ := (unhide HF8).put (.bool kn) (.slice ta tn tc) (.slice tb tm td)
      exact bodyPost_ret (v := .tuple #[.agg #[.bool kn, .slice ta tn tc, .slice tb tm td], .int .i64 4]) (by simp [results, Tryz.results40, go_sem, p0, p1, p2]) rfl ⟨_, by rw [unhide Hr2], BB, (fun e => by rw [unhide Hr2] at e; simp at e), _, _, _, _, _, _, _, rfl⟩
  · have hr0 : rangeV P.length S m k ⟨op, arg⟩ = false := by simpa using hr
    have hr' : rangeV n S m k ⟨op, arg⟩ = false := by rw [unhide HPn]; exact hr0
    have Hr := hide (show stepV (P.map Vl.kind) S m k ⟨op, arg⟩ s = (3, s) by unfold stepV; rw [List.length_map, if_pos hr0])
    rw [hr']
    clear hr hr' hr0
    go_wp2_with fail
    obtain ⟨⟨p0, p1, p2⟩, BB⟩ := (unhide HF5).put (.bool kn) (.slice ta tn tc) (.slice tb tm td)
    exact bodyPost_ret (v := .tuple #[.agg #[.bool kn, .slice ta tn tc, .slice tb tm td], .int .i64 3]) (by simp [results, Tryz.results40, go_sem, p0, p1, p2]) rfl ⟨_, by rw [unhide Hr], BB, (fun e => by rw [unhide Hr] at e; simp at e), _, _, _, _, _, _, _, rfl⟩

end Go.Proofs.YtogenboibgddaaaGreatDoor

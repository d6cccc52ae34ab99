/-
  The model's machine: operators. Own work.
-/
import Derived.Test.YtogenboibgddaaaGreatDoorRVU
namespace Go.Proofs.YtogenboibgddaaaGreatDoor
open Go.RowKit
set_option linter.unusedVariables false

set_option maxRecDepth 100000 in
set_option maxHeartbeats 6400000 in
theorem m_op1 (ap : Option Addr) (np cp : Nat) (s : Int) (ib io ni ci : Nat) (R : Rq) (a1 : Option Addr) (n1 c1 : Nat) (a2 : Option Addr) (n2 c2 : Nat) (at_ : Nat) (sa : Option Addr) (sc : Nat) (st : List Vv) (xs : List Value) (m : Nat) (lb S : Nat) (sl : List (Option Vv)) (cs : Array Value) (n pk : Nat) (arg opn : Int) (X : Rn) (w : World) (hln : st.length = m + 1) (i0 : w.cell? ⟨ib, io + at_ * 2, none⟩ = some (.int .i64 opn)) (i1 : w.cell? ⟨ib, io + at_ * 2 + 1, none⟩ = some (.int .i64 arg)) (hib : ib < w.heap.size) (hat : at_ < ni) (hni : ni ≤ 20000) (hn : n ≤ 20000) (hpk : pk ≤ 100) (hlen : m + 1 ≤ 100) (hO : StO w 0 sa sc st xs) (hL : SlO w lb S sl cs) (hop : 5 ≤ opn ∧ opn ≤ 7) (ty : Int) (hty : (h : m < st.length) → nz (tyOp (opn + 3) [st[m].ty]) = some ty) (tv : Vv) (hev : (h : m < st.length) → evUn (opn + 3) st[m] = .ok tv) (HC : ∀ x c ys ds w', Kpt (fun k => k = lb) w w' → StO w' 0 x c (st.take m ++ [tv]) ys → SlO w' lb S (sl) ds → Calls Tryz.prog 22 #[.agg #[.slice ap np cp, .int .i64 s, .slice (some ⟨ib, io, none⟩) ni ci], .agg #[.string R.cl, .string R.us, .int .i64 R.lv, .int .i64 R.nw, .slice a1 n1 c1, .slice a2 n2 c2], .int .i64 ((at_ : Int) + 1), .slice x (st.take m ++ [tv]).length c, .slice (some ⟨lb, 0, none⟩) S S, .agg #[.int .i64 0, .int .i64 0, .slice none 0 0, .int .i64 ((n + 1 : Nat) : Int), .int .i64 ((max pk (st.take m ++ [tv]).length : Nat) : Int)]] w' (RnG w'.heap.size lb X w')) :
    Calls Tryz.prog 22 #[.agg #[.slice ap np cp, .int .i64 s, .slice (some ⟨ib, io, none⟩) ni ci], .agg #[.string R.cl, .string R.us, .int .i64 R.lv, .int .i64 R.nw, .slice a1 n1 c1, .slice a2 n2 c2], .int .i64 at_, .slice sa (m + 1) sc, .slice (some ⟨lb, 0, none⟩) S S, .agg #[.int .i64 0, .int .i64 0, .slice none 0 0, .int .i64 n, .int .i64 pk]] w (RnG w.heap.size lb X w) := by
  obtain ⟨ti, hti, hz0, hz1, hz2⟩ := info_parts infoM
  have f1 : (opn == 1) = false := by simp; omega
  have f2 : (opn == 2) = false := by simp; omega
  have f3 : (opn == 3) = false := by simp; omega
  have f4 : (opn == 4) = false := by simp; omega
  have f22 : (opn == 22) = false := by simp; omega
  have f23 : (opn == 23) = false := by simp; omega
  have f24 : (opn == 24) = false := by simp; omega
  have f25 : (opn == 25) = false := by simp; omega
  have B4 := ((((Below.refl w.heap.size w).alloc (Nat.le_refl _) (.cells #[.slice ap np cp, .int .i64 s, .slice (some ⟨ib, io, none⟩) ni ci] 39)).alloc (by simp) (.cells #[.string R.cl, .string R.us, .int .i64 R.lv, .int .i64 R.nw, .slice a1 n1 c1, .slice a2 n2 c2] 41)).alloc (by simp; omega) (.cells #[.int .i64 0, .int .i64 0, .slice none 0 0, .int .i64 n, .int .i64 pk] 34)).alloc (by simp; omega) (.cells #[.int .i64 0, .int .i64 0, .slice none 0 0, .int .i64 0, .int .i64 0] 34)
  have d0 := (B4.cell (p := ⟨ib, io + at_ * 2, none⟩) hib).trans i0
  have d1 := (B4.cell (p := ⟨ib, io + at_ * 2 + 1, none⟩) hib).trans i1
  have B5 := ((((Below.refl w.heap.size w).alloc (Nat.le_refl _) (.cells #[.slice ap np cp, .int .i64 s, .slice (some ⟨ib, io, none⟩) ni ci] 39)).alloc (by simp) (.cells #[.string R.cl, .string R.us, .int .i64 R.lv, .int .i64 R.nw, .slice a1 n1 c1, .slice a2 n2 c2] 41)).alloc (by simp; omega) (.cells #[.int .i64 0, .int .i64 0, .slice none 0 0, .int .i64 ((n : Int) + 1), .int .i64 pk] 34)).alloc (by simp; omega) (.cells #[.int .i64 0, .int .i64 0, .slice none 0 0, .int .i64 0, .int .i64 0] 34) |>.alloc (by simp; omega) (.cells #[.int .i64 opn, .int .i64 arg] 87)
  have RC := ((((Row.new w #[.slice ap np cp, .int .i64 s, .slice (some ⟨ib, io, none⟩) ni ci] 39).alloc (.cells #[.string R.cl, .string R.us, .int .i64 R.lv, .int .i64 R.nw, .slice a1 n1 c1, .slice a2 n2 c2] 41)).alloc (.cells #[.int .i64 0, .int .i64 0, .slice none 0 0, .int .i64 ((n : Int) + 1), .int .i64 pk] 34)).alloc (.cells #[.int .i64 0, .int .i64 0, .slice none 0 0, .int .i64 0, .int .i64 0] 34)).alloc (.cells #[.int .i64 opn, .int .i64 arg] 87)
  have RR := (((Row.new (w.alloc (.cells #[.slice ap np cp, .int .i64 s, .slice (some ⟨ib, io, none⟩) ni ci] 39)) #[.string R.cl, .string R.us, .int .i64 R.lv, .int .i64 R.nw, .slice a1 n1 c1, .slice a2 n2 c2] 41).alloc (.cells #[.int .i64 0, .int .i64 0, .slice none 0 0, .int .i64 ((n : Int) + 1), .int .i64 pk] 34)).alloc (.cells #[.int .i64 0, .int .i64 0, .slice none 0 0, .int .i64 0, .int .i64 0] 34)).alloc (.cells #[.int .i64 opn, .int .i64 arg] 87)
  have RT := ((Row.new ((w.alloc (.cells #[.slice ap np cp, .int .i64 s, .slice (some ⟨ib, io, none⟩) ni ci] 39)).alloc (.cells #[.string R.cl, .string R.us, .int .i64 R.lv, .int .i64 R.nw, .slice a1 n1 c1, .slice a2 n2 c2] 41)) #[.int .i64 0, .int .i64 0, .slice none 0 0, .int .i64 ((n : Int) + 1), .int .i64 pk] 34).alloc (.cells #[.int .i64 0, .int .i64 0, .slice none 0 0, .int .i64 0, .int .i64 0] 34)).alloc (.cells #[.int .i64 opn, .int .i64 arg] 87)
  have RZ := (Row.new (((w.alloc (.cells #[.slice ap np cp, .int .i64 s, .slice (some ⟨ib, io, none⟩) ni ci] 39)).alloc (.cells #[.string R.cl, .string R.us, .int .i64 R.lv, .int .i64 R.nw, .slice a1 n1 c1, .slice a2 n2 c2] 41)).alloc (.cells #[.int .i64 0, .int .i64 0, .slice none 0 0, .int .i64 ((n : Int) + 1), .int .i64 pk] 34)) #[.int .i64 0, .int .i64 0, .slice none 0 0, .int .i64 0, .int .i64 0] 34).alloc (.cells #[.int .i64 opn, .int .i64 arg] 87)
  have RI := Row.new ((((w.alloc (.cells #[.slice ap np cp, .int .i64 s, .slice (some ⟨ib, io, none⟩) ni ci] 39)).alloc (.cells #[.string R.cl, .string R.us, .int .i64 R.lv, .int .i64 R.nw, .slice a1 n1 c1, .slice a2 n2 c2] 41)).alloc (.cells #[.int .i64 0, .int .i64 0, .slice none 0 0, .int .i64 ((n : Int) + 1), .int .i64 pk] 34)).alloc (.cells #[.int .i64 0, .int .i64 0, .slice none 0 0, .int .i64 0, .int .i64 0] 34)) #[.int .i64 opn, .int .i64 arg] 87
  simp only [World.size_alloc] at RR RT RZ RI
  have iat : (at_ : Int) < (ni : Int) := by omega
  have hO5 := hO.below B5 (Nat.le_refl _)
  have HL := hide (And.intro (hL.below B5 (Nat.le_refl _)) (And.intro hL.row.lt hL.len))
  have HB := hide B5
  have HN := hide (And.intro hlen (And.intro hpk hn))
  have HCC := hide HC
  have HLN := hide hln
  clear hO hL i0 i1 B5 HC hln
  go_enter Tryz.func22, Tryz.ntmps22
  go_wp2_with (at_builtin; refine append_stk rfl _ _ rfl w.heap.size 0 rfl sa (m + 1) sc st xs (unhide HLN) rfl hO5 (by omega) (by simp; omega) ?_)
  intro y yc w1 hS1 hb1
  have HS := hide hS1
  have Z1 : ((((((w.alloc (.cells #[.slice ap np cp, .int .i64 s, .slice (some ⟨ib, io, none⟩) ni ci] 39)).alloc (.cells #[.string R.cl, .string R.us, .int .i64 R.lv, .int .i64 R.nw, .slice a1 n1 c1, .slice a2 n2 c2] 41)).alloc (.cells #[.int .i64 0, .int .i64 0, .slice none 0 0, .int .i64 ((n : Int) + 1), .int .i64 pk] 34)).alloc (.cells #[.int .i64 0, .int .i64 0, .slice none 0 0, .int .i64 0, .int .i64 0] 34)).alloc (.cells #[.int .i64 opn, .int .i64 arg] 87))).heap.size ≤ w.heap.size + 1 + 1 + 1 + 1 + 1 := by simp
  replace RC := RC.after hb1 Z1
  replace RR := RR.after hb1 Z1
  replace RT := RT.after hb1 Z1
  replace RZ := RZ.after hb1 Z1
  replace RI := RI.after hb1 Z1
  replace HL := hide (And.intro ((unhide HL).1.below hb1 Z1) (unhide HL).2)
  have HK := hide (show Kpt (fun k => k = lb) w w1 from Kpt.of_below ((unhide HB).trans (hb1.mono (by omega))))
  have HBw := hide ((unhide HB).trans (hb1.mono (by omega)))
  have LW : w.heap.size + 1 + 1 + 1 + 1 < w1.heap.size := RI.lt
  clear hO5 hS1 hb1 Z1 HB d0 d1 B4 iat hib hat hni hlen hn
  have lbl := (unhide HL).2.1
  have HSL := hide (unhide HL).1
  obtain ⟨i0, i1⟩ := row2M RI
  obtain ⟨g, num, text, av, nv, cv, rfl, hgB, hg, e0, e1, e2, e3, hv⟩ := (unhide HS).at m (by rw [unhide HLN]; omega)
  have hcap : m + 1 ≤ yc := by have := (unhide HS).cap; rw [unhide HLN] at this; exact this
  have HA : Hid (Calls Tryz.prog 47 #[.int .i64 (8 + opn - 5), .slice (some ⟨g, m * 4, none⟩) 1 (yc - m)] w1 (MAns (.ok tv) w1)) := hide (by
    have hl : m < st.length := by rw [unhide HLN]; omega
    rw [show (8 + opn - 5) = opn + 3 by omega, ← hev hl]
    exact applyO1_any (opn + 3) st[m] ty (hty hl) num text av nv cv g (m * 4) (yc - m) w1 hv e0 e1 e2 e3 hg)
  clear e0 e1 e2 e3 hv hev hty
  have hmb := (unhide HN).1
  have hop2 := hop.2
  have hop1 := hop.1
  
  have icap : ((m : Nat) : Int) ≤ ((yc : Nat) : Int) := by omega
  clear HL
  go_wp2_with fail
  refine (l6pops1 opn (by omega) w1).mono ?_
  rintro r w2 ⟨rfl, h⟩
  rw [h]
  clear h w2
  dsimp only
  go_wp2_with fail
  refine (unhide HA).mono ?_
  clear HA num text av nv cv
  rintro r w2 ⟨⟨_, num, text, av, nv, cv, rfl, rfl, hv⟩, hb2⟩
  have L2 := hb2.size
  have B3 := hb2.alloc hb2.size (.cells #[.int .i64 0, .int .i64 num, .string text, .slice av nv cv] 90)
  replace hv := (hv.mvx).below ((Below.refl w2.heap.size w2).alloc (Nat.le_refl _) (.cells #[.int .i64 0, .int .i64 num, .string text, .slice av nv cv] 90)) (Nat.le_refl _)
  have RV := Row.new w2 #[.int .i64 0, .int .i64 num, .string text, .slice av nv cv] 90
  have HLM := hide (show (st.take m).length = m by rw [List.length_take, unhide HLN]; omega)
  have S1 := (unhide HS).short m (by rw [unhide HLN]; omega)
  obtain ⟨zs, hzs⟩ : ∃ zs, zs = xs.take (m * 4) := ⟨_, rfl⟩
  rw [← hzs] at S1
  replace HS := hide S1
  clear hzs S1 HLN i0 i1
  dsimp only
  go_wp2_with fail
  have L3 : w2.heap.size < (w2.alloc (.cells #[.int .i64 0, .int .i64 num, .string text, .slice av nv cv] 90)).heap.size := by simp
  generalize (w2.alloc (.cells #[.int .i64 0, .int .i64 num, .string text, .slice av nv cv] 90)) = w3 at *
  have O1 : w3.ownsRow w.heap.size 90 4 (.slice (some ⟨g, 0, none⟩) m yc) m zs := by have := ((unhide HS).below B3 (Nat.le_refl _)).1; rw [unhide HLM] at this; exact this
  have ow : (w3.alloc (.cells #[.int .i64 0, .int .i64 num, .string text, .slice av nv cv] 90)).drew.ownsRow w.heap.size 90 4 (.slice (some ⟨g, 0, none⟩) m yc) m zs := (O1.alloc _).drew
  have NW : ∀ j u, ([.int .i64 0, .int .i64 num, .string text, .slice av nv cv] : List Value)[j]? = some u → (w3.alloc (.cells #[.int .i64 0, .int .i64 num, .string text, .slice av nv cv] 90)).drew.cell? ((⟨w3.heap.size, 0, none⟩ : Addr).add j) = some u := World.news_of_block (w := (w3.alloc (.cells #[.int .i64 0, .int .i64 num, .string text, .slice av nv cv] 90)).drew) (heap_alloc_new w3 (.cells #[.int .i64 0, .int .i64 num, .string text, .slice av nv cv] 90))
  obtain ⟨v0, v1, v2, v3⟩ := row4O (RV.after (Below.refl w3.heap.size w3).drew (Nat.le_refl _))
  have wm := wrapN (n := m) (by omega)
  have zm : (0 : Int) ≤ (m : Int) := by omega
  go_region_law (refine step_append_lies _ rfl _ _ 57 rfl w.heap.size 90 ti (.agg #[.int .i64 0, .int .i64 0, .string ByteArray.empty, .slice none 0 0]) 4 56 Tryz.underlying57 hti hz0 hz1 hz2 rfl (by decide) (.slice (some ⟨g, 0, none⟩) m yc) m zs rfl ow ⟨w3.heap.size, 0, none⟩ 1 1 [.int .i64 0, .int .i64 num, .string text, .slice av nv cv] rfl rfl NW (by intro u hu; simp at hu; rcases hu with rfl | rfl | rfl | rfl <;> rfl) (by decide) (by unfold maxLen; omega) (by omega) (by simp; omega) _ rfl ?_; intro g7 yc7 w7 O7 hgrow hat hgl)
  have BX := (B3.alloc B3.size (.cells #[.int .i64 0, .int .i64 num, .string text, .slice av nv cv] 90)).drew
  replace hv := hv.below ((Below.refl w3.heap.size w3).alloc (Nat.le_refl _) (.cells #[.int .i64 0, .int .i64 num, .string text, .slice av nv cv] 90)).drew (Nat.le_refl _)
  clear v0 v1 v2 v3 NW ow O1 RV B3 wm zm hb2
  replace hgrow := grown_len hgrow (st.take m).length
  have SP := (unhide HS).below BX (Nat.le_refl _)
  have LP := (unhide HSL).below BX (Nat.le_refl _)
  have RCP := RC.after BX (Nat.le_refl _)
  have RRP := RR.after BX (Nat.le_refl _)
  have RTP := RT.after BX (Nat.le_refl _)
  have RZP := RZ.after BX (Nat.le_refl _)
  have neC := own_ne_row RCP SP.1 (by decide)
  have neR := own_ne_row RRP SP.1 (by decide)
  have neT := own_ne_row RTP SP.1 (by decide)
  have neZ := own_ne_row RZP SP.1 (by decide)
  replace RC := rowGrown RCP hgrow (fun e => neC e.symm)
  replace RR := rowGrown RRP hgrow (fun e => neR e.symm)
  replace RT := rowGrown RTP hgrow (fun e => neT e.symm)
  replace RZ := rowGrown RZP hgrow (fun e => neZ e.symm)
  have S7 := SP.push hv (by rw [unhide HLM]; exact O7) hgrow
  have olt := SP.1.lt
  have L7 := LP.kpt (Kpt.of_grown hgrow) (fun b cs r e => own_ne_row r SP.1 (by decide) e) (fun e => by have := (olt lb e).1; omega)
  have K7 := ((unhide HK).trans (Kpt.of_below (S := fun k => k = lb) BX) (fun q _ h => h)).trans (Kpt.of_grown hgrow) (fun q hq e => absurd (olt q e).1 (by omega))
  have L8 := K7.size
  have hm : (st.take m ++ [tv]).length = m + 1 := by rw [List.length_append, unhide HLM]; rfl
  obtain ⟨ys, hys⟩ : ∃ ys, ys = zs ++ [.int .i64 0, .int .i64 num, .string text, .slice av nv cv] := ⟨_, rfl⟩
  rw [← hys] at S7
  obtain ⟨ds, hds⟩ : ∃ ds, ds = cs := ⟨_, rfl⟩
  rw [← hds] at L7
  replace LW : w.heap.size + 1 + 1 + 1 < w7.heap.size := RZ.lt
  replace HS := hide S7
  replace HSL := hide L7
  replace HK := hide K7
  clear SP LP RCP RRP RTP RZP neC neR neT neZ S7 L7 K7 hys hds O7 hgrow hat hgl olt BX hv
  obtain ⟨k0, k1, k2⟩ := row3M RC
  obtain ⟨r0, r1, r2, r3, r4, r5⟩ := row6M RR
  obtain ⟨t0, t1, t2, t3, t4⟩ := row5M RT
  have tf := fun j => RT.frozen j
  by_cases hpp : pk < m + 1
  · have ilt : (pk : Int) < ((m + 1 : Nat) : Int) := by omega
    have HC2 : Hid (Calls Tryz.prog 22 #[.agg #[.slice ap np cp, .int .i64 s, .slice (some ⟨ib, io, none⟩) ni ci], .agg #[.string R.cl, .string R.us, .int .i64 R.lv, .int .i64 R.nw, .slice a1 n1 c1, .slice a2 n2 c2], .int .i64 ((at_ : Int) + 1), .slice (some ⟨g7, 0, none⟩) (m + 1) yc7, .slice (some ⟨lb, 0, none⟩) S S, .agg #[.int .i64 0, .int .i64 0, .slice none 0 0, .int .i64 ((n : Int) + 1), .int .i64 (m + 1 : Nat)]] (w7.setCell ⟨w.heap.size + 1 + 1, 4, none⟩ (.int .i64 (m + 1 : Nat))) (RnG (w7.setCell ⟨w.heap.size + 1 + 1, 4, none⟩ (.int .i64 (m + 1 : Nat))).heap.size lb X (w7.setCell ⟨w.heap.size + 1 + 1, 4, none⟩ (.int .i64 (m + 1 : Nat))))) := hide (by
        have h := unhide HCC (some ⟨g7, 0, none⟩) yc7 ys ds (w7.setCell ⟨w.heap.size + 1 + 1, 4, none⟩ (.int .i64 (m + 1 : Nat))) ((unhide HK).setCell (p := ⟨w.heap.size + 1 + 1, 4, none⟩) (fun h => absurd h (by simp; omega)) (.int .i64 (m + 1 : Nat))) (((unhide HS).low (Nat.zero_le _)).setR RT (by decide) (by decide) 4 _) ((unhide HSL).setR RT (by decide) (by decide) 4 _)
        rw [hm, Nat.max_eq_right (Nat.le_of_lt hpp)] at h
        exact h)
    replace RC := RC.setFar (p := ⟨w.heap.size + 1 + 1, 4, none⟩) (by show w.heap.size ≠ w.heap.size + 1 + 1; omega) (.int .i64 (m + 1 : Nat))
    replace RR := RR.setFar (p := ⟨w.heap.size + 1 + 1, 4, none⟩) (by show w.heap.size + 1 ≠ w.heap.size + 1 + 1; omega) (.int .i64 (m + 1 : Nat))
    replace RZ := RZ.setFar (p := ⟨w.heap.size + 1 + 1, 4, none⟩) (by show w.heap.size + 1 + 1 + 1 ≠ w.heap.size + 1 + 1; omega) (.int .i64 (m + 1 : Nat))
    have HKK := (unhide HK).setCell (p := ⟨w.heap.size + 1 + 1, 4, none⟩) (fun h => absurd h (by simp; omega)) (.int .i64 (m + 1 : Nat))
    clear HK
    have HM := hide hm
    clear HCC HS HSL RT hm hpp
    go_wp2_with fail
    refine (unhide HC2).mono ?_
    rintro r w5 ⟨⟨x, cx, rfl, OO⟩, k5, hsz⟩
    have HSZ := hide hsz
    have RZ5 := RZ.kpt k5 (by omega)
    obtain ⟨o0, o1, o2, o3, o4⟩ := row5M RZ5
    have of := fun j => RZ5.frozen j
    obtain ⟨p0, p1, p2, p3, p4⟩ := row5M (set5 RZ5 (.int .i64 X.out.1) (.int .i64 X.out.2.1) (.slice x X.out.2.2.length cx) (.int .i64 X.steps) (.int .i64 X.peak))
    have HKE := hide (kpt5 (b := w.heap.size + 1 + 1 + 1) (HKK.trans k5 (fun q _ h => h)) (by omega) (.int .i64 X.out.1) (.int .i64 X.out.2.1) (.slice x X.out.2.2.length cx) (.int .i64 X.steps) (.int .i64 X.peak))
    have ne : ∀ q, (Value.slice x X.out.2.2.length cx).ownBlock = some q → q ≠ w.heap.size + 1 + 1 + 1 := fun q hq h => own_ne_row RZ5 OO (by decide) (by rw [hq, h])
    have OE := hide (own5 OO ne (.int .i64 X.out.1) (.int .i64 X.out.2.1) (.slice x X.out.2.2.length cx) (.int .i64 X.steps) (.int .i64 X.peak))
    have LE := hide (show w.heap.size ≤ (w7.setCell ⟨w.heap.size + 1 + 1, 4, none⟩ (.int .i64 (m + 1 : Nat))).heap.size by have := HKK.size; simp at this ⊢; omega)
    clear RC RR RZ RI HKK k5 OO ne HC2 hsz k0 k1 k2 r0 r1 r2 r3 r4 r5 RZ5
    dsimp only
    go_wp2_with fail
    refine bodyPost_ret (v := .agg #[.int .i64 X.out.1, .int .i64 X.out.2.1, .slice x X.out.2.2.length cx, .int .i64 X.steps, .int .i64 X.peak]) (by simp [results, Tryz.results22, go_sem, p0, p1, p2, p3, p4]) rfl ?_
    exact ⟨⟨x, cx, rfl, own_lowM (unhide OE) (unhide LE)⟩, unhide HKE, unhide HSZ⟩
  · have ilt : ¬ ((pk : Int) < ((m + 1 : Nat) : Int)) := by omega
    have HC2 : Hid (Calls Tryz.prog 22 #[.agg #[.slice ap np cp, .int .i64 s, .slice (some ⟨ib, io, none⟩) ni ci], .agg #[.string R.cl, .string R.us, .int .i64 R.lv, .int .i64 R.nw, .slice a1 n1 c1, .slice a2 n2 c2], .int .i64 ((at_ : Int) + 1), .slice (some ⟨g7, 0, none⟩) (m + 1) yc7, .slice (some ⟨lb, 0, none⟩) S S, .agg #[.int .i64 0, .int .i64 0, .slice none 0 0, .int .i64 ((n : Int) + 1), .int .i64 pk]] (w7) (RnG (w7).heap.size lb X (w7))) := hide (by
        have h := unhide HCC (some ⟨g7, 0, none⟩) yc7 ys ds (w7) (unhide HK) ((unhide HS).low (Nat.zero_le _)) (unhide HSL)
        rw [hm, Nat.max_eq_left (Nat.le_of_not_lt hpp)] at h
        exact h)
    have HKK := unhide HK
    clear HK
    have HM := hide hm
    clear HCC HS HSL RT hm hpp
    go_wp2_with fail
    refine (unhide HC2).mono ?_
    rintro r w5 ⟨⟨x, cx, rfl, OO⟩, k5, hsz⟩
    have HSZ := hide hsz
    have RZ5 := RZ.kpt k5 (by omega)
    obtain ⟨o0, o1, o2, o3, o4⟩ := row5M RZ5
    have of := fun j => RZ5.frozen j
    obtain ⟨p0, p1, p2, p3, p4⟩ := row5M (set5 RZ5 (.int .i64 X.out.1) (.int .i64 X.out.2.1) (.slice x X.out.2.2.length cx) (.int .i64 X.steps) (.int .i64 X.peak))
    have HKE := hide (kpt5 (b := w.heap.size + 1 + 1 + 1) (HKK.trans k5 (fun q _ h => h)) (by omega) (.int .i64 X.out.1) (.int .i64 X.out.2.1) (.slice x X.out.2.2.length cx) (.int .i64 X.steps) (.int .i64 X.peak))
    have ne : ∀ q, (Value.slice x X.out.2.2.length cx).ownBlock = some q → q ≠ w.heap.size + 1 + 1 + 1 := fun q hq h => own_ne_row RZ5 OO (by decide) (by rw [hq, h])
    have OE := hide (own5 OO ne (.int .i64 X.out.1) (.int .i64 X.out.2.1) (.slice x X.out.2.2.length cx) (.int .i64 X.steps) (.int .i64 X.peak))
    have LE := hide (show w.heap.size ≤ (w7).heap.size by have := HKK.size; simp at this ⊢; omega)
    clear RC RR RZ RI HKK k5 OO ne HC2 hsz k0 k1 k2 r0 r1 r2 r3 r4 r5 RZ5
    dsimp only
    go_wp2_with fail
    refine bodyPost_ret (v := .agg #[.int .i64 X.out.1, .int .i64 X.out.2.1, .slice x X.out.2.2.length cx, .int .i64 X.steps, .int .i64 X.peak]) (by simp [results, Tryz.results22, go_sem, p0, p1, p2, p3, p4]) rfl ?_
    exact ⟨⟨x, cx, rfl, own_lowM (unhide OE) (unhide LE)⟩, unhide HKE, unhide HSZ⟩

set_option maxRecDepth 100000 in
set_option maxHeartbeats 6400000 in
theorem m_op1e (ap : Option Addr) (np cp : Nat) (s : Int) (ib io ni ci : Nat) (R : Rq) (a1 : Option Addr) (n1 c1 : Nat) (a2 : Option Addr) (n2 c2 : Nat) (at_ : Nat) (sa : Option Addr) (sc : Nat) (st : List Vv) (xs : List Value) (m : Nat) (lb S : Nat) (sl : List (Option Vv)) (cs : Array Value) (n pk : Nat) (arg opn : Int) (w : World) (hln : st.length = m + 1) (i0 : w.cell? ⟨ib, io + at_ * 2, none⟩ = some (.int .i64 opn)) (i1 : w.cell? ⟨ib, io + at_ * 2 + 1, none⟩ = some (.int .i64 arg)) (hib : ib < w.heap.size) (hat : at_ < ni) (hni : ni ≤ 20000) (hn : n ≤ 20000) (hpk : pk ≤ 100) (hlen : m + 1 ≤ 100) (hO : StO w 0 sa sc st xs) (hL : SlO w lb S sl cs) (hop : 5 ≤ opn ∧ opn ≤ 7) (ty : Int) (hty : (h : m < st.length) → nz (tyOp (opn + 3) [st[m].ty]) = some ty) (cd : Int) (hev : (h : m < st.length) → evUn (opn + 3) st[m] = .err cd) :
    Calls Tryz.prog 22 #[.agg #[.slice ap np cp, .int .i64 s, .slice (some ⟨ib, io, none⟩) ni ci], .agg #[.string R.cl, .string R.us, .int .i64 R.lv, .int .i64 R.nw, .slice a1 n1 c1, .slice a2 n2 c2], .int .i64 at_, .slice sa (m + 1) sc, .slice (some ⟨lb, 0, none⟩) S S, .agg #[.int .i64 0, .int .i64 0, .slice none 0 0, .int .i64 n, .int .i64 pk]] w (RnG w.heap.size lb ⟨(3, cd, []), n + 1, pk⟩ w) := by
  obtain ⟨ti, hti, hz0, hz1, hz2⟩ := info_parts infoM
  have f1 : (opn == 1) = false := by simp; omega
  have f2 : (opn == 2) = false := by simp; omega
  have f3 : (opn == 3) = false := by simp; omega
  have f4 : (opn == 4) = false := by simp; omega
  have f22 : (opn == 22) = false := by simp; omega
  have f23 : (opn == 23) = false := by simp; omega
  have f24 : (opn == 24) = false := by simp; omega
  have f25 : (opn == 25) = false := by simp; omega
  have B4 := ((((Below.refl w.heap.size w).alloc (Nat.le_refl _) (.cells #[.slice ap np cp, .int .i64 s, .slice (some ⟨ib, io, none⟩) ni ci] 39)).alloc (by simp) (.cells #[.string R.cl, .string R.us, .int .i64 R.lv, .int .i64 R.nw, .slice a1 n1 c1, .slice a2 n2 c2] 41)).alloc (by simp; omega) (.cells #[.int .i64 0, .int .i64 0, .slice none 0 0, .int .i64 n, .int .i64 pk] 34)).alloc (by simp; omega) (.cells #[.int .i64 0, .int .i64 0, .slice none 0 0, .int .i64 0, .int .i64 0] 34)
  have d0 := (B4.cell (p := ⟨ib, io + at_ * 2, none⟩) hib).trans i0
  have d1 := (B4.cell (p := ⟨ib, io + at_ * 2 + 1, none⟩) hib).trans i1
  have B5 := ((((Below.refl w.heap.size w).alloc (Nat.le_refl _) (.cells #[.slice ap np cp, .int .i64 s, .slice (some ⟨ib, io, none⟩) ni ci] 39)).alloc (by simp) (.cells #[.string R.cl, .string R.us, .int .i64 R.lv, .int .i64 R.nw, .slice a1 n1 c1, .slice a2 n2 c2] 41)).alloc (by simp; omega) (.cells #[.int .i64 0, .int .i64 0, .slice none 0 0, .int .i64 ((n : Int) + 1), .int .i64 pk] 34)).alloc (by simp; omega) (.cells #[.int .i64 0, .int .i64 0, .slice none 0 0, .int .i64 0, .int .i64 0] 34) |>.alloc (by simp; omega) (.cells #[.int .i64 opn, .int .i64 arg] 87)
  have RC := ((((Row.new w #[.slice ap np cp, .int .i64 s, .slice (some ⟨ib, io, none⟩) ni ci] 39).alloc (.cells #[.string R.cl, .string R.us, .int .i64 R.lv, .int .i64 R.nw, .slice a1 n1 c1, .slice a2 n2 c2] 41)).alloc (.cells #[.int .i64 0, .int .i64 0, .slice none 0 0, .int .i64 ((n : Int) + 1), .int .i64 pk] 34)).alloc (.cells #[.int .i64 0, .int .i64 0, .slice none 0 0, .int .i64 0, .int .i64 0] 34)).alloc (.cells #[.int .i64 opn, .int .i64 arg] 87)
  have RR := (((Row.new (w.alloc (.cells #[.slice ap np cp, .int .i64 s, .slice (some ⟨ib, io, none⟩) ni ci] 39)) #[.string R.cl, .string R.us, .int .i64 R.lv, .int .i64 R.nw, .slice a1 n1 c1, .slice a2 n2 c2] 41).alloc (.cells #[.int .i64 0, .int .i64 0, .slice none 0 0, .int .i64 ((n : Int) + 1), .int .i64 pk] 34)).alloc (.cells #[.int .i64 0, .int .i64 0, .slice none 0 0, .int .i64 0, .int .i64 0] 34)).alloc (.cells #[.int .i64 opn, .int .i64 arg] 87)
  have RT := ((Row.new ((w.alloc (.cells #[.slice ap np cp, .int .i64 s, .slice (some ⟨ib, io, none⟩) ni ci] 39)).alloc (.cells #[.string R.cl, .string R.us, .int .i64 R.lv, .int .i64 R.nw, .slice a1 n1 c1, .slice a2 n2 c2] 41)) #[.int .i64 0, .int .i64 0, .slice none 0 0, .int .i64 ((n : Int) + 1), .int .i64 pk] 34).alloc (.cells #[.int .i64 0, .int .i64 0, .slice none 0 0, .int .i64 0, .int .i64 0] 34)).alloc (.cells #[.int .i64 opn, .int .i64 arg] 87)
  have RZ := (Row.new (((w.alloc (.cells #[.slice ap np cp, .int .i64 s, .slice (some ⟨ib, io, none⟩) ni ci] 39)).alloc (.cells #[.string R.cl, .string R.us, .int .i64 R.lv, .int .i64 R.nw, .slice a1 n1 c1, .slice a2 n2 c2] 41)).alloc (.cells #[.int .i64 0, .int .i64 0, .slice none 0 0, .int .i64 ((n : Int) + 1), .int .i64 pk] 34)) #[.int .i64 0, .int .i64 0, .slice none 0 0, .int .i64 0, .int .i64 0] 34).alloc (.cells #[.int .i64 opn, .int .i64 arg] 87)
  have RI := Row.new ((((w.alloc (.cells #[.slice ap np cp, .int .i64 s, .slice (some ⟨ib, io, none⟩) ni ci] 39)).alloc (.cells #[.string R.cl, .string R.us, .int .i64 R.lv, .int .i64 R.nw, .slice a1 n1 c1, .slice a2 n2 c2] 41)).alloc (.cells #[.int .i64 0, .int .i64 0, .slice none 0 0, .int .i64 ((n : Int) + 1), .int .i64 pk] 34)).alloc (.cells #[.int .i64 0, .int .i64 0, .slice none 0 0, .int .i64 0, .int .i64 0] 34)) #[.int .i64 opn, .int .i64 arg] 87
  simp only [World.size_alloc] at RR RT RZ RI
  have iat : (at_ : Int) < (ni : Int) := by omega
  have hO5 := hO.below B5 (Nat.le_refl _)
  have HL := hide (And.intro (hL.below B5 (Nat.le_refl _)) (And.intro hL.row.lt hL.len))
  have HB := hide B5
  have HN := hide (And.intro hlen (And.intro hpk hn))
  have HLN := hide hln
  clear hO hL i0 i1 B5 hln
  go_enter Tryz.func22, Tryz.ntmps22
  go_wp2_with (at_builtin; refine append_stk rfl _ _ rfl w.heap.size 0 rfl sa (m + 1) sc st xs (unhide HLN) rfl hO5 (by omega) (by simp; omega) ?_)
  intro y yc w1 hS1 hb1
  have HS := hide hS1
  have Z1 : ((((((w.alloc (.cells #[.slice ap np cp, .int .i64 s, .slice (some ⟨ib, io, none⟩) ni ci] 39)).alloc (.cells #[.string R.cl, .string R.us, .int .i64 R.lv, .int .i64 R.nw, .slice a1 n1 c1, .slice a2 n2 c2] 41)).alloc (.cells #[.int .i64 0, .int .i64 0, .slice none 0 0, .int .i64 ((n : Int) + 1), .int .i64 pk] 34)).alloc (.cells #[.int .i64 0, .int .i64 0, .slice none 0 0, .int .i64 0, .int .i64 0] 34)).alloc (.cells #[.int .i64 opn, .int .i64 arg] 87))).heap.size ≤ w.heap.size + 1 + 1 + 1 + 1 + 1 := by simp
  replace RC := RC.after hb1 Z1
  replace RR := RR.after hb1 Z1
  replace RT := RT.after hb1 Z1
  replace RZ := RZ.after hb1 Z1
  replace RI := RI.after hb1 Z1
  replace HL := hide (And.intro ((unhide HL).1.below hb1 Z1) (unhide HL).2)
  have HK := hide (show Kpt (fun k => k = lb) w w1 from Kpt.of_below ((unhide HB).trans (hb1.mono (by omega))))
  have HBw := hide ((unhide HB).trans (hb1.mono (by omega)))
  have LW : w.heap.size + 1 + 1 + 1 + 1 < w1.heap.size := RI.lt
  clear hO5 hS1 hb1 Z1 HB d0 d1 B4 iat hib hat hni hlen hn
  have lbl := (unhide HL).2.1
  have HSL := hide (unhide HL).1
  obtain ⟨i0, i1⟩ := row2M RI
  obtain ⟨g, num, text, av, nv, cv, rfl, hgB, hg, e0, e1, e2, e3, hv⟩ := (unhide HS).at m (by rw [unhide HLN]; omega)
  have hcap : m + 1 ≤ yc := by have := (unhide HS).cap; rw [unhide HLN] at this; exact this
  have HA : Hid (Calls Tryz.prog 47 #[.int .i64 (8 + opn - 5), .slice (some ⟨g, m * 4, none⟩) 1 (yc - m)] w1 (MAns (.err cd) w1)) := hide (by
    have hl : m < st.length := by rw [unhide HLN]; omega
    rw [show (8 + opn - 5) = opn + 3 by omega, ← hev hl]
    exact applyO1_any (opn + 3) st[m] ty (hty hl) num text av nv cv g (m * 4) (yc - m) w1 hv e0 e1 e2 e3 hg)
  clear e0 e1 e2 e3 hv hev hty
  have hmb := (unhide HN).1
  have hop2 := hop.2
  have hop1 := hop.1
  
  have icap : ((m : Nat) : Int) ≤ ((yc : Nat) : Int) := by omega
  clear HL
  go_wp2_with fail
  refine (l6pops1 opn (by omega) w1).mono ?_
  rintro r w2 ⟨rfl, h⟩
  rw [h]
  clear h w2
  dsimp only
  go_wp2_with fail
  refine (unhide HA).mono ?_
  clear HA num text av nv cv
  rintro r w2 ⟨⟨cd, num, text, av, nv, cv, rfl, rfl, hne⟩, hb2⟩
  have ene : (cd != 0) = true := bne_iff_ne.2 hne
  have BX := hb2.alloc hb2.size (.cells #[.int .i64 cd, .int .i64 num, .string text, .slice av nv cv] 90)
  replace RT := RT.after BX (Nat.le_refl _)
  replace RZ := RZ.after BX (Nat.le_refl _)
  have KX := (unhide HK).trans (Kpt.of_below (S := fun k => k = lb) BX) (fun q _ h => h)
  have L2 : w.heap.size + 1 + 1 + 1 + 1 < w2.heap.size := Nat.lt_of_lt_of_le LW hb2.size
  obtain ⟨t0, t1, t2, t3, t4⟩ := row5M RT
  have tf := fun j => RT.frozen j
  obtain ⟨z0, z1, z2, z3, z4⟩ := row5M RZ
  have zf := fun j => RZ.frozen j
  have RZ3 := ((RZ.setFar (p := ⟨w.heap.size + 1 + 1, 0, none⟩) (by show w.heap.size + 1 + 1 + 1 ≠ w.heap.size + 1 + 1; omega) (.int .i64 3)).setFar (p := ⟨w.heap.size + 1 + 1, 1, none⟩) (by show w.heap.size + 1 + 1 + 1 ≠ w.heap.size + 1 + 1; omega) (.int .i64 cd)).setFar (p := ⟨w.heap.size + 1 + 1, 2, none⟩) (by show w.heap.size + 1 + 1 + 1 ≠ w.heap.size + 1 + 1; omega) (.slice none 0 0)
  obtain ⟨p0, p1, p2, p3, p4⟩ := row5M (set5 RZ3 (.int .i64 3) (.int .i64 cd) (.slice none 0 0) (.int .i64 ((n : Int) + 1)) (.int .i64 pk))
  have HKE := hide (kpt5 (b := w.heap.size + 1 + 1 + 1) (kpt3 (b := w.heap.size + 1 + 1) KX (Or.inl (by omega)) (.int .i64 3) (.int .i64 cd) (.slice none 0 0)) (by omega) (.int .i64 3) (.int .i64 cd) (.slice none 0 0) (.int .i64 ((n : Int) + 1)) (.int .i64 pk))
  clear RZ3 HK HS HSL RC RR RT RZ RI KX BX hb2 HLN i0 i1 hne
  dsimp only
  go_wp2_with fail
  refine bodyPost_ret (v := .agg #[.int .i64 3, .int .i64 cd, .slice none 0 0, .int .i64 ((n : Int) + 1), .int .i64 pk]) (by simp [results, Tryz.results22, go_sem, p0, p1, p2, p3, p4]) rfl ?_
  exact ⟨⟨none, 0, rfl, World.ownsRow_nil _ _ _ _⟩, unhide HKE, Nat.zero_le _, fun j h => absurd h (Nat.not_lt_zero _)⟩

end Go.Proofs.YtogenboibgddaaaGreatDoor

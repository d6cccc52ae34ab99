/-
  The model's machine: loads. Own work.
-/
import Derived.Test.YtogenboibgddaaaGreatDoorMXAL
namespace Go.Proofs.YtogenboibgddaaaGreatDoor
open Go.RowKit
set_option linter.unusedVariables false

set_option maxRecDepth 100000 in
set_option maxHeartbeats 6400000 in
theorem m_load (ap : Option Addr) (np cp : Nat) (s : Int) (ib io ni ci : Nat) (R : Rq) (a1 : Option Addr) (n1 c1 : Nat) (a2 : Option Addr) (n2 c2 : Nat) (at_ : Nat) (sa : Option Addr) (sc : Nat) (st : List Vv) (xs : List Value) (ln : Nat) (lb S : Nat) (sl : List (Option Vv)) (cs : Array Value) (n pk : Nat) (arg : Int) (X : Rn) (w : World) (hln : st.length = ln) (i0 : w.cell? ⟨ib, io + at_ * 2, none⟩ = some (.int .i64 3)) (i1 : w.cell? ⟨ib, io + at_ * 2 + 1, none⟩ = some (.int .i64 arg)) (hib : ib < w.heap.size) (hat : at_ < ni) (hni : ni ≤ 20000) (hn : n ≤ 20000) (hpk : pk ≤ 100) (hlen : ln ≤ 100) (hO : StO w 0 sa sc st xs) (hL : SlO w lb S sl cs) (j : Nat) (hj : j < S) (hS6 : S ≤ 600) (harg : arg = (j : Int)) (tv : Vv) (htop : sl.getD j none = some tv) (HC : ∀ x c ys ds w', Kpt (fun k => k = lb) w w' → StO w' 0 x c (st ++ [tv]) ys → SlO w' lb S (sl) ds → Calls Tryz.prog 22 #[.agg #[.slice ap np cp, .int .i64 s, .slice (some ⟨ib, io, none⟩) ni ci], .agg #[.string R.cl, .string R.us, .int .i64 R.lv, .int .i64 R.nw, .slice a1 n1 c1, .slice a2 n2 c2], .int .i64 ((at_ : Int) + 1), .slice x (st ++ [tv]).length c, .slice (some ⟨lb, 0, none⟩) S S, .agg #[.int .i64 0, .int .i64 0, .slice none 0 0, .int .i64 ((n + 1 : Nat) : Int), .int .i64 ((max pk (st ++ [tv]).length : Nat) : Int)]] w' (RnG w'.heap.size lb X w')) :
    Calls Tryz.prog 22 #[.agg #[.slice ap np cp, .int .i64 s, .slice (some ⟨ib, io, none⟩) ni ci], .agg #[.string R.cl, .string R.us, .int .i64 R.lv, .int .i64 R.nw, .slice a1 n1 c1, .slice a2 n2 c2], .int .i64 at_, .slice sa (ln) sc, .slice (some ⟨lb, 0, none⟩) S S, .agg #[.int .i64 0, .int .i64 0, .slice none 0 0, .int .i64 n, .int .i64 pk]] w (RnG w.heap.size lb X w) := by
  obtain ⟨ti, hti, hz0, hz1, hz2⟩ := info_parts infoM
  subst harg
  have B4 := ((((Below.refl w.heap.size w).alloc (Nat.le_refl _) (.cells #[.slice ap np cp, .int .i64 s, .slice (some ⟨ib, io, none⟩) ni ci] 39)).alloc (by simp) (.cells #[.string R.cl, .string R.us, .int .i64 R.lv, .int .i64 R.nw, .slice a1 n1 c1, .slice a2 n2 c2] 41)).alloc (by simp; omega) (.cells #[.int .i64 0, .int .i64 0, .slice none 0 0, .int .i64 n, .int .i64 pk] 34)).alloc (by simp; omega) (.cells #[.int .i64 0, .int .i64 0, .slice none 0 0, .int .i64 0, .int .i64 0] 34)
  have d0 := (B4.cell (p := ⟨ib, io + at_ * 2, none⟩) hib).trans i0
  have d1 := (B4.cell (p := ⟨ib, io + at_ * 2 + 1, none⟩) hib).trans i1
  have B5 := ((((Below.refl w.heap.size w).alloc (Nat.le_refl _) (.cells #[.slice ap np cp, .int .i64 s, .slice (some ⟨ib, io, none⟩) ni ci] 39)).alloc (by simp) (.cells #[.string R.cl, .string R.us, .int .i64 R.lv, .int .i64 R.nw, .slice a1 n1 c1, .slice a2 n2 c2] 41)).alloc (by simp; omega) (.cells #[.int .i64 0, .int .i64 0, .slice none 0 0, .int .i64 ((n : Int) + 1), .int .i64 pk] 34)).alloc (by simp; omega) (.cells #[.int .i64 0, .int .i64 0, .slice none 0 0, .int .i64 0, .int .i64 0] 34) |>.alloc (by simp; omega) (.cells #[.int .i64 3, .int .i64 (j : Int)] 87)
  have RC := ((((Row.new w #[.slice ap np cp, .int .i64 s, .slice (some ⟨ib, io, none⟩) ni ci] 39).alloc (.cells #[.string R.cl, .string R.us, .int .i64 R.lv, .int .i64 R.nw, .slice a1 n1 c1, .slice a2 n2 c2] 41)).alloc (.cells #[.int .i64 0, .int .i64 0, .slice none 0 0, .int .i64 ((n : Int) + 1), .int .i64 pk] 34)).alloc (.cells #[.int .i64 0, .int .i64 0, .slice none 0 0, .int .i64 0, .int .i64 0] 34)).alloc (.cells #[.int .i64 3, .int .i64 (j : Int)] 87)
  have RR := (((Row.new (w.alloc (.cells #[.slice ap np cp, .int .i64 s, .slice (some ⟨ib, io, none⟩) ni ci] 39)) #[.string R.cl, .string R.us, .int .i64 R.lv, .int .i64 R.nw, .slice a1 n1 c1, .slice a2 n2 c2] 41).alloc (.cells #[.int .i64 0, .int .i64 0, .slice none 0 0, .int .i64 ((n : Int) + 1), .int .i64 pk] 34)).alloc (.cells #[.int .i64 0, .int .i64 0, .slice none 0 0, .int .i64 0, .int .i64 0] 34)).alloc (.cells #[.int .i64 3, .int .i64 (j : Int)] 87)
  have RT := ((Row.new ((w.alloc (.cells #[.slice ap np cp, .int .i64 s, .slice (some ⟨ib, io, none⟩) ni ci] 39)).alloc (.cells #[.string R.cl, .string R.us, .int .i64 R.lv, .int .i64 R.nw, .slice a1 n1 c1, .slice a2 n2 c2] 41)) #[.int .i64 0, .int .i64 0, .slice none 0 0, .int .i64 ((n : Int) + 1), .int .i64 pk] 34).alloc (.cells #[.int .i64 0, .int .i64 0, .slice none 0 0, .int .i64 0, .int .i64 0] 34)).alloc (.cells #[.int .i64 3, .int .i64 (j : Int)] 87)
  have RZ := (Row.new (((w.alloc (.cells #[.slice ap np cp, .int .i64 s, .slice (some ⟨ib, io, none⟩) ni ci] 39)).alloc (.cells #[.string R.cl, .string R.us, .int .i64 R.lv, .int .i64 R.nw, .slice a1 n1 c1, .slice a2 n2 c2] 41)).alloc (.cells #[.int .i64 0, .int .i64 0, .slice none 0 0, .int .i64 ((n : Int) + 1), .int .i64 pk] 34)) #[.int .i64 0, .int .i64 0, .slice none 0 0, .int .i64 0, .int .i64 0] 34).alloc (.cells #[.int .i64 3, .int .i64 (j : Int)] 87)
  have RI := Row.new ((((w.alloc (.cells #[.slice ap np cp, .int .i64 s, .slice (some ⟨ib, io, none⟩) ni ci] 39)).alloc (.cells #[.string R.cl, .string R.us, .int .i64 R.lv, .int .i64 R.nw, .slice a1 n1 c1, .slice a2 n2 c2] 41)).alloc (.cells #[.int .i64 0, .int .i64 0, .slice none 0 0, .int .i64 ((n : Int) + 1), .int .i64 pk] 34)).alloc (.cells #[.int .i64 0, .int .i64 0, .slice none 0 0, .int .i64 0, .int .i64 0] 34)) #[.int .i64 3, .int .i64 (j : Int)] 87
  simp only [World.size_alloc] at RR RT RZ RI
  have iat : (at_ : Int) < (ni : Int) := by omega
  have hO5 := hO.below B5 (Nat.le_refl _)
  have HL := hide (And.intro (hL.below B5 (Nat.le_refl _)) (And.intro hL.row.lt hL.len))
  have HB := hide B5
  have HN := hide (And.intro hlen (And.intro hpk hn))
  have HCC := hide HC
  have HLN := hide hln
  clear hO hL i0 i1 B5 HC hln
  go_enter Tryz.func22, Tryz.ntmps22
  go_wp2_with (at_builtin; refine append_stk rfl _ _ rfl w.heap.size 0 rfl sa (ln) sc st xs (unhide HLN) rfl hO5 (by omega) (by simp; omega) ?_)
  intro y yc w1 hS1 hb1
  have HS := hide hS1
  have Z1 : ((((((w.alloc (.cells #[.slice ap np cp, .int .i64 s, .slice (some ⟨ib, io, none⟩) ni ci] 39)).alloc (.cells #[.string R.cl, .string R.us, .int .i64 R.lv, .int .i64 R.nw, .slice a1 n1 c1, .slice a2 n2 c2] 41)).alloc (.cells #[.int .i64 0, .int .i64 0, .slice none 0 0, .int .i64 ((n : Int) + 1), .int .i64 pk] 34)).alloc (.cells #[.int .i64 0, .int .i64 0, .slice none 0 0, .int .i64 0, .int .i64 0] 34)).alloc (.cells #[.int .i64 3, .int .i64 (j : Int)] 87))).heap.size ≤ w.heap.size + 1 + 1 + 1 + 1 + 1 := by simp
  replace RC := RC.after hb1 Z1
  replace RR := RR.after hb1 Z1
  replace RT := RT.after hb1 Z1
  replace RZ := RZ.after hb1 Z1
  replace RI := RI.after hb1 Z1
  replace HL := hide (And.intro ((unhide HL).1.below hb1 Z1) (unhide HL).2)
  have HK := hide (show Kpt (fun k => k = lb) w w1 from Kpt.of_below ((unhide HB).trans (hb1.mono (by omega))))
  have HBw := hide ((unhide HB).trans (hb1.mono (by omega)))
  have LW : w.heap.size + 1 + 1 + 1 + 1 < w1.heap.size := RI.lt
  clear hO5 hS1 hb1 Z1 HB d0 d1 B4 iat hib hat hni hlen hn
  have lbl := (unhide HL).2.1
  have HSL := hide (unhide HL).1
  obtain ⟨i0, i1⟩ := row2M RI
  have LB := (unhide HL).1.row
  obtain ⟨num, text, av, nv, cv, w0e, w1e, w2e, w3e, hv⟩ := (unhide HL).1.vals j hj
  have BX := (Below.refl w1.heap.size w1).alloc (Nat.le_refl _) (.cells #[.int .i64 0, .int .i64 num, .string text, .slice av nv cv] 90)
  have hv := (hv tv htop).below BX (Nat.le_refl _)
  have O1 : w1.ownsRow w.heap.size 90 4 (.slice y ln yc) ln xs := by have := (unhide HS).1; rw [unhide HLN] at this; exact this
  have NW := World.news_of_block (heap_alloc_new w1 (.cells #[.int .i64 0, .int .i64 num, .string text, .slice av nv cv] 90))
  have l0 := (LB.cell _).trans w0e
  have l1 := (LB.cell _).trans w1e
  have l2 := (LB.cell _).trans w2e
  have l3 := (LB.cell _).trans w3e
  have ijs : (j : Int) < (S : Int) := by omega
  have hmb := (unhide HN).1
  clear w0e w1e w2e w3e HL LB
  go_wp2_with (at_builtin; refine wpList_append_lies _ rfl _ _ 57 rfl w.heap.size 90 ti (.agg #[.int .i64 0, .int .i64 0, .string ByteArray.empty, .slice none 0 0]) 4 56 Tryz.underlying57 hti hz0 hz1 hz2 rfl (by decide) (.slice y (ln) yc) (ln) xs rfl (World.ownsRow.alloc O1 _) ⟨w1.heap.size, 0, none⟩ 1 1 [.int .i64 0, .int .i64 num, .string text, .slice av nv cv] rfl rfl NW ?c2 (by decide) ?c3 ?c4 ?c5 _ rfl ?_)
  case c2 => first | exact ⟨rfl, rfl, rfl, rfl⟩ | (intro u hu; simp at hu; rcases hu with rfl | rfl | rfl | rfl <;> rfl)
  case c3 => unfold maxLen; omega
  case c4 => omega
  case c5 => first | omega | (simp; omega)
  intro g7 yc7 w7 O7 hgrow hat hgl
  replace hgrow := grown_len hgrow (st).length
  have SP := (unhide HS).below BX (Nat.le_refl _)
  have LP := (unhide HSL).below BX (Nat.le_refl _)
  have RCP := RC.after BX (Nat.le_refl _)
  have RRP := RR.after BX (Nat.le_refl _)
  have RTP := RT.after BX (Nat.le_refl _)
  have RZP := RZ.after BX (Nat.le_refl _)
  have neC := own_ne_row RCP SP.1 (by decide)
  have neR := own_ne_row RRP SP.1 (by decide)
  have neT := own_ne_row RTP SP.1 (by decide)
  have neZ := own_ne_row RZP SP.1 (by decide)
  replace RC := rowGrown RCP hgrow (fun e => neC e.symm)
  replace RR := rowGrown RRP hgrow (fun e => neR e.symm)
  replace RT := rowGrown RTP hgrow (fun e => neT e.symm)
  replace RZ := rowGrown RZP hgrow (fun e => neZ e.symm)
  have S7 := SP.push hv (by rw [unhide HLN]; exact O7) hgrow
  have olt := SP.1.lt
  have L7 := LP.kpt (Kpt.of_grown hgrow) (fun b cs r e => own_ne_row r SP.1 (by decide) e) (fun e => by have := (olt lb e).1; omega)
  have K7 := ((unhide HK).trans (Kpt.of_below (S := fun k => k = lb) BX) (fun q _ h => h)).trans (Kpt.of_grown hgrow) (fun q hq e => absurd (olt q e).1 (by omega))
  have L8 := K7.size
  have hm : (st ++ [tv]).length = ln + 1 := by rw [List.length_append, unhide HLN]; rfl
  obtain ⟨ys, hys⟩ : ∃ ys, ys = xs ++ [.int .i64 0, .int .i64 num, .string text, .slice av nv cv] := ⟨_, rfl⟩
  rw [← hys] at S7
  obtain ⟨ds, hds⟩ : ∃ ds, ds = cs := ⟨_, rfl⟩
  rw [← hds] at L7
  replace LW : w.heap.size + 1 + 1 + 1 < w7.heap.size := RZ.lt
  replace HS := hide S7
  replace HSL := hide L7
  replace HK := hide K7
  clear SP LP RCP RRP RTP RZP neC neR neT neZ S7 L7 K7 hys hds O7 hgrow hat hgl olt BX hv
  obtain ⟨k0, k1, k2⟩ := row3M RC
  obtain ⟨r0, r1, r2, r3, r4, r5⟩ := row6M RR
  obtain ⟨t0, t1, t2, t3, t4⟩ := row5M RT
  have tf := fun j => RT.frozen j
  by_cases hpp : pk < ln + 1
  · have ilt : (pk : Int) < ((ln + 1 : Nat) : Int) := by omega
    have HC2 : Hid (Calls Tryz.prog 22 #[.agg #[.slice ap np cp, .int .i64 s, .slice (some ⟨ib, io, none⟩) ni ci], .agg #[.string R.cl, .string R.us, .int .i64 R.lv, .int .i64 R.nw, .slice a1 n1 c1, .slice a2 n2 c2], .int .i64 ((at_ : Int) + 1), .slice (some ⟨g7, 0, none⟩) (ln + 1) yc7, .slice (some ⟨lb, 0, none⟩) S S, .agg #[.int .i64 0, .int .i64 0, .slice none 0 0, .int .i64 ((n : Int) + 1), .int .i64 (ln + 1 : Nat)]] (w7.setCell ⟨w.heap.size + 1 + 1, 4, none⟩ (.int .i64 (ln + 1 : Nat))) (RnG (w7.setCell ⟨w.heap.size + 1 + 1, 4, none⟩ (.int .i64 (ln + 1 : Nat))).heap.size lb X (w7.setCell ⟨w.heap.size + 1 + 1, 4, none⟩ (.int .i64 (ln + 1 : Nat))))) := hide (by
        have h := unhide HCC (some ⟨g7, 0, none⟩) yc7 ys ds (w7.setCell ⟨w.heap.size + 1 + 1, 4, none⟩ (.int .i64 (ln + 1 : Nat))) ((unhide HK).setCell (p := ⟨w.heap.size + 1 + 1, 4, none⟩) (fun h => absurd h (by simp; omega)) (.int .i64 (ln + 1 : Nat))) (((unhide HS).low (Nat.zero_le _)).setR RT (by decide) (by decide) 4 _) ((unhide HSL).setR RT (by decide) (by decide) 4 _)
        rw [hm, Nat.max_eq_right (Nat.le_of_lt hpp)] at h
        exact h)
    replace RC := RC.setFar (p := ⟨w.heap.size + 1 + 1, 4, none⟩) (by show w.heap.size ≠ w.heap.size + 1 + 1; omega) (.int .i64 (ln + 1 : Nat))
    replace RR := RR.setFar (p := ⟨w.heap.size + 1 + 1, 4, none⟩) (by show w.heap.size + 1 ≠ w.heap.size + 1 + 1; omega) (.int .i64 (ln + 1 : Nat))
    replace RZ := RZ.setFar (p := ⟨w.heap.size + 1 + 1, 4, none⟩) (by show w.heap.size + 1 + 1 + 1 ≠ w.heap.size + 1 + 1; omega) (.int .i64 (ln + 1 : Nat))
    have HKK := (unhide HK).setCell (p := ⟨w.heap.size + 1 + 1, 4, none⟩) (fun h => absurd h (by simp; omega)) (.int .i64 (ln + 1 : Nat))
    clear HK
    have HM := hide hm
    clear HCC HS HSL RT hm hpp
    go_wp2_with fail
    refine (unhide HC2).mono ?_
    rintro r w5 ⟨⟨x, cx, rfl, OO⟩, k5, hsz⟩
    have HSZ := hide hsz
    have RZ5 := RZ.kpt k5 (by omega)
    obtain ⟨o0, o1, o2, o3, o4⟩ := row5M RZ5
    have of := fun j => RZ5.frozen j
    obtain ⟨p0, p1, p2, p3, p4⟩ := row5M (set5 RZ5 (.int .i64 X.out.1) (.int .i64 X.out.2.1) (.slice x X.out.2.2.length cx) (.int .i64 X.steps) (.int .i64 X.peak))
    have HKE := hide (kpt5 (b := w.heap.size + 1 + 1 + 1) (HKK.trans k5 (fun q _ h => h)) (by omega) (.int .i64 X.out.1) (.int .i64 X.out.2.1) (.slice x X.out.2.2.length cx) (.int .i64 X.steps) (.int .i64 X.peak))
    have ne : ∀ q, (Value.slice x X.out.2.2.length cx).ownBlock = some q → q ≠ w.heap.size + 1 + 1 + 1 := fun q hq h => own_ne_row RZ5 OO (by decide) (by rw [hq, h])
    have OE := hide (own5 OO ne (.int .i64 X.out.1) (.int .i64 X.out.2.1) (.slice x X.out.2.2.length cx) (.int .i64 X.steps) (.int .i64 X.peak))
    have LE := hide (show w.heap.size ≤ (w7.setCell ⟨w.heap.size + 1 + 1, 4, none⟩ (.int .i64 (ln + 1 : Nat))).heap.size by have := HKK.size; simp at this ⊢; omega)
    clear RC RR RZ RI HKK k5 OO ne HC2 hsz k0 k1 k2 r0 r1 r2 r3 r4 r5 RZ5
    dsimp only
    go_wp2_with fail
    refine bodyPost_ret (v := .agg #[.int .i64 X.out.1, .int .i64 X.out.2.1, .slice x X.out.2.2.length cx, .int .i64 X.steps, .int .i64 X.peak]) (by simp [results, Tryz.results22, go_sem, p0, p1, p2, p3, p4]) rfl ?_
    exact ⟨⟨x, cx, rfl, own_lowM (unhide OE) (unhide LE)⟩, unhide HKE, unhide HSZ⟩
  · have ilt : ¬ ((pk : Int) < ((ln + 1 : Nat) : Int)) := by omega
    have HC2 : Hid (Calls Tryz.prog 22 #[.agg #[.slice ap np cp, .int .i64 s, .slice (some ⟨ib, io, none⟩) ni ci], .agg #[.string R.cl, .string R.us, .int .i64 R.lv, .int .i64 R.nw, .slice a1 n1 c1, .slice a2 n2 c2], .int .i64 ((at_ : Int) + 1), .slice (some ⟨g7, 0, none⟩) (ln + 1) yc7, .slice (some ⟨lb, 0, none⟩) S S, .agg #[.int .i64 0, .int .i64 0, .slice none 0 0, .int .i64 ((n : Int) + 1), .int .i64 pk]] (w7) (RnG (w7).heap.size lb X (w7))) := hide (by
        have h := unhide HCC (some ⟨g7, 0, none⟩) yc7 ys ds (w7) (unhide HK) ((unhide HS).low (Nat.zero_le _)) (unhide HSL)
        rw [hm, Nat.max_eq_left (Nat.le_of_not_lt hpp)] at h
        exact h)
    have HKK := unhide HK
    clear HK
    have HM := hide hm
    clear HCC HS HSL RT hm hpp
    go_wp2_with fail
    refine (unhide HC2).mono ?_
    rintro r w5 ⟨⟨x, cx, rfl, OO⟩, k5, hsz⟩
    have HSZ := hide hsz
    have RZ5 := RZ.kpt k5 (by omega)
    obtain ⟨o0, o1, o2, o3, o4⟩ := row5M RZ5
    have of := fun j => RZ5.frozen j
    obtain ⟨p0, p1, p2, p3, p4⟩ := row5M (set5 RZ5 (.int .i64 X.out.1) (.int .i64 X.out.2.1) (.slice x X.out.2.2.length cx) (.int .i64 X.steps) (.int .i64 X.peak))
    have HKE := hide (kpt5 (b := w.heap.size + 1 + 1 + 1) (HKK.trans k5 (fun q _ h => h)) (by omega) (.int .i64 X.out.1) (.int .i64 X.out.2.1) (.slice x X.out.2.2.length cx) (.int .i64 X.steps) (.int .i64 X.peak))
    have ne : ∀ q, (Value.slice x X.out.2.2.length cx).ownBlock = some q → q ≠ w.heap.size + 1 + 1 + 1 := fun q hq h => own_ne_row RZ5 OO (by decide) (by rw [hq, h])
    have OE := hide (own5 OO ne (.int .i64 X.out.1) (.int .i64 X.out.2.1) (.slice x X.out.2.2.length cx) (.int .i64 X.steps) (.int .i64 X.peak))
    have LE := hide (show w.heap.size ≤ (w7).heap.size by have := HKK.size; simp at this ⊢; omega)
    clear RC RR RZ RI HKK k5 OO ne HC2 hsz k0 k1 k2 r0 r1 r2 r3 r4 r5 RZ5
    dsimp only
    go_wp2_with fail
    refine bodyPost_ret (v := .agg #[.int .i64 X.out.1, .int .i64 X.out.2.1, .slice x X.out.2.2.length cx, .int .i64 X.steps, .int .i64 X.peak]) (by simp [results, Tryz.results22, go_sem, p0, p1, p2, p3, p4]) rfl ?_
    exact ⟨⟨x, cx, rfl, own_lowM (unhide OE) (unhide LE)⟩, unhide HKE, unhide HSZ⟩

set_option maxRecDepth 100000 in
set_option maxHeartbeats 6400000 in
theorem m_push (ap : Option Addr) (np cp : Nat) (s : Int) (ib io ni ci : Nat) (R : Rq) (a1 : Option Addr) (n1 c1 : Nat) (a2 : Option Addr) (n2 c2 : Nat) (at_ : Nat) (sa : Option Addr) (sc : Nat) (st : List Vv) (xs : List Value) (ln : Nat) (lb S : Nat) (sl : List (Option Vv)) (cs : Array Value) (n pk : Nat) (arg : Int) (X : Rn) (w : World) (hln : st.length = ln) (i0 : w.cell? ⟨ib, io + at_ * 2, none⟩ = some (.int .i64 1)) (i1 : w.cell? ⟨ib, io + at_ * 2 + 1, none⟩ = some (.int .i64 arg)) (hib : ib < w.heap.size) (hat : at_ < ni) (hni : ni ≤ 20000) (hn : n ≤ 20000) (hpk : pk ≤ 100) (hlen : ln ≤ 100) (hO : StO w 0 sa sc st xs) (hL : SlO w lb S sl cs) (pb po j : Nat) (v : Vl) (an : Option Addr) (nn cn : Nat) (hap : ap = some ⟨pb, po, none⟩) (hj : j < np) (hnp : np ≤ 4000) (harg : arg = (j : Int)) (hpb : pb < w.heap.size) (v0 : w.cell? ⟨pb, po + j * 4, none⟩ = some (.int .i64 v.kind)) (v1 : w.cell? ⟨pb, po + j * 4 + 1, none⟩ = some (.int .i64 v.num)) (v2 : w.cell? ⟨pb, po + j * 4 + 2, none⟩ = some (.string v.text)) (v3 : w.cell? ⟨pb, po + j * 4 + 3, none⟩ = some (.slice an nn cn)) (hv : MVx w v.num v.text an nn cn (poolV v)) (HC : ∀ x c ys ds w', Kpt (fun k => k = lb) w w' → StO w' 0 x c (st ++ [poolV v]) ys → SlO w' lb S (sl) ds → Calls Tryz.prog 22 #[.agg #[.slice ap np cp, .int .i64 s, .slice (some ⟨ib, io, none⟩) ni ci], .agg #[.string R.cl, .string R.us, .int .i64 R.lv, .int .i64 R.nw, .slice a1 n1 c1, .slice a2 n2 c2], .int .i64 ((at_ : Int) + 1), .slice x (st ++ [poolV v]).length c, .slice (some ⟨lb, 0, none⟩) S S, .agg #[.int .i64 0, .int .i64 0, .slice none 0 0, .int .i64 ((n + 1 : Nat) : Int), .int .i64 ((max pk (st ++ [poolV v]).length : Nat) : Int)]] w' (RnG w'.heap.size lb X w')) :
    Calls Tryz.prog 22 #[.agg #[.slice ap np cp, .int .i64 s, .slice (some ⟨ib, io, none⟩) ni ci], .agg #[.string R.cl, .string R.us, .int .i64 R.lv, .int .i64 R.nw, .slice a1 n1 c1, .slice a2 n2 c2], .int .i64 at_, .slice sa (ln) sc, .slice (some ⟨lb, 0, none⟩) S S, .agg #[.int .i64 0, .int .i64 0, .slice none 0 0, .int .i64 n, .int .i64 pk]] w (RnG w.heap.size lb X w) := by
  obtain ⟨ti, hti, hz0, hz1, hz2⟩ := info_parts infoM
  subst harg hap
  have B4 := ((((Below.refl w.heap.size w).alloc (Nat.le_refl _) (.cells #[.slice (some ⟨pb, po, none⟩) np cp, .int .i64 s, .slice (some ⟨ib, io, none⟩) ni ci] 39)).alloc (by simp) (.cells #[.string R.cl, .string R.us, .int .i64 R.lv, .int .i64 R.nw, .slice a1 n1 c1, .slice a2 n2 c2] 41)).alloc (by simp; omega) (.cells #[.int .i64 0, .int .i64 0, .slice none 0 0, .int .i64 n, .int .i64 pk] 34)).alloc (by simp; omega) (.cells #[.int .i64 0, .int .i64 0, .slice none 0 0, .int .i64 0, .int .i64 0] 34)
  have d0 := (B4.cell (p := ⟨ib, io + at_ * 2, none⟩) hib).trans i0
  have d1 := (B4.cell (p := ⟨ib, io + at_ * 2 + 1, none⟩) hib).trans i1
  have B5 := ((((Below.refl w.heap.size w).alloc (Nat.le_refl _) (.cells #[.slice (some ⟨pb, po, none⟩) np cp, .int .i64 s, .slice (some ⟨ib, io, none⟩) ni ci] 39)).alloc (by simp) (.cells #[.string R.cl, .string R.us, .int .i64 R.lv, .int .i64 R.nw, .slice a1 n1 c1, .slice a2 n2 c2] 41)).alloc (by simp; omega) (.cells #[.int .i64 0, .int .i64 0, .slice none 0 0, .int .i64 ((n : Int) + 1), .int .i64 pk] 34)).alloc (by simp; omega) (.cells #[.int .i64 0, .int .i64 0, .slice none 0 0, .int .i64 0, .int .i64 0] 34) |>.alloc (by simp; omega) (.cells #[.int .i64 1, .int .i64 (j : Int)] 87)
  have RC := ((((Row.new w #[.slice (some ⟨pb, po, none⟩) np cp, .int .i64 s, .slice (some ⟨ib, io, none⟩) ni ci] 39).alloc (.cells #[.string R.cl, .string R.us, .int .i64 R.lv, .int .i64 R.nw, .slice a1 n1 c1, .slice a2 n2 c2] 41)).alloc (.cells #[.int .i64 0, .int .i64 0, .slice none 0 0, .int .i64 ((n : Int) + 1), .int .i64 pk] 34)).alloc (.cells #[.int .i64 0, .int .i64 0, .slice none 0 0, .int .i64 0, .int .i64 0] 34)).alloc (.cells #[.int .i64 1, .int .i64 (j : Int)] 87)
  have RR := (((Row.new (w.alloc (.cells #[.slice (some ⟨pb, po, none⟩) np cp, .int .i64 s, .slice (some ⟨ib, io, none⟩) ni ci] 39)) #[.string R.cl, .string R.us, .int .i64 R.lv, .int .i64 R.nw, .slice a1 n1 c1, .slice a2 n2 c2] 41).alloc (.cells #[.int .i64 0, .int .i64 0, .slice none 0 0, .int .i64 ((n : Int) + 1), .int .i64 pk] 34)).alloc (.cells #[.int .i64 0, .int .i64 0, .slice none 0 0, .int .i64 0, .int .i64 0] 34)).alloc (.cells #[.int .i64 1, .int .i64 (j : Int)] 87)
  have RT := ((Row.new ((w.alloc (.cells #[.slice (some ⟨pb, po, none⟩) np cp, .int .i64 s, .slice (some ⟨ib, io, none⟩) ni ci] 39)).alloc (.cells #[.string R.cl, .string R.us, .int .i64 R.lv, .int .i64 R.nw, .slice a1 n1 c1, .slice a2 n2 c2] 41)) #[.int .i64 0, .int .i64 0, .slice none 0 0, .int .i64 ((n : Int) + 1), .int .i64 pk] 34).alloc (.cells #[.int .i64 0, .int .i64 0, .slice none 0 0, .int .i64 0, .int .i64 0] 34)).alloc (.cells #[.int .i64 1, .int .i64 (j : Int)] 87)
  have RZ := (Row.new (((w.alloc (.cells #[.slice (some ⟨pb, po, none⟩) np cp, .int .i64 s, .slice (some ⟨ib, io, none⟩) ni ci] 39)).alloc (.cells #[.string R.cl, .string R.us, .int .i64 R.lv, .int .i64 R.nw, .slice a1 n1 c1, .slice a2 n2 c2] 41)).alloc (.cells #[.int .i64 0, .int .i64 0, .slice none 0 0, .int .i64 ((n : Int) + 1), .int .i64 pk] 34)) #[.int .i64 0, .int .i64 0, .slice none 0 0, .int .i64 0, .int .i64 0] 34).alloc (.cells #[.int .i64 1, .int .i64 (j : Int)] 87)
  have RI := Row.new ((((w.alloc (.cells #[.slice (some ⟨pb, po, none⟩) np cp, .int .i64 s, .slice (some ⟨ib, io, none⟩) ni ci] 39)).alloc (.cells #[.string R.cl, .string R.us, .int .i64 R.lv, .int .i64 R.nw, .slice a1 n1 c1, .slice a2 n2 c2] 41)).alloc (.cells #[.int .i64 0, .int .i64 0, .slice none 0 0, .int .i64 ((n : Int) + 1), .int .i64 pk] 34)).alloc (.cells #[.int .i64 0, .int .i64 0, .slice none 0 0, .int .i64 0, .int .i64 0] 34)) #[.int .i64 1, .int .i64 (j : Int)] 87
  simp only [World.size_alloc] at RR RT RZ RI
  have iat : (at_ : Int) < (ni : Int) := by omega
  have hO5 := hO.below B5 (Nat.le_refl _)
  have HL := hide (And.intro (hL.below B5 (Nat.le_refl _)) (And.intro hL.row.lt hL.len))
  have HB := hide B5
  have HN := hide (And.intro hlen (And.intro hpk hn))
  have HCC := hide HC
  have HLN := hide hln
  clear hO hL i0 i1 B5 HC hln
  go_enter Tryz.func22, Tryz.ntmps22
  go_wp2_with (at_builtin; refine append_stk rfl _ _ rfl w.heap.size 0 rfl sa (ln) sc st xs (unhide HLN) rfl hO5 (by omega) (by simp; omega) ?_)
  intro y yc w1 hS1 hb1
  have HS := hide hS1
  have Z1 : ((((((w.alloc (.cells #[.slice (some ⟨pb, po, none⟩) np cp, .int .i64 s, .slice (some ⟨ib, io, none⟩) ni ci] 39)).alloc (.cells #[.string R.cl, .string R.us, .int .i64 R.lv, .int .i64 R.nw, .slice a1 n1 c1, .slice a2 n2 c2] 41)).alloc (.cells #[.int .i64 0, .int .i64 0, .slice none 0 0, .int .i64 ((n : Int) + 1), .int .i64 pk] 34)).alloc (.cells #[.int .i64 0, .int .i64 0, .slice none 0 0, .int .i64 0, .int .i64 0] 34)).alloc (.cells #[.int .i64 1, .int .i64 (j : Int)] 87))).heap.size ≤ w.heap.size + 1 + 1 + 1 + 1 + 1 := by simp
  replace RC := RC.after hb1 Z1
  replace RR := RR.after hb1 Z1
  replace RT := RT.after hb1 Z1
  replace RZ := RZ.after hb1 Z1
  replace RI := RI.after hb1 Z1
  replace HL := hide (And.intro ((unhide HL).1.below hb1 Z1) (unhide HL).2)
  have HK := hide (show Kpt (fun k => k = lb) w w1 from Kpt.of_below ((unhide HB).trans (hb1.mono (by omega))))
  have HBw := hide ((unhide HB).trans (hb1.mono (by omega)))
  have LW : w.heap.size + 1 + 1 + 1 + 1 < w1.heap.size := RI.lt
  clear hO5 hS1 hb1 Z1 HB d0 d1 B4 iat hib hat hni hlen hn
  have lbl := (unhide HL).2.1
  have HSL := hide (unhide HL).1
  obtain ⟨i0, i1⟩ := row2M RI
  obtain ⟨k0, k1, k2⟩ := row3M RC
  have x0 := ((unhide HBw).cell (p := ⟨pb, po + j * 4, none⟩) hpb).trans v0
  have x1 := ((unhide HBw).cell (p := ⟨pb, po + j * 4 + 1, none⟩) hpb).trans v1
  have x2 := ((unhide HBw).cell (p := ⟨pb, po + j * 4 + 2, none⟩) hpb).trans v2
  have x3 := ((unhide HBw).cell (p := ⟨pb, po + j * 4 + 3, none⟩) hpb).trans v3
  replace hv := hv.below (unhide HBw) (Nat.le_refl _)
  have hpl : pb < w1.heap.size := by omega
  generalize poolV v = pv at *
  generalize v.num = num at *
  generalize v.text = text at *
  generalize v.kind = kd at *
  obtain ⟨av, rfl⟩ : ∃ av, av = an := ⟨_, rfl⟩
  obtain ⟨nv, rfl⟩ : ∃ nv, nv = nn := ⟨_, rfl⟩
  obtain ⟨cv, rfl⟩ : ∃ cv, cv = cn := ⟨_, rfl⟩
  have BX := ((Below.refl w1.heap.size w1).alloc (Nat.le_refl _) (.cells #[.int .i64 kd, .int .i64 num, .string text, .slice av nv cv] 88)).alloc (by simp) (.cells #[.int .i64 0, .int .i64 num, .string text, .slice av nv cv] 90)
  replace hv := hv.below BX (Nat.le_refl _)
  have O1 : w1.ownsRow w.heap.size 90 4 (.slice y ln yc) ln xs := by have := (unhide HS).1; rw [unhide HLN] at this; exact this
  have NW := World.news_of_block (heap_alloc_new (w1.alloc (.cells #[.int .i64 kd, .int .i64 num, .string text, .slice av nv cv] 88)) (.cells #[.int .i64 0, .int .i64 num, .string text, .slice av nv cv] 90))
  simp only [World.size_alloc] at NW
  have ijs : (j : Int) < (np : Int) := by omega
  have hmb := (unhide HN).1
  clear HL v0 v1 v2 v3 HBw
  go_wp2_with (at_builtin; refine wpList_append_lies _ rfl _ _ 57 rfl w.heap.size 90 ti (.agg #[.int .i64 0, .int .i64 0, .string ByteArray.empty, .slice none 0 0]) 4 56 Tryz.underlying57 hti hz0 hz1 hz2 rfl (by decide) (.slice y (ln) yc) (ln) xs rfl (World.ownsRow.alloc (World.ownsRow.alloc O1 _) _) ⟨w1.heap.size + 1, 0, none⟩ 1 1 [.int .i64 0, .int .i64 num, .string text, .slice av nv cv] rfl rfl NW ?c2 (by decide) ?c3 ?c4 ?c5 _ rfl ?_)
  case c2 => first | exact ⟨rfl, rfl, rfl, rfl⟩ | (intro u hu; simp at hu; rcases hu with rfl | rfl | rfl | rfl <;> rfl)
  case c3 => unfold maxLen; omega
  case c4 => omega
  case c5 => first | omega | (simp; omega)
  clear k0 k1 k2 x0 x1 x2 x3
  intro g7 yc7 w7 O7 hgrow hat hgl
  replace hgrow := grown_len hgrow (st).length
  have SP := (unhide HS).below BX (Nat.le_refl _)
  have LP := (unhide HSL).below BX (Nat.le_refl _)
  have RCP := RC.after BX (Nat.le_refl _)
  have RRP := RR.after BX (Nat.le_refl _)
  have RTP := RT.after BX (Nat.le_refl _)
  have RZP := RZ.after BX (Nat.le_refl _)
  have neC := own_ne_row RCP SP.1 (by decide)
  have neR := own_ne_row RRP SP.1 (by decide)
  have neT := own_ne_row RTP SP.1 (by decide)
  have neZ := own_ne_row RZP SP.1 (by decide)
  replace RC := rowGrown RCP hgrow (fun e => neC e.symm)
  replace RR := rowGrown RRP hgrow (fun e => neR e.symm)
  replace RT := rowGrown RTP hgrow (fun e => neT e.symm)
  replace RZ := rowGrown RZP hgrow (fun e => neZ e.symm)
  have S7 := SP.push hv (by rw [unhide HLN]; exact O7) hgrow
  have olt := SP.1.lt
  have L7 := LP.kpt (Kpt.of_grown hgrow) (fun b cs r e => own_ne_row r SP.1 (by decide) e) (fun e => by have := (olt lb e).1; omega)
  have K7 := ((unhide HK).trans (Kpt.of_below (S := fun k => k = lb) BX) (fun q _ h => h)).trans (Kpt.of_grown hgrow) (fun q hq e => absurd (olt q e).1 (by omega))
  have L8 := K7.size
  have hm : (st ++ [pv]).length = ln + 1 := by rw [List.length_append, unhide HLN]; rfl
  obtain ⟨ys, hys⟩ : ∃ ys, ys = xs ++ [.int .i64 0, .int .i64 num, .string text, .slice av nv cv] := ⟨_, rfl⟩
  rw [← hys] at S7
  obtain ⟨ds, hds⟩ : ∃ ds, ds = cs := ⟨_, rfl⟩
  rw [← hds] at L7
  replace LW : w.heap.size + 1 + 1 + 1 < w7.heap.size := RZ.lt
  replace HS := hide S7
  replace HSL := hide L7
  replace HK := hide K7
  clear SP LP RCP RRP RTP RZP neC neR neT neZ S7 L7 K7 hys hds O7 hgrow hat hgl olt BX hv
  obtain ⟨k0, k1, k2⟩ := row3M RC
  obtain ⟨r0, r1, r2, r3, r4, r5⟩ := row6M RR
  obtain ⟨t0, t1, t2, t3, t4⟩ := row5M RT
  have tf := fun j => RT.frozen j
  by_cases hpp : pk < ln + 1
  · have ilt : (pk : Int) < ((ln + 1 : Nat) : Int) := by omega
    have HC2 : Hid (Calls Tryz.prog 22 #[.agg #[.slice (some ⟨pb, po, none⟩) np cp, .int .i64 s, .slice (some ⟨ib, io, none⟩) ni ci], .agg #[.string R.cl, .string R.us, .int .i64 R.lv, .int .i64 R.nw, .slice a1 n1 c1, .slice a2 n2 c2], .int .i64 ((at_ : Int) + 1), .slice (some ⟨g7, 0, none⟩) (ln + 1) yc7, .slice (some ⟨lb, 0, none⟩) S S, .agg #[.int .i64 0, .int .i64 0, .slice none 0 0, .int .i64 ((n : Int) + 1), .int .i64 (ln + 1 : Nat)]] (w7.setCell ⟨w.heap.size + 1 + 1, 4, none⟩ (.int .i64 (ln + 1 : Nat))) (RnG (w7.setCell ⟨w.heap.size + 1 + 1, 4, none⟩ (.int .i64 (ln + 1 : Nat))).heap.size lb X (w7.setCell ⟨w.heap.size + 1 + 1, 4, none⟩ (.int .i64 (ln + 1 : Nat))))) := hide (by
        have h := unhide HCC (some ⟨g7, 0, none⟩) yc7 ys ds (w7.setCell ⟨w.heap.size + 1 + 1, 4, none⟩ (.int .i64 (ln + 1 : Nat))) ((unhide HK).setCell (p := ⟨w.heap.size + 1 + 1, 4, none⟩) (fun h => absurd h (by simp; omega)) (.int .i64 (ln + 1 : Nat))) (((unhide HS).low (Nat.zero_le _)).setR RT (by decide) (by decide) 4 _) ((unhide HSL).setR RT (by decide) (by decide) 4 _)
        rw [hm, Nat.max_eq_right (Nat.le_of_lt hpp)] at h
        exact h)
    replace RC := RC.setFar (p := ⟨w.heap.size + 1 + 1, 4, none⟩) (by show w.heap.size ≠ w.heap.size + 1 + 1; omega) (.int .i64 (ln + 1 : Nat))
    replace RR := RR.setFar (p := ⟨w.heap.size + 1 + 1, 4, none⟩) (by show w.heap.size + 1 ≠ w.heap.size + 1 + 1; omega) (.int .i64 (ln + 1 : Nat))
    replace RZ := RZ.setFar (p := ⟨w.heap.size + 1 + 1, 4, none⟩) (by show w.heap.size + 1 + 1 + 1 ≠ w.heap.size + 1 + 1; omega) (.int .i64 (ln + 1 : Nat))
    have HKK := (unhide HK).setCell (p := ⟨w.heap.size + 1 + 1, 4, none⟩) (fun h => absurd h (by simp; omega)) (.int .i64 (ln + 1 : Nat))
    clear HK
    have HM := hide hm
    clear HCC HS HSL RT hm hpp
    go_wp2_with fail
    refine (unhide HC2).mono ?_
    rintro r w5 ⟨⟨x, cx, rfl, OO⟩, k5, hsz⟩
    have HSZ := hide hsz
    have RZ5 := RZ.kpt k5 (by omega)
    obtain ⟨o0, o1, o2, o3, o4⟩ := row5M RZ5
    have of := fun j => RZ5.frozen j
    obtain ⟨p0, p1, p2, p3, p4⟩ := row5M (set5 RZ5 (.int .i64 X.out.1) (.int .i64 X.out.2.1) (.slice x X.out.2.2.length cx) (.int .i64 X.steps) (.int .i64 X.peak))
    have HKE := hide (kpt5 (b := w.heap.size + 1 + 1 + 1) (HKK.trans k5 (fun q _ h => h)) (by omega) (.int .i64 X.out.1) (.int .i64 X.out.2.1) (.slice x X.out.2.2.length cx) (.int .i64 X.steps) (.int .i64 X.peak))
    have ne : ∀ q, (Value.slice x X.out.2.2.length cx).ownBlock = some q → q ≠ w.heap.size + 1 + 1 + 1 := fun q hq h => own_ne_row RZ5 OO (by decide) (by rw [hq, h])
    have OE := hide (own5 OO ne (.int .i64 X.out.1) (.int .i64 X.out.2.1) (.slice x X.out.2.2.length cx) (.int .i64 X.steps) (.int .i64 X.peak))
    have LE := hide (show w.heap.size ≤ (w7.setCell ⟨w.heap.size + 1 + 1, 4, none⟩ (.int .i64 (ln + 1 : Nat))).heap.size by have := HKK.size; simp at this ⊢; omega)
    clear RC RR RZ RI HKK k5 OO ne HC2 hsz k0 k1 k2 r0 r1 r2 r3 r4 r5 RZ5
    dsimp only
    go_wp2_with fail
    refine bodyPost_ret (v := .agg #[.int .i64 X.out.1, .int .i64 X.out.2.1, .slice x X.out.2.2.length cx, .int .i64 X.steps, .int .i64 X.peak]) (by simp [results, Tryz.results22, go_sem, p0, p1, p2, p3, p4]) rfl ?_
    exact ⟨⟨x, cx, rfl, own_lowM (unhide OE) (unhide LE)⟩, unhide HKE, unhide HSZ⟩
  · have ilt : ¬ ((pk : Int) < ((ln + 1 : Nat) : Int)) := by omega
    have HC2 : Hid (Calls Tryz.prog 22 #[.agg #[.slice (some ⟨pb, po, none⟩) np cp, .int .i64 s, .slice (some ⟨ib, io, none⟩) ni ci], .agg #[.string R.cl, .string R.us, .int .i64 R.lv, .int .i64 R.nw, .slice a1 n1 c1, .slice a2 n2 c2], .int .i64 ((at_ : Int) + 1), .slice (some ⟨g7, 0, none⟩) (ln + 1) yc7, .slice (some ⟨lb, 0, none⟩) S S, .agg #[.int .i64 0, .int .i64 0, .slice none 0 0, .int .i64 ((n : Int) + 1), .int .i64 pk]] (w7) (RnG (w7).heap.size lb X (w7))) := hide (by
        have h := unhide HCC (some ⟨g7, 0, none⟩) yc7 ys ds (w7) (unhide HK) ((unhide HS).low (Nat.zero_le _)) (unhide HSL)
        rw [hm, Nat.max_eq_left (Nat.le_of_not_lt hpp)] at h
        exact h)
    have HKK := unhide HK
    clear HK
    have HM := hide hm
    clear HCC HS HSL RT hm hpp
    go_wp2_with fail
    refine (unhide HC2).mono ?_
    rintro r w5 ⟨⟨x, cx, rfl, OO⟩, k5, hsz⟩
    have HSZ := hide hsz
    have RZ5 := RZ.kpt k5 (by omega)
    obtain ⟨o0, o1, o2, o3, o4⟩ := row5M RZ5
    have of := fun j => RZ5.frozen j
    obtain ⟨p0, p1, p2, p3, p4⟩ := row5M (set5 RZ5 (.int .i64 X.out.1) (.int .i64 X.out.2.1) (.slice x X.out.2.2.length cx) (.int .i64 X.steps) (.int .i64 X.peak))
    have HKE := hide (kpt5 (b := w.heap.size + 1 + 1 + 1) (HKK.trans k5 (fun q _ h => h)) (by omega) (.int .i64 X.out.1) (.int .i64 X.out.2.1) (.slice x X.out.2.2.length cx) (.int .i64 X.steps) (.int .i64 X.peak))
    have ne : ∀ q, (Value.slice x X.out.2.2.length cx).ownBlock = some q → q ≠ w.heap.size + 1 + 1 + 1 := fun q hq h => own_ne_row RZ5 OO (by decide) (by rw [hq, h])
    have OE := hide (own5 OO ne (.int .i64 X.out.1) (.int .i64 X.out.2.1) (.slice x X.out.2.2.length cx) (.int .i64 X.steps) (.int .i64 X.peak))
    have LE := hide (show w.heap.size ≤ (w7).heap.size by have := HKK.size; simp at this ⊢; omega)
    clear RC RR RZ RI HKK k5 OO ne HC2 hsz k0 k1 k2 r0 r1 r2 r3 r4 r5 RZ5
    dsimp only
    go_wp2_with fail
    refine bodyPost_ret (v := .agg #[.int .i64 X.out.1, .int .i64 X.out.2.1, .slice x X.out.2.2.length cx, .int .i64 X.steps, .int .i64 X.peak]) (by simp [results, Tryz.results22, go_sem, p0, p1, p2, p3, p4]) rfl ?_
    exact ⟨⟨x, cx, rfl, own_lowM (unhide OE) (unhide LE)⟩, unhide HKE, unhide HSZ⟩

end Go.Proofs.YtogenboibgddaaaGreatDoor

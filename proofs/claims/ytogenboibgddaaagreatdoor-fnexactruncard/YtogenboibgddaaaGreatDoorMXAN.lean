/-
  RVX2, RVZ, RVH, RVM. Own work.
-/
import Derived.Test.YtogenboibgddaaaGreatDoorRVU
import Derived.Test.YtogenboibgddaaaGreatDoorRVV
import Derived.Test.YtogenboibgddaaaGreatDoorRVW
import Derived.Test.YtogenboibgddaaaGreatDoorMXAM
import Derived.Test.YtogenboibgddaaaGreatDoorRVX
import Derived.Test.YtogenboibgddaaaGreatDoorRVY
import Derived.Test.YtogenboibgddaaaGreatDoorRVY2
import Derived.Test.YtogenboibgddaaaGreatDoorMXAO
import Derived.Test.YtogenboibgddaaaGreatDoorMXAP
namespace Go.Proofs.YtogenboibgddaaaGreatDoor
open Go.RowKit
set_option linter.unusedVariables false

set_option maxRecDepth 100000 in
set_option maxHeartbeats 6400000 in
theorem m_attr (ap : Option Addr) (np cp : Nat) (s : Int) (ib io ni ci : Nat) (R : Rq) (a1 : Option Addr) (n1 c1 : Nat) (a2 : Option Addr) (n2 c2 : Nat) (at_ : Nat) (sa : Option Addr) (sc : Nat) (st : List Vv) (xs : List Value) (ln : Nat) (lb S : Nat) (sl : List (Option Vv)) (cs : Array Value) (n pk : Nat) (P : List Vl) (arg : Int) (X : Rn) (w : World) (hln : st.length = ln) (i0 : w.cell? ⟨ib, io + at_ * 2, none⟩ = some (.int .i64 2)) (i1 : w.cell? ⟨ib, io + at_ * 2 + 1, none⟩ = some (.int .i64 arg)) (hib : ib < w.heap.size) (hat : at_ < ni) (hni : ni ≤ 20000) (hn : n ≤ 20000) (hpk : pk ≤ 100) (hlen : ln ≤ 100) (hO : StO w 0 sa sc st xs) (hL : SlO w lb S sl cs) (harg : 0 ≤ arg ∧ arg ≤ 5) (hE : EnvM w ap np cp a1 n1 c1 a2 n2 c2 P R) (HC : ∀ x c ys ds w', Kpt (fun k => k = lb) w w' → StO w' 0 x c (st ++ [attrV R arg]) ys → SlO w' lb S (sl) ds → Calls Tryz.prog 22 #[.agg #[.slice ap np cp, .int .i64 s, .slice (some ⟨ib, io, none⟩) ni ci], .agg #[.string R.cl, .string R.us, .int .i64 R.lv, .int .i64 R.nw, .slice a1 n1 c1, .slice a2 n2 c2], .int .i64 ((at_ : Int) + 1), .slice x (st ++ [attrV R arg]).length c, .slice (some ⟨lb, 0, none⟩) S S, .agg #[.int .i64 0, .int .i64 0, .slice none 0 0, .int .i64 ((n + 1 : Nat) : Int), .int .i64 ((max pk (st ++ [attrV R arg]).length : Nat) : Int)]] w' (RnG w'.heap.size lb X w')) :
    Calls Tryz.prog 22 #[.agg #[.slice ap np cp, .int .i64 s, .slice (some ⟨ib, io, none⟩) ni ci], .agg #[.string R.cl, .string R.us, .int .i64 R.lv, .int .i64 R.nw, .slice a1 n1 c1, .slice a2 n2 c2], .int .i64 at_, .slice sa (ln) sc, .slice (some ⟨lb, 0, none⟩) S S, .agg #[.int .i64 0, .int .i64 0, .slice none 0 0, .int .i64 n, .int .i64 pk]] w (RnG w.heap.size lb X w) := by
  obtain ⟨ti, hti, hz0, hz1, hz2⟩ := info_parts infoM
  have B4 := ((((Below.refl w.heap.size w).alloc (Nat.le_refl _) (.cells #[.slice ap np cp, .int .i64 s, .slice (some ⟨ib, io, none⟩) ni ci] 39)).alloc (by simp) (.cells #[.string R.cl, .string R.us, .int .i64 R.lv, .int .i64 R.nw, .slice a1 n1 c1, .slice a2 n2 c2] 41)).alloc (by simp; omega) (.cells #[.int .i64 0, .int .i64 0, .slice none 0 0, .int .i64 n, .int .i64 pk] 34)).alloc (by simp; omega) (.cells #[.int .i64 0, .int .i64 0, .slice none 0 0, .int .i64 0, .int .i64 0] 34)
  have d0 := (B4.cell (p := ⟨ib, io + at_ * 2, none⟩) hib).trans i0
  have d1 := (B4.cell (p := ⟨ib, io + at_ * 2 + 1, none⟩) hib).trans i1
  have B5 := ((((Below.refl w.heap.size w).alloc (Nat.le_refl _) (.cells #[.slice ap np cp, .int .i64 s, .slice (some ⟨ib, io, none⟩) ni ci] 39)).alloc (by simp) (.cells #[.string R.cl, .string R.us, .int .i64 R.lv, .int .i64 R.nw, .slice a1 n1 c1, .slice a2 n2 c2] 41)).alloc (by simp; omega) (.cells #[.int .i64 0, .int .i64 0, .slice none 0 0, .int .i64 ((n : Int) + 1), .int .i64 pk] 34)).alloc (by simp; omega) (.cells #[.int .i64 0, .int .i64 0, .slice none 0 0, .int .i64 0, .int .i64 0] 34) |>.alloc (by simp; omega) (.cells #[.int .i64 2, .int .i64 arg] 87)
  have RC := ((((Row.new w #[.slice ap np cp, .int .i64 s, .slice (some ⟨ib, io, none⟩) ni ci] 39).alloc (.cells #[.string R.cl, .string R.us, .int .i64 R.lv, .int .i64 R.nw, .slice a1 n1 c1, .slice a2 n2 c2] 41)).alloc (.cells #[.int .i64 0, .int .i64 0, .slice none 0 0, .int .i64 ((n : Int) + 1), .int .i64 pk] 34)).alloc (.cells #[.int .i64 0, .int .i64 0, .slice none 0 0, .int .i64 0, .int .i64 0] 34)).alloc (.cells #[.int .i64 2, .int .i64 arg] 87)
  have RR := (((Row.new (w.alloc (.cells #[.slice ap np cp, .int .i64 s, .slice (some ⟨ib, io, none⟩) ni ci] 39)) #[.string R.cl, .string R.us, .int .i64 R.lv, .int .i64 R.nw, .slice a1 n1 c1, .slice a2 n2 c2] 41).alloc (.cells #[.int .i64 0, .int .i64 0, .slice none 0 0, .int .i64 ((n : Int) + 1), .int .i64 pk] 34)).alloc (.cells #[.int .i64 0, .int .i64 0, .slice none 0 0, .int .i64 0, .int .i64 0] 34)).alloc (.cells #[.int .i64 2, .int .i64 arg] 87)
  have RT := ((Row.new ((w.alloc (.cells #[.slice ap np cp, .int .i64 s, .slice (some ⟨ib, io, none⟩) ni ci] 39)).alloc (.cells #[.string R.cl, .string R.us, .int .i64 R.lv, .int .i64 R.nw, .slice a1 n1 c1, .slice a2 n2 c2] 41)) #[.int .i64 0, .int .i64 0, .slice none 0 0, .int .i64 ((n : Int) + 1), .int .i64 pk] 34).alloc (.cells #[.int .i64 0, .int .i64 0, .slice none 0 0, .int .i64 0, .int .i64 0] 34)).alloc (.cells #[.int .i64 2, .int .i64 arg] 87)
  have RZ := (Row.new (((w.alloc (.cells #[.slice ap np cp, .int .i64 s, .slice (some ⟨ib, io, none⟩) ni ci] 39)).alloc (.cells #[.string R.cl, .string R.us, .int .i64 R.lv, .int .i64 R.nw, .slice a1 n1 c1, .slice a2 n2 c2] 41)).alloc (.cells #[.int .i64 0, .int .i64 0, .slice none 0 0, .int .i64 ((n : Int) + 1), .int .i64 pk] 34)) #[.int .i64 0, .int .i64 0, .slice none 0 0, .int .i64 0, .int .i64 0] 34).alloc (.cells #[.int .i64 2, .int .i64 arg] 87)
  have RI := Row.new ((((w.alloc (.cells #[.slice ap np cp, .int .i64 s, .slice (some ⟨ib, io, none⟩) ni ci] 39)).alloc (.cells #[.string R.cl, .string R.us, .int .i64 R.lv, .int .i64 R.nw, .slice a1 n1 c1, .slice a2 n2 c2] 41)).alloc (.cells #[.int .i64 0, .int .i64 0, .slice none 0 0, .int .i64 ((n : Int) + 1), .int .i64 pk] 34)).alloc (.cells #[.int .i64 0, .int .i64 0, .slice none 0 0, .int .i64 0, .int .i64 0] 34)) #[.int .i64 2, .int .i64 arg] 87
  simp only [World.size_alloc] at RR RT RZ RI
  have iat : (at_ : Int) < (ni : Int) := by omega
  have hO5 := hO.below B5 (Nat.le_refl _)
  have HL := hide (And.intro (hL.below B5 (Nat.le_refl _)) (And.intro hL.row.lt hL.len))
  have HB := hide B5
  have HN := hide (And.intro hlen (And.intro hpk hn))
  have HCC := hide HC
  have HLN := hide hln
  clear hO hL i0 i1 B5 HC hln
  go_enter Tryz.func22, Tryz.ntmps22
  go_wp2_with (at_builtin; refine append_stk rfl _ _ rfl w.heap.size 0 rfl sa (ln) sc st xs (unhide HLN) rfl hO5 (by omega) (by simp; omega) ?_)
  intro y yc w1 hS1 hb1
  have HS := hide hS1
  have Z1 : ((((((w.alloc (.cells #[.slice ap np cp, .int .i64 s, .slice (some ⟨ib, io, none⟩) ni ci] 39)).alloc (.cells #[.string R.cl, .string R.us, .int .i64 R.lv, .int .i64 R.nw, .slice a1 n1 c1, .slice a2 n2 c2] 41)).alloc (.cells #[.int .i64 0, .int .i64 0, .slice none 0 0, .int .i64 ((n : Int) + 1), .int .i64 pk] 34)).alloc (.cells #[.int .i64 0, .int .i64 0, .slice none 0 0, .int .i64 0, .int .i64 0] 34)).alloc (.cells #[.int .i64 2, .int .i64 arg] 87))).heap.size ≤ w.heap.size + 1 + 1 + 1 + 1 + 1 := by simp
  replace RC := RC.after hb1 Z1
  replace RR := RR.after hb1 Z1
  replace RT := RT.after hb1 Z1
  replace RZ := RZ.after hb1 Z1
  replace RI := RI.after hb1 Z1
  replace HL := hide (And.intro ((unhide HL).1.below hb1 Z1) (unhide HL).2)
  have HK := hide (show Kpt (fun k => k = lb) w w1 from Kpt.of_below ((unhide HB).trans (hb1.mono (by omega))))
  have HBw := hide ((unhide HB).trans (hb1.mono (by omega)))
  have LW : w.heap.size + 1 + 1 + 1 + 1 < w1.heap.size := RI.lt
  clear hO5 hS1 hb1 Z1 HB d0 d1 B4 iat hib hat hni hlen hn
  have lbl := (unhide HL).2.1
  have HSL := hide (unhide HL).1
  obtain ⟨i0, i1⟩ := row2M RI
  obtain ⟨r0, r1, r2, r3, r4, r5⟩ := row6M RR
  have hb := unhide HBw
  have HA := hide (l6attr_any R arg harg a1 n1 c1 a2 n2 c2 w1 (hE.q1.below hb (Nat.le_refl _)) (hE.q2.below hb (Nat.le_refl _)) (hE.z1.below hb (Nat.le_refl _)) (hE.z2.below hb (Nat.le_refl _)) hE.lim)
  clear hE hb HL harg
  go_wp2_with fail
  refine (unhide HA).mono ?_
  rintro r w2 ⟨⟨_, num, text, av, nv, cv, rfl, rfl, hv⟩, hb2⟩
  clear HA r0 r1 r2 r3 r4 r5 i0 i1
  have hmb := (unhide HN).1
  generalize attrV R arg = tv at *
  have BX := hb2.alloc hb2.size (.cells #[.int .i64 0, .int .i64 num, .string text, .slice av nv cv] 90)
  replace hv := (hv.mvx).below ((Below.refl w2.heap.size w2).alloc (Nat.le_refl _) (.cells #[.int .i64 0, .int .i64 num, .string text, .slice av nv cv] 90)) (Nat.le_refl _)
  have O1 : w2.ownsRow w.heap.size 90 4 (.slice y ln yc) ln xs := by have := ((unhide HS).below hb2 (Nat.le_refl _)).1; rw [unhide HLN] at this; exact this
  have NW := World.news_of_block (heap_alloc_new w2 (.cells #[.int .i64 0, .int .i64 num, .string text, .slice av nv cv] 90))
  have L2 := hb2.size
  clear hb2
  dsimp only
  go_wp2_with (at_builtin; refine wpList_append_lies _ rfl _ _ 57 rfl w.heap.size 90 ti (.agg #[.int .i64 0, .int .i64 0, .string ByteArray.empty, .slice none 0 0]) 4 56 Tryz.underlying57 hti hz0 hz1 hz2 rfl (by decide) (.slice y (ln) yc) (ln) xs rfl (World.ownsRow.alloc O1 _) ⟨w2.heap.size, 0, none⟩ 1 1 [.int .i64 0, .int .i64 num, .string text, .slice av nv cv] rfl rfl NW ?c2 (by decide) ?c3 ?c4 ?c5 _ rfl ?_)
  case c2 => first | exact ⟨rfl, rfl, rfl, rfl⟩ | (intro u hu; simp at hu; rcases hu with rfl | rfl | rfl | rfl <;> rfl)
  case c3 => unfold maxLen; omega
  case c4 => omega
  case c5 => first | omega | (simp; omega)
  intro g7 yc7 w7 O7 hgrow hat hgl
  replace hgrow := grown_len hgrow (st).length
  have SP := (unhide HS).below BX (Nat.le_refl _)
  have LP := (unhide HSL).below BX (Nat.le_refl _)
  have RCP := RC.after BX (Nat.le_refl _)
  have RRP := RR.after BX (Nat.le_refl _)
  have RTP := RT.after BX (Nat.le_refl _)
  have RZP := RZ.after BX (Nat.le_refl _)
  have neC := own_ne_row RCP SP.1 (by decide)
  have neR := own_ne_row RRP SP.1 (by decide)
  have neT := own_ne_row RTP SP.1 (by decide)
  have neZ := own_ne_row RZP SP.1 (by decide)
  replace RC := rowGrown RCP hgrow (fun e => neC e.symm)
  replace RR := rowGrown RRP hgrow (fun e => neR e.symm)
  replace RT := rowGrown RTP hgrow (fun e => neT e.symm)
  replace RZ := rowGrown RZP hgrow (fun e => neZ e.symm)
  have S7 := SP.push hv (by rw [unhide HLN]; exact O7) hgrow
  have olt := SP.1.lt
  have L7 := LP.kpt (Kpt.of_grown hgrow) (fun b cs r e => own_ne_row r SP.1 (by decide) e) (fun e => by have := (olt lb e).1; omega)
  have K7 := ((unhide HK).trans (Kpt.of_below (S := fun k => k = lb) BX) (fun q _ h => h)).trans (Kpt.of_grown hgrow) (fun q hq e => absurd (olt q e).1 (by omega))
  have L8 := K7.size
  have hm : (st ++ [tv]).length = ln + 1 := by rw [List.length_append, unhide HLN]; rfl
  obtain ⟨ys, hys⟩ : ∃ ys, ys = xs ++ [.int .i64 0, .int .i64 num, .string text, .slice av nv cv] := ⟨_, rfl⟩
  rw [← hys] at S7
  obtain ⟨ds, hds⟩ : ∃ ds, ds = cs := ⟨_, rfl⟩
  rw [← hds] at L7
  replace LW : w.heap.size + 1 + 1 + 1 < w7.heap.size := RZ.lt
  replace HS := hide S7
  replace HSL := hide L7
  replace HK := hide K7
  clear SP LP RCP RRP RTP RZP neC neR neT neZ S7 L7 K7 hys hds O7 hgrow hat hgl olt BX hv
  obtain ⟨k0, k1, k2⟩ := row3M RC
  obtain ⟨r0, r1, r2, r3, r4, r5⟩ := row6M RR
  obtain ⟨t0, t1, t2, t3, t4⟩ := row5M RT
  have tf := fun j => RT.frozen j
  by_cases hpp : pk < ln + 1
  · have ilt : (pk : Int) < ((ln + 1 : Nat) : Int) := by omega
    have HC2 : Hid (Calls Tryz.prog 22 #[.agg #[.slice ap np cp, .int .i64 s, .slice (some ⟨ib, io, none⟩) ni ci], .agg #[.string R.cl, .string R.us, .int .i64 R.lv, .int .i64 R.nw, .slice a1 n1 c1, .slice a2 n2 c2], .int .i64 ((at_ : Int) + 1), .slice (some ⟨g7, 0, none⟩) (ln + 1) yc7, .slice (some ⟨lb, 0, none⟩) S S, .agg #[.int .i64 0, .int .i64 0, .slice none 0 0, .int .i64 ((n : Int) + 1), .int .i64 (ln + 1 : Nat)]] (w7.setCell ⟨w.heap.size + 1 + 1, 4, none⟩ (.int .i64 (ln + 1 : Nat))) (RnG (w7.setCell ⟨w.heap.size + 1 + 1, 4, none⟩ (.int .i64 (ln + 1 : Nat))).heap.size lb X (w7.setCell ⟨w.heap.size + 1 + 1, 4, none⟩ (.int .i64 (ln + 1 : Nat))))) := hide (by
        have h := unhide HCC (some ⟨g7, 0, none⟩) yc7 ys ds (w7.setCell ⟨w.heap.size + 1 + 1, 4, none⟩ (.int .i64 (ln + 1 : Nat))) ((unhide HK).setCell (p := ⟨w.heap.size + 1 + 1, 4, none⟩) (fun h => absurd h (by simp; omega)) (.int .i64 (ln + 1 : Nat))) (((unhide HS).low (Nat.zero_le _)).setR RT (by decide) (by decide) 4 _) ((unhide HSL).setR RT (by decide) (by decide) 4 _)
        rw [hm, Nat.max_eq_right (Nat.le_of_lt hpp)] at h
        exact h)
    replace RC := RC.setFar (p := ⟨w.heap.size + 1 + 1, 4, none⟩) (by show w.heap.size ≠ w.heap.size + 1 + 1; omega) (.int .i64 (ln + 1 : Nat))
    replace RR := RR.setFar (p := ⟨w.heap.size + 1 + 1, 4, none⟩) (by show w.heap.size + 1 ≠ w.heap.size + 1 + 1; omega) (.int .i64 (ln + 1 : Nat))
    replace RZ := RZ.setFar (p := ⟨w.heap.size + 1 + 1, 4, none⟩) (by show w.heap.size + 1 + 1 + 1 ≠ w.heap.size + 1 + 1; omega) (.int .i64 (ln + 1 : Nat))
    have HKK := (unhide HK).setCell (p := ⟨w.heap.size + 1 + 1, 4, none⟩) (fun h => absurd h (by simp; omega)) (.int .i64 (ln + 1 : Nat))
    clear HK
    have HM := hide hm
    clear HCC HS HSL RT hm hpp
    go_wp2_with fail
    refine (unhide HC2).mono ?_
    rintro r w5 ⟨⟨x, cx, rfl, OO⟩, k5, hsz⟩
    have HSZ := hide hsz
    have RZ5 := RZ.kpt k5 (by omega)
    obtain ⟨o0, o1, o2, o3, o4⟩ := row5M RZ5
    have of := fun j => RZ5.frozen j
    obtain ⟨p0, p1, p2, p3, p4⟩ := row5M (set5 RZ5 (.int .i64 X.out.1) (.int .i64 X.out.2.1) (.slice x X.out.2.2.length cx) (.int .i64 X.steps) (.int .i64 X.peak))
    have HKE := hide (kpt5 (b := w.heap.size + 1 + 1 + 1) (HKK.trans k5 (fun q _ h => h)) (by omega) (.int .i64 X.out.1) (.int .i64 X.out.2.1) (.slice x X.out.2.2.length cx) (.int .i64 X.steps) (.int .i64 X.peak))
    have ne : ∀ q, (Value.slice x X.out.2.2.length cx).ownBlock = some q → q ≠ w.heap.size + 1 + 1 + 1 := fun q hq h => own_ne_row RZ5 OO (by decide) (by rw [hq, h])
    have OE := hide (own5 OO ne (.int .i64 X.out.1) (.int .i64 X.out.2.1) (.slice x X.out.2.2.length cx) (.int .i64 X.steps) (.int .i64 X.peak))
    have LE := hide (show w.heap.size ≤ (w7.setCell ⟨w.heap.size + 1 + 1, 4, none⟩ (.int .i64 (ln + 1 : Nat))).heap.size by have := HKK.size; simp at this ⊢; omega)
    clear RC RR RZ RI HKK k5 OO ne HC2 hsz k0 k1 k2 r0 r1 r2 r3 r4 r5 RZ5
    dsimp only
    go_wp2_with fail
    refine bodyPost_ret (v := .agg #[.int .i64 X.out.1, .int .i64 X.out.2.1, .slice x X.out.2.2.length cx, .int .i64 X.steps, .int .i64 X.peak]) (by simp [results, Tryz.results22, go_sem, p0, p1, p2, p3, p4]) rfl ?_
    exact ⟨⟨x, cx, rfl, own_lowM (unhide OE) (unhide LE)⟩, unhide HKE, unhide HSZ⟩
  · have ilt : ¬ ((pk : Int) < ((ln + 1 : Nat) : Int)) := by omega
    have HC2 : Hid (Calls Tryz.prog 22 #[.agg #[.slice ap np cp, .int .i64 s, .slice (some ⟨ib, io, none⟩) ni ci], .agg #[.string R.cl, .string R.us, .int .i64 R.lv, .int .i64 R.nw, .slice a1 n1 c1, .slice a2 n2 c2], .int .i64 ((at_ : Int) + 1), .slice (some ⟨g7, 0, none⟩) (ln + 1) yc7, .slice (some ⟨lb, 0, none⟩) S S, .agg #[.int .i64 0, .int .i64 0, .slice none 0 0, .int .i64 ((n : Int) + 1), .int .i64 pk]] (w7) (RnG (w7).heap.size lb X (w7))) := hide (by
        have h := unhide HCC (some ⟨g7, 0, none⟩) yc7 ys ds (w7) (unhide HK) ((unhide HS).low (Nat.zero_le _)) (unhide HSL)
        rw [hm, Nat.max_eq_left (Nat.le_of_not_lt hpp)] at h
        exact h)
    have HKK := unhide HK
    clear HK
    have HM := hide hm
    clear HCC HS HSL RT hm hpp
    go_wp2_with fail
    refine (unhide HC2).mono ?_
    rintro r w5 ⟨⟨x, cx, rfl, OO⟩, k5, hsz⟩
    have HSZ := hide hsz
    have RZ5 := RZ.kpt k5 (by omega)
    obtain ⟨o0, o1, o2, o3, o4⟩ := row5M RZ5
    have of := fun j => RZ5.frozen j
    obtain ⟨p0, p1, p2, p3, p4⟩ := row5M (set5 RZ5 (.int .i64 X.out.1) (.int .i64 X.out.2.1) (.slice x X.out.2.2.length cx) (.int .i64 X.steps) (.int .i64 X.peak))
    have HKE := hide (kpt5 (b := w.heap.size + 1 + 1 + 1) (HKK.trans k5 (fun q _ h => h)) (by omega) (.int .i64 X.out.1) (.int .i64 X.out.2.1) (.slice x X.out.2.2.length cx) (.int .i64 X.steps) (.int .i64 X.peak))
    have ne : ∀ q, (Value.slice x X.out.2.2.length cx).ownBlock = some q → q ≠ w.heap.size + 1 + 1 + 1 := fun q hq h => own_ne_row RZ5 OO (by decide) (by rw [hq, h])
    have OE := hide (own5 OO ne (.int .i64 X.out.1) (.int .i64 X.out.2.1) (.slice x X.out.2.2.length cx) (.int .i64 X.steps) (.int .i64 X.peak))
    have LE := hide (show w.heap.size ≤ (w7).heap.size by have := HKK.size; simp at this ⊢; omega)
    clear RC RR RZ RI HKK k5 OO ne HC2 hsz k0 k1 k2 r0 r1 r2 r3 r4 r5 RZ5
    dsimp only
    go_wp2_with fail
    refine bodyPost_ret (v := .agg #[.int .i64 X.out.1, .int .i64 X.out.2.1, .slice x X.out.2.2.length cx, .int .i64 X.steps, .int .i64 X.peak]) (by simp [results, Tryz.results22, go_sem, p0, p1, p2, p3, p4]) rfl ?_
    exact ⟨⟨x, cx, rfl, own_lowM (unhide OE) (unhide LE)⟩, unhide HKE, unhide HSZ⟩

end Go.Proofs.YtogenboibgddaaaGreatDoor

namespace Go.Proofs.YtogenboibgddaaaGreatDoor
open Go.RowKit
set_option linter.unusedVariables false

theorem bytes_none {t : ByteArray} (h : t.size = 0) : t = ⟨#[]⟩ := by
  obtain ⟨d⟩ := t
  have : d.size = 0 := h
  rw [Array.eq_empty_of_size_eq_zero this]

/-- a value of the pool -/
theorem pool_mvx {w : World} {v : Vl} {an : Option Addr} {nn cn : Nat} (hv : valB v = true) (hS : Strs w an nn cn v.names) (hl : v.names.length ≤ 1048576) (hz : ZS w an cn) (hi : I64 v.num) : MVx w v.num v.text an nn cn (poolV v) := by
  unfold poolV
  unfold valB at hv
  by_cases h1 : v.kind = 1
  · rw [if_pos h1] at hv ⊢
    simp only [Bool.and_eq_true, decide_eq_true_eq] at hv
    obtain ⟨⟨h2, h3⟩, h4⟩ := hv
    have h5 := List.eq_nil_of_length_eq_zero h4
    rw [h5] at hS
    refine ⟨⟨?_, bytes_none h3⟩, hS, Nat.zero_le _, hz⟩
    rcases h2 with q | q <;> rw [q] <;> rfl
  rw [if_neg h1] at hv ⊢
  by_cases h2 : v.kind = 2
  · rw [if_pos h2] at hv ⊢
    simp only [Bool.and_eq_true, decide_eq_true_eq] at hv
    obtain ⟨h3, h4⟩ := hv
    have h5 := List.eq_nil_of_length_eq_zero h4
    rw [h5] at hS
    exact ⟨⟨⟨rfl, hi⟩, bytes_none h3⟩, hS, Nat.zero_le _, hz⟩
  rw [if_neg h2] at hv ⊢
  by_cases h3 : v.kind = 3
  · rw [if_pos h3] at hv ⊢
    simp only [Bool.and_eq_true, decide_eq_true_eq] at hv
    obtain ⟨⟨_, h4⟩, h5⟩ := hv
    have h6 := List.eq_nil_of_length_eq_zero h5
    rw [h6] at hS
    exact ⟨⟨h4, rfl⟩, hS, Nat.zero_le _, hz⟩
  rw [if_neg h3] at hv ⊢
  by_cases h4 : v.kind = 4
  · rw [if_pos h4] at hv
    simp only [Bool.and_eq_true, decide_eq_true_eq] at hv
    obtain ⟨⟨_, h5⟩, h6⟩ := hv
    exact ⟨⟨h5, bytes_none h6⟩, hS, hl, hz⟩
  · rw [if_neg h4] at hv; cases hv

theorem topS_at {st : List Vv} {m : Nat} (h : st.length = m + 1) (hm : m < st.length) : topS st = st[m] := by
  rw [topS, List.getLast?_eq_getElem?, h, Nat.add_sub_cancel, List.getElem?_eq_getElem hm]; rfl

theorem underS_at {st : List Vv} {m : Nat} (h : st.length = m + 2) (hm : m < st.length) : underS st = st[m] := by
  rw [underS, h, Nat.add_sub_cancel, List.getD_eq_getElem?_getD, List.getElem?_eq_getElem hm]; rfl

/-- what the model's run stands on -/
structure RunM (w0 : World) (ap : Option Addr) (np cp ib io ni ci : Nat) (a1 : Option Addr) (n1 c1 : Nat) (a2 : Option Addr) (n2 c2 : Nat) (P : List Vl) (I : List Is1) (R : Rq) (S : Nat) (K : List (Option Vs)) : Prop where
  env : EnvM w0 ap np cp a1 n1 c1 a2 n2 c2 P R
  ins : Iss w0 (some ⟨ib, io, none⟩) ni ci I
  okI : ∀ i ∈ I, insB i = true
  len : P.length ≤ 4000 ∧ I.length ≤ 20000 ∧ S ≤ 600
  kst : Kst (P.map Vl.kind) S I 0 K

theorem EnvM.below {w w' : World} {B : Nat} {ap : Option Addr} {np cp : Nat} {a1 : Option Addr} {n1 c1 : Nat} {a2 : Option Addr} {n2 c2 : Nat} {P : List Vl} {R : Rq} (h : EnvM w ap np cp a1 n1 c1 a2 n2 c2 P R) (hb : Below B w w') (hB : w.heap.size ≤ B) : EnvM w' ap np cp a1 n1 c1 a2 n2 c2 P R :=
  ⟨h.pool.below hb hB, fun j hj b off e an nn cn hc => by
    obtain ⟨b2, off2, e2, hl, _⟩ := h.pool.cells j hj
    have e3 := e2.symm.trans e
    cases e3
    exact (h.nam j hj b off e an nn cn (by rw [← hb.cell (p := ⟨b, off + j * 4 + 3, none⟩) (by show b < B; omega)]; exact hc)).below hb hB, h.val, h.q1.below hb hB, h.q2.below hb hB, h.z1.below hb hB, h.z2.below hb hB, h.lim⟩

theorem below_kptM {w0 w w' : World} {lb : Nat} (h : Below w0.heap.size w0 w) (k : Kpt (fun k => k = lb) w w') (hl : w0.heap.size ≤ lb) : Below w0.heap.size w0 w' :=
  ⟨k.os.trans h.os, k.tape.trans h.tape, k.output.trans h.output, Nat.le_trans h.size k.size, fun q hq => (k.block q (Nat.lt_of_lt_of_le hq h.size) (by omega)).trans (h.block q hq)⟩

set_option maxHeartbeats 3200000 in
theorem l6run_any {w0 : World} {ap : Option Addr} {np cp ib io ni ci : Nat} {a1 : Option Addr} {n1 c1 : Nat} {a2 : Option Addr} {n2 c2 : Nat} {P : List Vl} {I : List Is1} {R : Rq} {S : Nat} {K : List (Option Vs)} (E : RunM w0 ap np cp ib io ni ci a1 n1 c1 a2 n2 c2 P I R S K) (s : Int) (lb : Nat) (hlb : w0.heap.size ≤ lb) :
    ∀ (f at_ : Nat) (st : List Vv) (sl : List (Option Vv)) (n pk : Nat) (v : Vs) (sa : Option Addr) (sc : Nat) (xs : List Value) (cs : Array Value) (w : World), I.length - at_ ≤ f → at_ < I.length → K.getD at_ none = some v → OkS v st sl → n ≤ at_ → pk ≤ 100 → st.length ≤ 100 → Below w0.heap.size w0 w → StO w 0 sa sc st xs → SlO w lb S sl cs →
    Calls Tryz.prog 22 #[.agg #[.slice ap np cp, .int .i64 s, .slice (some ⟨ib, io, none⟩) ni ci], .agg #[.string R.cl, .string R.us, .int .i64 R.lv, .int .i64 R.nw, .slice a1 n1 c1, .slice a2 n2 c2], .int .i64 at_, .slice sa st.length sc, .slice (some ⟨lb, 0, none⟩) S S, .agg #[.int .i64 0, .int .i64 0, .slice none 0 0, .int .i64 n, .int .i64 pk]] w (RnG w.heap.size lb (runR R P I f at_ st sl n pk) w) := by
  intro f
  induction f with
  | zero => intro at_ st sl n pk v sa sc xs cs w h1 h2; omega
  | succ f ih =>
    intro at_ st sl n pk v sa sc xs cs w hf hat hK hok hn hpk hst hb hO hL
    have hni : ni = I.length := E.ins.len.symm
    have hlen := E.len
    have hgi : I.getD at_ ⟨0, 0⟩ = I[at_] := by rw [List.getD_eq_getElem?_getD, List.getElem?_eq_getElem hat]; rfl
    obtain ⟨v', hk', hs0, hnx⟩ := E.kst at_ (Nat.zero_le _) hat
    rw [hK] at hk'
    cases hk'
    rw [hgi] at hs0 hnx
    obtain ⟨b, off, eb, hbl, i0, i1⟩ := (E.ins.below hb (Nat.le_refl _)).cells at_ hat
    cases eb
    have EM := E.env.below hb (Nat.le_refl _)
    have hin := E.okI _ (List.getElem_mem hat)
    have hslS : v.slots.length = S := by rw [← hok.2.1]; exact hL.len.2
    have hht := stepV_height hs0
    obtain ⟨hr, hp, ht, h3n, hbv⟩ := stepV_inv hs0
    have hlv : st.length = v.stack.length := by rw [← hok.1, List.length_map]
    have hsok := fun (h24 : I[at_].op ≠ 24) (h25 : I[at_].op ≠ 25) => stepR_ok (R := R) (P := P) (fun x hx => (E.env.val x hx).1) hin hs0 hslS hok h24 h25
    rw [runR, hgi]
    generalize hiq : I[at_] = i at *
    have hargs : 1 ≤ i.op ∧ i.op ≤ 25 ∧ (argB i.op = true → 0 ≤ i.arg) := by
      simp only [insB, Bool.and_eq_true, decide_eq_true_eq] at hin
      refine ⟨hin.1.1, hin.1.2, fun ha => ?_⟩
      rw [if_pos ha] at hin
      exact (by simpa using hin.2 : 0 ≤ i.arg ∧ i.arg ≤ 65535).1
    have hat2 : at_ < ni := by omega
    have hni2 : ni ≤ 20000 := by omega
    have hn2 : n ≤ 20000 := by omega
    -- what follows
    have GO : i.op ≠ 24 → i.op ≠ 25 → ∀ a st' sl', stepR R P i at_ st sl = .inr (a, st', sl') → ∀ x c ys ds w', Kpt (fun k => k = lb) w w' → StO w' 0 x c st' ys → SlO w' lb S sl' ds → Calls Tryz.prog 22 #[.agg #[.slice ap np cp, .int .i64 s, .slice (some ⟨ib, io, none⟩) ni ci], .agg #[.string R.cl, .string R.us, .int .i64 R.lv, .int .i64 R.nw, .slice a1 n1 c1, .slice a2 n2 c2], .int .i64 (a : Nat), .slice x st'.length c, .slice (some ⟨lb, 0, none⟩) S S, .agg #[.int .i64 0, .int .i64 0, .slice none 0 0, .int .i64 ((n + 1 : Nat) : Int), .int .i64 ((max pk st'.length : Nat) : Int)]] w' (RnG w'.heap.size lb (runR R P I f a st' sl' (n + 1) (max pk st'.length)) w') := by
      intro h24 h25 a st' sl' hs x c ys ds w' hk hO' hL'
      obtain ⟨ok', ha⟩ := hsok h24 h25 a st' sl' hs
      obtain ⟨ha1, ha2⟩ := hnx a ha
      have hgt := next_gt hs0 a ha
      have hl' : st'.length ≤ 100 := by have := ok'.1; rw [← List.length_map (f := Vv.ty), this]; exact hht
      exact ih a st' sl' (n + 1) (max pk st'.length) _ x c ys ds w' (by omega) ha1 ha2 ok' (by omega) (by omega) hl' (below_kptM hb hk hlb) hO' hL'
    by_cases h24 : i.op = 24
    · rw [if_pos h24]
      rw [h24] at i0
      exact m_deny ap np cp s ib io ni ci R a1 n1 c1 a2 n2 c2 at_ sa sc st xs st.length lb S sl cs n pk i.arg w rfl i0 i1 hbl hat2 hni2 hn2 hpk hst hO hL
    rw [if_neg h24]
    by_cases h25 : i.op = 25
    · rw [if_pos h25]
      rw [h25] at i0
      have hpo : popV i.op = 1 := by rw [popV, if_neg (by omega), if_pos (by omega)]
      obtain ⟨m, hm⟩ : ∃ m, st.length = m + 1 := ⟨st.length - 1, by omega⟩
      have hml : m < st.length := by omega
      have htp := topS_at hm hml
      have hne : st ≠ [] := fun e => by rw [e] at hm; simp at hm
      have hty : (topS st).ty = 4 := by
        rw [takesV, if_neg (by omega), if_neg (by omega), if_neg (by omega), if_pos h25, decide_eq_true_eq] at ht
        rw [← map_getLast st hne, hok.1]; exact ht
      obtain ⟨ss, hss⟩ := Vv.set_of hty
      rw [hss]
      rw [hm]
      exact m_grant ap np cp s ib io ni ci R a1 n1 c1 a2 n2 c2 at_ sa sc st xs m lb S sl cs n pk i.arg w hm i0 i1 hbl hat2 hni2 hn2 hpk (by omega) hO hL ss (fun h => by rw [← htp, hss])
    rw [if_neg h25]
    have GO2 := GO h24 h25
    clear GO hsok
    by_cases c1' : i.op = 1
    · have ha := hargs.2.2 (by simp [argB, c1'])
      simp only [rangeV, if_pos c1', List.length_map, decide_eq_true_eq] at hr
      have hlt : i.arg.toNat < P.length := by omega
      obtain ⟨pb, po, hap, hpb, an, nn, cn, v0, v1, v2, v3, hN⟩ := EM.pool.cells i.arg.toNat hlt
      have hz := EM.nam i.arg.toNat hlt pb po hap an nn cn v3
      have hv := E.env.val _ (List.getElem_mem hlt)
      have hsr : stepR R P i at_ st sl = .inr (at_ + 1, st ++ [poolV P[i.arg.toNat]], sl) := by
        rw [stepR, if_pos c1', List.getD_eq_getElem?_getD, List.getElem?_eq_getElem hlt]; rfl
      rw [c1'] at i0
      rw [hsr]
      exact m_push ap np cp s ib io ni ci R a1 n1 c1 a2 n2 c2 at_ sa sc st xs st.length lb S sl cs n pk i.arg _ w rfl i0 i1 hbl hat2 hni2 hn2 hpk hst hO hL pb po i.arg.toNat P[i.arg.toNat] an nn cn hap (by rw [← EM.pool.len]; exact hlt) (by have := EM.pool.len; omega) (by omega) hpb v0 v1 v2 v3 (pool_mvx hv.1 hN hv.2.1 hz hv.2.2) (GO2 _ _ _ hsr)
    by_cases c2' : i.op = 2
    · have ha := hargs.2.2 (by simp [argB, c2'])
      simp only [rangeV, if_neg c1', if_pos c2', decide_eq_true_eq] at hr
      have hsr : stepR R P i at_ st sl = .inr (at_ + 1, st ++ [attrV R i.arg], sl) := by rw [stepR, if_neg c1', if_pos c2']
      rw [c2'] at i0
      rw [hsr]
      exact m_attr ap np cp s ib io ni ci R a1 n1 c1 a2 n2 c2 at_ sa sc st xs st.length lb S sl cs n pk P i.arg _ w rfl i0 i1 hbl hat2 hni2 hn2 hpk hst hO hL ⟨ha, by omega⟩ EM (GO2 _ _ _ hsr)
    by_cases c3' : i.op = 3
    · have ha := hargs.2.2 (by simp [argB, c3'])
      simp only [rangeV, if_neg c1', if_neg c2', if_pos (Or.inl c3' : i.op = 3 ∨ i.op = 4), decide_eq_true_eq] at hr
      have hlt : i.arg.toNat < v.slots.length := by omega
      have hatv : atV v.slots i.arg = v.slots[i.arg.toNat] := by rw [atV, List.getD_eq_getElem?_getD, List.getElem?_eq_getElem hlt]; rfl
      rcases hok.2.2 _ hlt with h0 | ⟨u, hu1, hu2⟩
      · exact absurd ⟨c3', hatv.trans h0⟩ h3n
      · have hsr : stepR R P i at_ st sl = .inr (at_ + 1, st ++ [u], sl) := by rw [stepR, if_neg c1', if_neg c2', if_pos c3', hu1]; rfl
        rw [c3'] at i0
        rw [hsr]
        exact m_load ap np cp s ib io ni ci R a1 n1 c1 a2 n2 c2 at_ sa sc st xs st.length lb S sl cs n pk i.arg _ w rfl i0 i1 hbl hat2 hni2 hn2 hpk hst hO hL i.arg.toNat (by omega) hlen.2.2 (by omega) u hu1 (GO2 _ _ _ hsr)
    by_cases c4' : i.op = 4
    · have ha := hargs.2.2 (by simp [argB, c4'])
      simp only [rangeV, if_neg c1', if_neg c2', if_pos (Or.inr c4' : i.op = 3 ∨ i.op = 4), decide_eq_true_eq] at hr
      have hpo : popV i.op = 1 := by rw [popV, if_neg (by omega), if_pos (.inl c4')]
      obtain ⟨m, hm⟩ : ∃ m, st.length = m + 1 := ⟨st.length - 1, by omega⟩
      have hml : m < st.length := by omega
      have htp := topS_at hm hml
      have hsr : stepR R P i at_ st sl = .inr (at_ + 1, st.take m, sl.set i.arg.toNat (some (topS st))) := by
        rw [stepR, if_neg c1', if_neg c2', if_neg c3', if_pos c4', hm, Nat.add_sub_cancel]
      rw [c4'] at i0
      rw [hsr, hm]
      exact m_store ap np cp s ib io ni ci R a1 n1 c1 a2 n2 c2 at_ sa sc st xs m lb S sl cs n pk i.arg _ w hm i0 i1 hbl hat2 hni2 hn2 hpk (by omega) hO hL i.arg.toNat (by omega) hlen.2.2 (by omega) (topS st) (fun h => htp.symm) (GO2 _ _ _ hsr)
    by_cases c22 : i.op = 22
    · have ha := hargs.2.2 (by simp [argB, c22])
      have hsr : stepR R P i at_ st sl = .inr (i.arg.toNat, st, sl) := by rw [stepR, if_neg c1', if_neg c2', if_neg c3', if_neg c4', if_pos c22]
      rw [c22] at i0
      rw [hsr]
      refine m_jump ap np cp s ib io ni ci R a1 n1 c1 a2 n2 c2 at_ sa sc st xs st.length lb S sl cs n pk i.arg _ w rfl i0 i1 hbl hat2 hni2 hn2 hpk hst hO hL ?_
      have g := GO2 _ _ _ hsr
      rw [Int.toNat_of_nonneg ha] at g
      exact g
    by_cases c23 : i.op = 23
    · have ha := hargs.2.2 (by simp [argB, c23])
      have hpo : popV i.op = 1 := by rw [popV, if_neg (by omega), if_pos (by omega)]
      obtain ⟨m, hm⟩ : ∃ m, st.length = m + 1 := ⟨st.length - 1, by omega⟩
      have hml : m < st.length := by omega
      have htp := topS_at hm hml
      have hne : st ≠ [] := fun e => by rw [e] at hm; simp at hm
      have hty : (topS st).ty = 1 := by
        rw [takesV, if_neg (by omega), if_neg c4', if_pos c23, decide_eq_true_eq] at ht
        rw [← map_getLast st hne, hok.1]; exact ht
      obtain ⟨q, hq⟩ := Vv.bool_of hty
      rw [c23] at i0
      cases q with
      | true =>
        have hsr : stepR R P i at_ st sl = .inr (at_ + 1, st.take m, sl) := by
          rw [stepR, if_neg c1', if_neg c2', if_neg c3', if_neg c4', if_neg c22, if_pos c23, hq, hm, Nat.add_sub_cancel]
        rw [hsr, hm]
        exact m_unlessT ap np cp s ib io ni ci R a1 n1 c1 a2 n2 c2 at_ sa sc st xs m lb S sl cs n pk i.arg _ w hm i0 i1 hbl hat2 hni2 hn2 hpk (by omega) hO hL (fun h => by rw [← htp, hq]) (GO2 _ _ _ hsr)
      | false =>
        have hsr : stepR R P i at_ st sl = .inr (i.arg.toNat, st.take m, sl) := by
          rw [stepR, if_neg c1', if_neg c2', if_neg c3', if_neg c4', if_neg c22, if_pos c23, hq, hm, Nat.add_sub_cancel]
        rw [hsr, hm]
        refine m_unlessF ap np cp s ib io ni ci R a1 n1 c1 a2 n2 c2 at_ sa sc st xs m lb S sl cs n pk i.arg _ w hm i0 i1 hbl hat2 hni2 hn2 hpk (by omega) hO hL (fun h => by rw [← htp, hq]) ?_
        have g := GO2 _ _ _ hsr
        rw [Int.toNat_of_nonneg ha] at g
        exact g
    have hop : 5 ≤ i.op ∧ i.op ≤ 21 := by omega
    have hres : (resV i.op v.stack).isSome = true := by
      rw [takesV, if_neg (by omega), if_neg c4', if_neg c23, if_neg h25] at ht; exact ht
    obtain ⟨t, ht2⟩ := Option.isSome_iff_exists.1 hres
    have hstep : stepR R P i at_ st sl = match opS i.op st with
        | .err c => .inl c
        | .ok u => .inr (at_ + 1, st.take (st.length - popV i.op) ++ [u], sl) := by
      rw [stepR, if_neg c1', if_neg c2', if_neg c3', if_neg c4', if_neg c22, if_neg c23]
      cases opS i.op st <;> rfl
    unfold resV at ht2
    by_cases cp1 : i.op ≤ 7
    · have hpo : popV i.op = 1 := by rw [popV, if_neg (by omega), if_pos (by omega)]
      obtain ⟨m, hm⟩ : ∃ m, st.length = m + 1 := ⟨st.length - 1, by omega⟩
      have hml : m < st.length := by omega
      have htp := topS_at hm hml
      have hne : st ≠ [] := fun e => by rw [e] at hm; simp at hm
      rw [if_pos hpo, ← hok.1, map_getLast st hne, htp] at ht2
      have hty := opT_tyOp1 (by omega) (by omega) ht2
      have hos : opS i.op st = evUn (i.op + 3) st[m] := by rw [opS, if_pos hpo, htp]
      cases ho : opS i.op st with
      | err c =>
        rw [ho] at hstep hos
        rw [hstep, hm]
        exact m_op1e ap np cp s ib io ni ci R a1 n1 c1 a2 n2 c2 at_ sa sc st xs m lb S sl cs n pk i.arg i.op w hm i0 i1 hbl hat2 hni2 hn2 hpk (by omega) hO hL ⟨hop.1, cp1⟩ t (fun _ => hty) c (fun _ => hos.symm)
      | ok u =>
        rw [ho] at hstep hos
        rw [hpo, hm, Nat.add_sub_cancel] at hstep
        rw [hstep, hm]
        exact m_op1 ap np cp s ib io ni ci R a1 n1 c1 a2 n2 c2 at_ sa sc st xs m lb S sl cs n pk i.arg i.op _ w hm i0 i1 hbl hat2 hni2 hn2 hpk (by omega) hO hL ⟨hop.1, cp1⟩ t (fun _ => hty) u (fun _ => hos.symm) (GO2 _ _ _ hstep)
    · have hpo : popV i.op = 2 := by rw [popV, if_neg (by omega), if_neg (by omega)]
      have hpn : ¬ popV i.op = 1 := by omega
      obtain ⟨m, hm⟩ : ∃ m, st.length = m + 2 := ⟨st.length - 2, by omega⟩
      have hml : m + 1 < st.length := by omega
      have hml0 : m < st.length := by omega
      have htp := topS_at (m := m + 1) hm hml
      have hun := underS_at hm hml0
      have hne : st ≠ [] := fun e => by rw [e] at hm; simp at hm
      rw [if_neg hpn, ← hok.1, map_getLast st hne, map_under st (by omega), htp, hun] at ht2
      have hty := opT_tyOp2 (by omega) (by omega) ht2
      have hos : opS i.op st = evBin (i.op + 3) st[m] st[m + 1] := by rw [opS, if_neg hpn, htp, hun]
      cases ho : opS i.op st with
      | err c =>
        rw [ho] at hstep hos
        rw [hstep, hm]
        exact m_op2e ap np cp s ib io ni ci R a1 n1 c1 a2 n2 c2 at_ sa sc st xs m lb S sl cs n pk i.arg i.op w hm i0 i1 hbl hat2 hni2 hn2 hpk (by omega) hO hL ⟨by omega, hop.2⟩ t (fun _ _ => hty) c (fun _ _ => hos.symm)
      | ok u =>
        rw [ho] at hstep hos
        rw [hpo, hm, Nat.add_sub_cancel] at hstep
        rw [hstep, hm]
        exact m_op2 ap np cp s ib io ni ci R a1 n1 c1 a2 n2 c2 at_ sa sc st xs m lb S sl cs n pk i.arg i.op _ w hm i0 i1 hbl hat2 hni2 hn2 hpk (by omega) hO hL ⟨by omega, hop.2⟩ t (fun _ _ => hty) u (fun _ _ => hos.symm) (GO2 _ _ _ hstep)

end Go.Proofs.YtogenboibgddaaaGreatDoor

namespace Go.Proofs.YtogenboibgddaaaGreatDoor
open Go.RowKit
set_option linter.unusedVariables false

variable {aS aO aZ aW : Addr} {B mb lb : Nat} {ap : Option Addr} {np cp : Nat} {iv : Value} {a1 : Option Addr} {n1 c1 : Nat} {a2 : Option Addr} {n2 c2 : Nat} {s : Int} {R : Rq} {S : Nat} {at_ : Nat} {st : List Vv} {sl : List (Option Vv)} {sa : Option Addr} {sc : Nat} {xs ys : List Value} {w w0 : World} {P : List Vl}

set_option maxRecDepth 100000 in
set_option maxHeartbeats 6400000 in
theorem take_op23 (h : McO B mb lb (.slice ap np cp) iv (.slice a1 n1 c1) (.slice a2 n2 c2) s R S at_ st sl sa sc xs ys w) (hl : Below w0.heap.size w0 w) (hB : w0.heap.size ≤ B) (hn : st.length ≤ 100) (hat : at_ ≤ 20000) (k : Nat) (zs : List Vv) (b : Bool) (hz : st = zs ++ [.bool b]) :
    Calls Tryz.prog 55 #[.pointer (some ⟨mb, 0, none⟩), .agg #[.int .i64 23, .int .i64 k]] w (fun r w' => r = .returned .nilIface ∧ Behind B mb lb (.slice ap np cp) iv (.slice a1 n1 c1) (.slice a2 n2 c2) s R S (.slice sa st.length sc) (if b then (at_ : Int) + 1 else k) (zs) (sl) w w') := by
  have wk := wrap_at hat
  have CI := (Below.refl w.heap.size w).alloc (Nat.le_refl _) (.cells #[.int .i64 23, .int .i64 k] 87)
  have CJ := (Below.refl _ (w.setCell ⟨mb, 11, none⟩ (.int .i64 ((at_ : Int) + 1)))).alloc (Nat.le_refl _) (.cells #[.int .i64 23, .int .i64 k] 87)
  have M0 := (h.goto ((at_ : Int) + 1)).below CJ
  have e11 : (w.alloc (.cells #[.int .i64 23, .int .i64 k] 87)).cell? ⟨mb, 11, none⟩ = some (.int .i64 at_) := (h.below CI).row.cell 11
  have ef := fun j => (h.below CI).row.frozen j
  have hmb := h.row.lt
  have hBm := h.low.1
  have LX := (hl.setCell (p := ⟨mb, 11, none⟩) (by show w0.heap.size ≤ mb; omega) (.int .i64 ((at_ : Int) + 1))).alloc (by simpa using hl.size) (.cells #[.int .i64 23, .int .i64 k] 87)
  have KX : Kpt (ownM mb lb (.slice sa st.length sc)) w ((w.setCell ⟨mb, 11, none⟩ (.int .i64 ((at_ : Int) + 1))).alloc (.cells #[.int .i64 23, .int .i64 k] 87)) := Kpt.trans ((Kpt.refl _ w).setCell (p := ⟨mb, 11, none⟩) (fun _ => .inl rfl) (.int .i64 ((at_ : Int) + 1))) (Kpt.of_below (S := fun _ => False) CJ) (fun _ _ h => h.elim)
  have RI := Row.new (w.setCell ⟨mb, 11, none⟩ (.int .i64 ((at_ : Int) + 1))) #[.int .i64 23, .int .i64 k] 87
  simp only [World.size_setCell] at RI
  subst hz
  obtain ⟨ws, x, rfl, hwl, hx⟩ := M0.last
  obtain rfl : x = .iface 142 (.bool b) := hx
  have tmb := tm_bool
  have hzl : zs.length ≤ 100 := by simp at hn; omega
  have e9 : (zs ++ [Vv.bool b]).length = zs.length + 1 := by simp
  have HP := hide (show Row _ mb (mcV (.slice ap np cp) s iv R (.slice a1 n1 c1) (.slice a2 n2 c2) (.slice sa (zs.length + 1) sc) (.slice (some ⟨lb, 0, none⟩) S S) ((at_ : Int) + 1) 0 0 (.slice none 0 0)) 63 ∧ World.ownsRow _ B 138 1 (.slice sa (zs.length + 1) sc) (zs.length + 1) (ws ++ [.iface 142 (.bool b)]) from ⟨by have := M0.row; rw [e9] at this; exact this, by have := M0.stk; rw [e9] at this; exact this⟩)
  have HWL := hide hwl
  have HE9 := hide (show ∀ b, (zs ++ [Vv.bool b]).length = zs.length + 1 from fun b => by simp)
  clear hwl e9
  have HM := hide M0
  have HH := hide h
  clear h M0
  go_enter Tryz.func55, Tryz.ntmps55
  go_wp2_with fail
  generalize (w.setCell ⟨mb, 11, none⟩ (Value.int IntKind.i64 ((at_ : Int) + 1))).alloc (Obj.cells #[Value.int IntKind.i64 23, Value.int IntKind.i64 k] 87) = X at *
  refine (pop_any mb B zs.length sc _ _ _ _ _ _ _ _ _ _ _ sa ws _ _ _ (unhide HP).1 (unhide HP).2 (by omega)).mono ?_
  rintro r w2 ⟨rfl, R2, O2, K2⟩
  have M2 := (unhide HM).pop (unhide HWL) R2 O2 K2
  have ri := (RI.kpt K2 (by omega)).cell 1
  obtain ⟨g0, g1, g2, g3, g4, g5, g6, g7, g8, g9, g10, g11, g12, g13, g14⟩ := row15 R2
  have gf := fun j => R2.frozen j
  have HK := hide (KX.trans K2 (fun q _ h => .inl h))
  have HN := hide (show ∀ q, (Value.slice sa zs.length sc).ownBlock = some q → (Value.slice sa (zs ++ [Vv.bool b]).length sc).ownBlock = some q ∨ w.heap.size ≤ q from fun q hq => .inl ((own_any _ _ _ _ _).trans hq))
  cases b with
  | true =>
    dsimp only
    go_wp2_with fail
    go_ret
    refine ⟨rfl, sa, sc, ws, ys, M2, ?_, ?_⟩
    · have := unhide HK; rw [unhide HE9] at this; exact this
    · have := unhide HN; rw [unhide HE9] at this; exact this
  | false =>
    have HE := hide (M2.goto k)
    have HK2 := hide ((unhide HK).setCell (p := ⟨mb, 11, none⟩) (fun _ => .inl rfl) (.int .i64 k))
    dsimp only
    go_wp2_with fail
    go_ret
    refine ⟨rfl, sa, sc, ws, ys, unhide HE, ?_, ?_⟩
    · have := unhide HK2; rw [unhide HE9] at this; exact this
    · have := unhide HN; rw [unhide HE9] at this; exact this


end Go.Proofs.YtogenboibgddaaaGreatDoor

namespace Go.Proofs.YtogenboibgddaaaGreatDoor
open Go.RowKit
set_option linter.unusedVariables false

variable {aS aO aZ aW : Addr} {B mb lb : Nat} {ap : Option Addr} {np cp : Nat} {iv : Value} {a1 : Option Addr} {n1 c1 : Nat} {a2 : Option Addr} {n2 c2 : Nat} {s : Int} {R : Rq} {S : Nat} {at_ : Nat} {st : List Vv} {sl : List (Option Vv)} {sa : Option Addr} {sc : Nat} {xs ys : List Value} {w w0 : World} {P : List Vl}

/-- the machine stands still -/
def FinM (B mb lb : Nat) (pv iv q1 q2 : Value) (s : Int) (R : Rq) (S : Nat) (sa : Option Addr) (sc l n : Nat) (ko co : Int) (ss : List ByteArray) (w w' : World) : Prop := ∃ at' y cy, Row w' mb (mcV pv s iv R q1 q2 (.slice sa n sc) (.slice (some ⟨lb, 0, none⟩) S S) at' ko co (.slice y ss.length cy)) 63 ∧ w'.ownsRow w.heap.size 9 1 (.slice y ss.length cy) ss.length (ss.map Value.string) ∧ Kpt (ownM mb lb (.slice sa l sc)) w w'

/-- what lies behind an instruction -/
def TkA (aS aO aZ aW : Addr) (B mb lb : Nat) (pv iv q1 q2 : Value) (s : Int) (R : Rq) (S : Nat) (P : List Vl) (i : Is1) (at_ : Nat) (st : List Vv) (sl : List (Option Vv)) (sa : Option Addr) (sc : Nat) (ys : List Value) (w : World) (r : Ending) (w' : World) : Prop :=
  (i.op = 24 ∧ r = .returned .nilIface ∧ FinM B mb lb pv iv q1 q2 s R S sa sc st.length st.length 1 0 [] w w') ∨
  (i.op = 25 ∧ r = .returned .nilIface ∧ ∃ zs ss, st = zs ++ [.set ss] ∧ FinM B mb lb pv iv q1 q2 s R S sa sc st.length zs.length 2 0 ss w w') ∨
  ((i.op ≠ 24 ∧ i.op ≠ 25) ∧ ∃ c, stepR R P i at_ st sl = .inl c ∧ (r = .returned (errV aS aO aZ aW c) ∧ 1 ≤ c ∧ c ≤ 4) ∧ ∃ zs ws, zs.length ≤ st.length ∧ McO B mb lb pv iv q1 q2 s R S ((at_ : Int) + 1) zs sl sa sc ws ys w' ∧ Kpt (ownM mb lb (.slice sa st.length sc)) w w') ∨
  ((i.op ≠ 24 ∧ i.op ≠ 25) ∧ ∃ a st' sl', stepR R P i at_ st sl = .inr (a, st', sl') ∧ r = .returned .nilIface ∧ Behind B mb lb pv iv q1 q2 s R S (.slice sa st.length sc) a st' sl' w w')

theorem split_last {st : List Vv} (h : st ≠ []) : st = st.take (st.length - 1) ++ [topS st] := by
  have h0 : 0 < st.length := List.length_pos_iff.2 h
  have e : topS st = st[st.length - 1] := by rw [topS, List.getLast?_eq_getElem?, List.getElem?_eq_getElem (by omega)]; rfl
  have := List.take_succ_eq_append_getElem (l := st) (i := st.length - 1) (by omega)
  rw [show st.length - 1 + 1 = st.length by omega, List.take_length] at this
  rw [e]
  exact this

theorem split_two {st : List Vv} (h : 2 ≤ st.length) : st = st.take (st.length - 2) ++ [underS st] ++ [topS st] := by
  have h1 := split_last (st := st) (fun e => by rw [e] at h; exact absurd h (by decide))
  have e : underS st = st[st.length - 2] := by rw [underS, List.getD_eq_getElem?_getD, List.getElem?_eq_getElem (by omega)]; rfl
  have := List.take_succ_eq_append_getElem (l := st) (i := st.length - 2) (by omega)
  rw [show st.length - 2 + 1 = st.length - 1 by omega] at this
  rw [e, ← this]
  exact h1

/-- what the machine stands on -/
structure EnvR (w0 : World) (ap : Option Addr) (np cp : Nat) (a1 : Option Addr) (n1 c1 : Nat) (a2 : Option Addr) (n2 c2 : Nat) (P : List Vl) (R : Rq) (aS aO aZ aW : Addr) : Prop where
  pool : Vls w0 ap np cp P
  vals : ∀ x ∈ P, valB x = true ∧ x.names.length ≤ 1048576 ∧ I64 x.num
  q1 : Strs w0 a1 n1 c1 R.s1
  q2 : Strs w0 a2 n2 c2 R.s2
  nums : I64 R.lv ∧ I64 R.nw ∧ R.s1.length ≤ 1048576 ∧ R.s2.length ≤ 1048576
  sent : Sent w0 aS aO aZ aW
  tab : 7 < w0.heap.size ∧ ∀ k, w0.cell? ⟨7, k, none⟩ = binV[k]?

/-- what lies low is kept by the machine -/
theorem below_kpt {S : Nat → Prop} {w0 w w' : World} (h : Below w0.heap.size w0 w) (k : Kpt S w w') (hS : ∀ b, b < w0.heap.size → ¬ S b) : Below w0.heap.size w0 w' :=
  ⟨k.os.trans h.os, k.tape.trans h.tape, k.output.trans h.output, Nat.le_trans h.size k.size, fun b hb => (k.block b (Nat.lt_of_lt_of_le hb h.size) (hS b hb)).trans (h.block b hb)⟩

set_option maxHeartbeats 3200000 in
theorem take_any {M : Nat} {i : Is1} {v : Vs} (E : EnvR w0 ap np cp a1 n1 c1 a2 n2 c2 P R aS aO aZ aW) (h : McO B mb lb (.slice ap np cp) iv (.slice a1 n1 c1) (.slice a2 n2 c2) s R S at_ st sl sa sc xs ys w) (hl : Below w0.heap.size w0 w) (hB : w0.heap.size ≤ B) (hat : at_ ≤ 20000) (hi : insB i = true) (hstep : (stepV (P.map Vl.kind) S M at_ i v).1 = 0) (ho : OkS v st sl) (hS : v.slots.length = S) (hn : st.length ≤ 100) :
    Calls Tryz.prog 55 #[.pointer (some ⟨mb, 0, none⟩), .agg #[.int .i64 i.op, .int .i64 i.arg]] w (TkA aS aO aZ aW B mb lb (.slice ap np cp) iv (.slice a1 n1 c1) (.slice a2 n2 c2) s R S P i at_ st sl sa sc ys w) := by
  obtain ⟨hr, hp, ht, h3n, _⟩ := stepV_inv hstep
  have hlen : st.length = v.stack.length := by rw [← ho.1, List.length_map]
  have hb25 : 1 ≤ i.op ∧ i.op ≤ 25 ∧ (argB i.op = true → 0 ≤ i.arg) ∧ (argB i.op = false → i.arg = 0) := by
    simp only [insB, Bool.and_eq_true, decide_eq_true_eq] at hi
    refine ⟨hi.1.1, hi.1.2, fun ha => ?_, fun ha => ?_⟩
    · rw [if_pos ha] at hi
      exact (by simpa using hi.2 : 0 ≤ i.arg ∧ i.arg ≤ 65535).1
    · rw [ha] at hi
      simpa using hi.2
  obtain ⟨op, arg⟩ := i
  dsimp only at *
  by_cases k1' : op = 1
  · subst k1'
    have ha := hb25.2.2.1 (by simp [argB])
    obtain ⟨k, rfl⟩ := Int.eq_ofNat_of_zero_le ha
    simp [rangeV] at hr
    have hk : k < P.length := by omega
    refine (take_op1 (P := P) h hl hB hn hat k P[k] (List.getElem?_eq_getElem hk) E.pool (E.vals _ (List.getElem_mem hk))).mono ?_
    rintro r w' ⟨rfl, hbh⟩
    refine .inr (.inr (.inr ⟨by simp, _, _, _, ?_, rfl, hbh⟩))
    simp [stepR, hk]
  by_cases k2' : op = 2
  · subst k2'
    have ha := hb25.2.2.1 (by simp [argB])
    simp [rangeV] at hr
    refine (take_op2 h hl hB hn hat arg ⟨ha, hr⟩ E.q1 E.q2 E.nums).mono ?_
    rintro r w' ⟨rfl, hbh⟩
    refine .inr (.inr (.inr ⟨by simp, _, _, _, ?_, rfl, hbh⟩))
    simp [stepR]
  by_cases c3 : op = 3
  · subst c3
    have ha := hb25.2.2.1 (by simp [argB])
    obtain ⟨k, rfl⟩ := Int.eq_ofNat_of_zero_le ha
    simp [rangeV] at hr
    have hlt : k < v.slots.length := by omega
    have hat2 : atV v.slots (k : Int) = v.slots[k] := by rw [atV, Int.toNat_natCast, List.getD_eq_getElem?_getD, List.getElem?_eq_getElem hlt]; rfl
    rcases ho.2.2 k hlt with h0 | ⟨u, hu1, hu2⟩
    · exact absurd ⟨rfl, hat2.trans h0⟩ h3n
    · refine (take_op3 h hl hB hn hat k (by omega) u hu1).mono ?_
      rintro r w' ⟨rfl, hbh⟩
      refine .inr (.inr (.inr ⟨by simp, _, _, _, ?_, rfl, hbh⟩))
      have : (sl[k]?.getD none) = some u := by rw [← List.getD_eq_getElem?_getD]; exact hu1
      simp [stepR, this]
  by_cases c4 : op = 4
  · subst c4
    have ha := hb25.2.2.1 (by simp [argB])
    obtain ⟨k, rfl⟩ := Int.eq_ofNat_of_zero_le ha
    simp [rangeV] at hr
    have hne : st ≠ [] := fun e => by rw [e] at hlen; simp [popV] at hp; simp at hlen; omega
    refine (take_op4 h hl hB hn hat k (by omega) _ _ (split_last hne)).mono ?_
    rintro r w' ⟨rfl, hbh⟩
    refine .inr (.inr (.inr ⟨by simp, _, _, _, ?_, rfl, hbh⟩))
    simp [stepR]
  by_cases c22 : op = 22
  · subst c22
    have ha := hb25.2.2.1 (by simp [argB])
    obtain ⟨k, rfl⟩ := Int.eq_ofNat_of_zero_le ha
    refine (take_op22 h hl hB hn hat k).mono ?_
    rintro r w' ⟨rfl, hbh⟩
    refine .inr (.inr (.inr ⟨by simp, _, _, _, ?_, rfl, hbh⟩))
    simp [stepR]
  by_cases c23 : op = 23
  · subst c23
    have ha := hb25.2.2.1 (by simp [argB])
    obtain ⟨k, rfl⟩ := Int.eq_ofNat_of_zero_le ha
    have hne : st ≠ [] := fun e => by rw [e] at hlen; simp [popV] at hp; simp at hlen; omega
    have hty : (topS st).ty = 1 := by
      rw [← map_getLast st hne, ho.1]
      simpa [takesV] using ht
    obtain ⟨b, hb⟩ := Vv.bool_of hty
    have hsp := split_last hne
    rw [hb] at hsp
    refine (take_op23 h hl hB hn hat k _ b hsp).mono ?_
    rintro r w' ⟨rfl, hbh⟩
    cases b with
    | true =>
      refine .inr (.inr (.inr ⟨by simp, at_ + 1, st.take (st.length - 1), sl, ?_, rfl, hbh⟩))
      simp [stepR, hb]
    | false =>
      refine .inr (.inr (.inr ⟨by simp, k, st.take (st.length - 1), sl, ?_, rfl, hbh⟩))
      simp [stepR, hb]
  by_cases c24 : op = 24
  · subst c24
    obtain rfl : arg = 0 := hb25.2.2.2 (by simp [argB])
    refine (take_op24 h hl hB hn hat).mono ?_
    rintro r w' ⟨rfl, hR, hK⟩
    exact .inl ⟨rfl, rfl, _, none, 0, hR, World.ownsRow_nil _ _ _ _, hK⟩
  by_cases c25 : op = 25
  · subst c25
    obtain rfl : arg = 0 := hb25.2.2.2 (by simp [argB])
    have hne : st ≠ [] := fun e => by rw [e] at hlen; simp [popV] at hp; simp at hlen; omega
    have hty : (topS st).ty = 4 := by
      rw [← map_getLast st hne, ho.1]
      simpa [takesV] using ht
    obtain ⟨ss, hb⟩ := Vv.set_of hty
    have hsp := split_last hne
    rw [hb] at hsp
    refine (take_op25 h hl hB hn hat _ ss hsp).mono ?_
    rintro r w' ⟨rfl, y, cy, hR, hO, hK⟩
    exact .inr (.inl ⟨rfl, rfl, _, ss, hsp, _, y, cy, hR, hO, hK⟩)
  have hop : 5 ≤ op ∧ op ≤ 21 := by omega
  obtain rfl : arg = 0 := hb25.2.2.2 (by simp [argB]; omega)
  have hres : (resV op v.stack).isSome = true := by
    simpa [takesV, k1', k2', c3, c4, c22, c23, c24, c25] using ht
  obtain ⟨t, ht2⟩ := Option.isSome_iff_exists.1 hres
  have low : ∀ w1, Kpt (fun k => k = mb) w w1 → Below w0.heap.size w0 w1 := fun w1 k => below_kpt hl k (fun b hb e => by have := h.low.1; omega)
  have hsent : Hid (∀ w1, Kpt (fun k => k = mb) w w1 → Sent w1 aS aO aZ aW) := hide (fun w1 k => E.sent.below (low w1 k) (Nat.le_refl _))
  have htab : Hid (∀ w1, Kpt (fun k => k = mb) w w1 → 7 < w1.heap.size ∧ ∀ k, w1.cell? ⟨7, k, none⟩ = binV[k]?) := hide (fun w1 k => ⟨Nat.lt_of_lt_of_le E.tab.1 (low w1 k).size, fun j => ((low w1 k).cell (p := ⟨7, j, none⟩) E.tab.1).trans (E.tab.2 j)⟩)
  have fin : ∀ (zs : List Vv) (o : Ev) {r : Ending} {w' : World}, opS op st = o → zs = st.take (st.length - popV op) → OpA aS aO aZ aW B mb lb (.slice ap np cp) iv (.slice a1 n1 c1) (.slice a2 n2 c2) s R S (.slice sa st.length sc) ((at_ : Int) + 1) zs sl sa sc ys o w r w' → TkA aS aO aZ aW B mb lb (.slice ap np cp) iv (.slice a1 n1 c1) (.slice a2 n2 c2) s R S P ⟨op, 0⟩ at_ st sl sa sc ys w r w' := fun zs o r w' h1 h2 hA => by
    cases o with
    | ok u =>
      refine .inr (.inr (.inr ⟨⟨c24, c25⟩, at_ + 1, zs ++ [u], sl, ?_, hA.1, hA.2⟩))
      simp only [stepR, if_neg k1', if_neg k2', if_neg c3, if_neg c4, if_neg c22, if_neg c23, h1, h2]
    | err c =>
      obtain ⟨ws, hM⟩ := hA.2.1
      refine .inr (.inr (.inl ⟨⟨c24, c25⟩, c, ?_, hA.1, zs, ws, by rw [h2, List.length_take]; omega, hM, hA.2.2⟩))
      simp only [stepR, if_neg k1', if_neg k2', if_neg c3, if_neg c4, if_neg c22, if_neg c23, h1]
  by_cases cp : popV op = 1
  · have h57 : op ≤ 7 := by
      rw [popV, if_neg (by omega)] at cp
      by_cases q : op = 4 ∨ op = 5 ∨ op = 6 ∨ op = 7 ∨ op = 23 ∨ op = 25
      · omega
      · rw [if_neg q] at cp; cases cp
    have hne : st ≠ [] := fun e => by rw [e] at hlen; rw [cp, ← hlen] at hp; exact absurd hp (by decide)
    have hsp := split_last hne
    have hty : nz (tyOp (op + 3) [(topS st).ty]) = some t := by
      rw [resV, if_pos cp, ← ho.1, map_getLast st hne] at ht2
      exact opT_tyOp1 (by omega) (by omega) ht2
    refine (take_op (aS := aS) (aO := aO) (aZ := aZ) (aW := aW) h hl hB hn hat op hop (st.take (st.length - 1)) (evUn (op + 3) (topS st)) (by rw [List.length_take]; omega) (hide fun w1 k1 m1 => ?_)).mono (fun r w' hA => fin _ _ (by rw [opS, if_pos cp]) (by rw [cp]) hA)
    rw [hsp] at m1
    exact result_un (op + 3) (by omega) _ (st.take (st.length - 1)) (topS st) m1 (by rw [List.length_take]; omega) (hide ⟨t, hty⟩) (hide fun w2 k2 => unhide hsent w2 (k1.trans k2 (fun _ _ h => h))) (hide fun w2 k2 => unhide htab w2 (k1.trans k2 (fun _ _ h => h)))
  · have h8 : 8 ≤ op := by
      rcases Int.lt_or_le op 8 with q | q
      · exfalso; apply cp; rw [popV, if_neg (by omega), if_pos (by omega)]
      · exact q
    have hp2 : popV op = 2 := by rw [popV, if_neg (by omega), if_neg (by omega)]
    have h2 : 2 ≤ st.length := by omega
    have hne : st ≠ [] := fun e => by rw [e] at h2; exact absurd h2 (by decide)
    have hsp := split_two h2
    have hty : nz (tyOp (op + 3) [(underS st).ty, (topS st).ty]) = some t := by
      rw [resV, if_neg cp, ← ho.1, map_getLast st hne, map_under st h2] at ht2
      exact opT_tyOp2 (by omega) (by omega) ht2
    refine (take_op (aS := aS) (aO := aO) (aZ := aZ) (aW := aW) h hl hB hn hat op hop (st.take (st.length - 2)) (evBin (op + 3) (underS st) (topS st)) (by rw [List.length_take]; omega) (hide fun w1 k1 m1 => ?_)).mono (fun r w' hA => fin _ _ (by rw [opS, if_neg cp]) (by rw [hp2]) hA)
    rw [hsp] at m1
    exact result_bin (op + 3) (by omega) _ (st.take (st.length - 2)) (underS st) (topS st) m1 (by rw [List.length_take]; omega) (hide ⟨t, hty⟩) (hide fun w2 k2 => unhide hsent w2 (k1.trans k2 (fun _ _ h => h))) (hide fun w2 k2 => unhide htab w2 (k1.trans k2 (fun _ _ h => h)))

end Go.Proofs.YtogenboibgddaaaGreatDoor

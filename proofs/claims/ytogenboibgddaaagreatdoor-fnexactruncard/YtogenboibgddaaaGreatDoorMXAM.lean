/-
  RVW2, EZ3, EW1, REO, RWO. Own work.
-/
import Derived.Test.YtogenboibgddaaaGreatDoorMXAL
import Derived.Test.YtogenboibgddaaaGreatDoorMXAB
import Derived.Test.YtogenboibgddaaaGreatDoorMXAF
import Derived.Test.YtogenboibgddaaaGreatDoorMXAU
import Derived.Deep.Slices
import Derived.WalkKit
import Derived.ProofKit
import Derived.OpenShut
namespace Go.Proofs.YtogenboibgddaaaGreatDoor
open Go.RowKit
set_option linter.unusedVariables false

set_option maxRecDepth 100000 in
set_option maxHeartbeats 6400000 in
theorem m_store (ap : Option Addr) (np cp : Nat) (s : Int) (ib io ni ci : Nat) (R : Rq) (a1 : Option Addr) (n1 c1 : Nat) (a2 : Option Addr) (n2 c2 : Nat) (at_ : Nat) (sa : Option Addr) (sc : Nat) (st : List Vv) (xs : List Value) (m : Nat) (lb S : Nat) (sl : List (Option Vv)) (cs : Array Value) (n pk : Nat) (arg : Int) (X : Rn) (w : World) (hln : st.length = m + 1) (i0 : w.cell? ⟨ib, io + at_ * 2, none⟩ = some (.int .i64 4)) (i1 : w.cell? ⟨ib, io + at_ * 2 + 1, none⟩ = some (.int .i64 arg)) (hib : ib < w.heap.size) (hat : at_ < ni) (hni : ni ≤ 20000) (hn : n ≤ 20000) (hpk : pk ≤ 100) (hlen : m + 1 ≤ 100) (hO : StO w 0 sa sc st xs) (hL : SlO w lb S sl cs) (j : Nat) (hj : j < S) (hS6 : S ≤ 600) (harg : arg = (j : Int)) (tv : Vv) (htop : (h : m < st.length) → st[m] = tv) (HC : ∀ x c ys ds w', Kpt (fun k => k = lb) w w' → StO w' 0 x c (st.take m) ys → SlO w' lb S (sl.set j (some tv)) ds → Calls Tryz.prog 22 #[.agg #[.slice ap np cp, .int .i64 s, .slice (some ⟨ib, io, none⟩) ni ci], .agg #[.string R.cl, .string R.us, .int .i64 R.lv, .int .i64 R.nw, .slice a1 n1 c1, .slice a2 n2 c2], .int .i64 ((at_ : Int) + 1), .slice x (st.take m).length c, .slice (some ⟨lb, 0, none⟩) S S, .agg #[.int .i64 0, .int .i64 0, .slice none 0 0, .int .i64 ((n + 1 : Nat) : Int), .int .i64 ((max pk (st.take m).length : Nat) : Int)]] w' (RnG w'.heap.size lb X w')) :
    Calls Tryz.prog 22 #[.agg #[.slice ap np cp, .int .i64 s, .slice (some ⟨ib, io, none⟩) ni ci], .agg #[.string R.cl, .string R.us, .int .i64 R.lv, .int .i64 R.nw, .slice a1 n1 c1, .slice a2 n2 c2], .int .i64 at_, .slice sa (m + 1) sc, .slice (some ⟨lb, 0, none⟩) S S, .agg #[.int .i64 0, .int .i64 0, .slice none 0 0, .int .i64 n, .int .i64 pk]] w (RnG w.heap.size lb X w) := by
  subst harg
  have B4 := ((((Below.refl w.heap.size w).alloc (Nat.le_refl _) (.cells #[.slice ap np cp, .int .i64 s, .slice (some ⟨ib, io, none⟩) ni ci] 39)).alloc (by simp) (.cells #[.string R.cl, .string R.us, .int .i64 R.lv, .int .i64 R.nw, .slice a1 n1 c1, .slice a2 n2 c2] 41)).alloc (by simp; omega) (.cells #[.int .i64 0, .int .i64 0, .slice none 0 0, .int .i64 n, .int .i64 pk] 34)).alloc (by simp; omega) (.cells #[.int .i64 0, .int .i64 0, .slice none 0 0, .int .i64 0, .int .i64 0] 34)
  have d0 := (B4.cell (p := ⟨ib, io + at_ * 2, none⟩) hib).trans i0
  have d1 := (B4.cell (p := ⟨ib, io + at_ * 2 + 1, none⟩) hib).trans i1
  have B5 := ((((Below.refl w.heap.size w).alloc (Nat.le_refl _) (.cells #[.slice ap np cp, .int .i64 s, .slice (some ⟨ib, io, none⟩) ni ci] 39)).alloc (by simp) (.cells #[.string R.cl, .string R.us, .int .i64 R.lv, .int .i64 R.nw, .slice a1 n1 c1, .slice a2 n2 c2] 41)).alloc (by simp; omega) (.cells #[.int .i64 0, .int .i64 0, .slice none 0 0, .int .i64 ((n : Int) + 1), .int .i64 pk] 34)).alloc (by simp; omega) (.cells #[.int .i64 0, .int .i64 0, .slice none 0 0, .int .i64 0, .int .i64 0] 34) |>.alloc (by simp; omega) (.cells #[.int .i64 4, .int .i64 (j : Int)] 87)
  have RC := ((((Row.new w #[.slice ap np cp, .int .i64 s, .slice (some ⟨ib, io, none⟩) ni ci] 39).alloc (.cells #[.string R.cl, .string R.us, .int .i64 R.lv, .int .i64 R.nw, .slice a1 n1 c1, .slice a2 n2 c2] 41)).alloc (.cells #[.int .i64 0, .int .i64 0, .slice none 0 0, .int .i64 ((n : Int) + 1), .int .i64 pk] 34)).alloc (.cells #[.int .i64 0, .int .i64 0, .slice none 0 0, .int .i64 0, .int .i64 0] 34)).alloc (.cells #[.int .i64 4, .int .i64 (j : Int)] 87)
  have RR := (((Row.new (w.alloc (.cells #[.slice ap np cp, .int .i64 s, .slice (some ⟨ib, io, none⟩) ni ci] 39)) #[.string R.cl, .string R.us, .int .i64 R.lv, .int .i64 R.nw, .slice a1 n1 c1, .slice a2 n2 c2] 41).alloc (.cells #[.int .i64 0, .int .i64 0, .slice none 0 0, .int .i64 ((n : Int) + 1), .int .i64 pk] 34)).alloc (.cells #[.int .i64 0, .int .i64 0, .slice none 0 0, .int .i64 0, .int .i64 0] 34)).alloc (.cells #[.int .i64 4, .int .i64 (j : Int)] 87)
  have RT := ((Row.new ((w.alloc (.cells #[.slice ap np cp, .int .i64 s, .slice (some ⟨ib, io, none⟩) ni ci] 39)).alloc (.cells #[.string R.cl, .string R.us, .int .i64 R.lv, .int .i64 R.nw, .slice a1 n1 c1, .slice a2 n2 c2] 41)) #[.int .i64 0, .int .i64 0, .slice none 0 0, .int .i64 ((n : Int) + 1), .int .i64 pk] 34).alloc (.cells #[.int .i64 0, .int .i64 0, .slice none 0 0, .int .i64 0, .int .i64 0] 34)).alloc (.cells #[.int .i64 4, .int .i64 (j : Int)] 87)
  have RZ := (Row.new (((w.alloc (.cells #[.slice ap np cp, .int .i64 s, .slice (some ⟨ib, io, none⟩) ni ci] 39)).alloc (.cells #[.string R.cl, .string R.us, .int .i64 R.lv, .int .i64 R.nw, .slice a1 n1 c1, .slice a2 n2 c2] 41)).alloc (.cells #[.int .i64 0, .int .i64 0, .slice none 0 0, .int .i64 ((n : Int) + 1), .int .i64 pk] 34)) #[.int .i64 0, .int .i64 0, .slice none 0 0, .int .i64 0, .int .i64 0] 34).alloc (.cells #[.int .i64 4, .int .i64 (j : Int)] 87)
  have RI := Row.new ((((w.alloc (.cells #[.slice ap np cp, .int .i64 s, .slice (some ⟨ib, io, none⟩) ni ci] 39)).alloc (.cells #[.string R.cl, .string R.us, .int .i64 R.lv, .int .i64 R.nw, .slice a1 n1 c1, .slice a2 n2 c2] 41)).alloc (.cells #[.int .i64 0, .int .i64 0, .slice none 0 0, .int .i64 ((n : Int) + 1), .int .i64 pk] 34)).alloc (.cells #[.int .i64 0, .int .i64 0, .slice none 0 0, .int .i64 0, .int .i64 0] 34)) #[.int .i64 4, .int .i64 (j : Int)] 87
  simp only [World.size_alloc] at RR RT RZ RI
  have iat : (at_ : Int) < (ni : Int) := by omega
  have hO5 := hO.below B5 (Nat.le_refl _)
  have HL := hide (And.intro (hL.below B5 (Nat.le_refl _)) (And.intro hL.row.lt hL.len))
  have HB := hide B5
  have HN := hide (And.intro hlen (And.intro hpk hn))
  have HCC := hide HC
  have HLN := hide hln
  clear hO hL i0 i1 B5 HC hln
  go_enter Tryz.func22, Tryz.ntmps22
  go_wp2_with (at_builtin; refine append_stk rfl _ _ rfl w.heap.size 0 rfl sa (m + 1) sc st xs (unhide HLN) rfl hO5 (by omega) (by simp; omega) ?_)
  intro y yc w1 hS1 hb1
  have HS := hide hS1
  have Z1 : ((((((w.alloc (.cells #[.slice ap np cp, .int .i64 s, .slice (some ⟨ib, io, none⟩) ni ci] 39)).alloc (.cells #[.string R.cl, .string R.us, .int .i64 R.lv, .int .i64 R.nw, .slice a1 n1 c1, .slice a2 n2 c2] 41)).alloc (.cells #[.int .i64 0, .int .i64 0, .slice none 0 0, .int .i64 ((n : Int) + 1), .int .i64 pk] 34)).alloc (.cells #[.int .i64 0, .int .i64 0, .slice none 0 0, .int .i64 0, .int .i64 0] 34)).alloc (.cells #[.int .i64 4, .int .i64 (j : Int)] 87))).heap.size ≤ w.heap.size + 1 + 1 + 1 + 1 + 1 := by simp
  replace RC := RC.after hb1 Z1
  replace RR := RR.after hb1 Z1
  replace RT := RT.after hb1 Z1
  replace RZ := RZ.after hb1 Z1
  replace RI := RI.after hb1 Z1
  replace HL := hide (And.intro ((unhide HL).1.below hb1 Z1) (unhide HL).2)
  have HK := hide (show Kpt (fun k => k = lb) w w1 from Kpt.of_below ((unhide HB).trans (hb1.mono (by omega))))
  have HBw := hide ((unhide HB).trans (hb1.mono (by omega)))
  have LW : w.heap.size + 1 + 1 + 1 + 1 < w1.heap.size := RI.lt
  clear hO5 hS1 hb1 Z1 HB d0 d1 B4 iat hib hat hni hlen hn
  have lbl := (unhide HL).2.1
  obtain ⟨i0, i1⟩ := row2M RI
  obtain ⟨g, num, text, av, nv, cv, rfl, hgB, hg, e0, e1, e2, e3, hv⟩ := (unhide HS).at m (by rw [unhide HLN]; omega)
  have hcap : m + 1 ≤ yc := by have := (unhide HS).cap; rw [unhide HLN] at this; exact this
  rw [htop] at hv
  have LB := (unhide HL).1.row
  have hz := (unhide HL).1.len.1
  have ngl : g ≠ lb := by omega
  have lf := fun q => LB.frozen q
  obtain ⟨v0, w0e⟩ := someAt (cs := cs) (p := j * 4) (by omega)
  obtain ⟨v1, w1e⟩ := someAt (cs := cs) (p := j * 4 + 1) (by omega)
  obtain ⟨v2, w2e⟩ := someAt (cs := cs) (p := j * 4 + 2) (by omega)
  obtain ⟨v3, w3e⟩ := someAt (cs := cs) (p := j * 4 + 3) (by omega)
  have l0 := (LB.cell _).trans w0e
  have l1 := (LB.cell _).trans w1e
  have l2 := (LB.cell _).trans w2e
  have l3 := (LB.cell _).trans w3e
  have KP := pu4_kpt w1 lb (j * 4) (.int .i64 0) (.int .i64 num) (.string text) (.slice av nv cv)
  have hT : ∀ b cs, Row w1 b cs 9 → ¬ b = lb := fun b cs r => Row.ne r LB (by decide)
  have D := (Below.refl (pu4 w1 lb (j * 4) (.int .i64 0) (.int .i64 num) (.string text) (.slice av nv cv)).heap.size (pu4 w1 lb (j * 4) (.int .i64 0) (.int .i64 num) (.string text) (.slice av nv cv))).drew
  have S2 := (((unhide HS).kpt KP hT (fun q hq e => by cases hq; exact ngl e)).short m (by rw [unhide HLN]; omega)).below D (Nat.le_refl _)
  obtain ⟨ys, hys⟩ : ∃ ys, ys = xs.take (m * 4) := ⟨_, rfl⟩
  rw [← hys] at S2
  obtain ⟨ds, hds⟩ : ∃ ds, ds = pu4A cs (j * 4) (.int .i64 0) (.int .i64 num) (.string text) (.slice av nv cv) := ⟨_, rfl⟩
  have L2 := (unhide HL).1.set hj hv
  rw [← hds] at L2
  replace L2 := L2.below D (Nat.le_refl _)
  have hm : (st.take m).length = m := by rw [List.length_take, unhide HLN]; omega
  have icap : ((m : Nat) : Int) ≤ ((yc : Nat) : Int) := by omega
  have hmb := (unhide HN).1
  have ijs : (j : Int) < (S : Int) := by omega
  have KD := KP.trans (Kpt.of_below (S := fun k => k = lb) D) (fun q _ h => h)
  have K1 := (unhide HK).trans KD (fun q _ h => h)
  have RC2 := RC.kpt KD (by omega)
  have RR2 := RR.kpt KD (by omega)
  have RT2 := RT.kpt KD (by omega)
  have RZ2 := RZ.kpt KD (by omega)
  unfold pu4 at RC2 RR2 RT2 RZ2 K1
  replace HS : Hid (StO ((((w1.setCell ⟨lb, j * 4, none⟩ (.int .i64 0)).setCell ⟨lb, j * 4 + 1, none⟩ (.int .i64 num)).setCell ⟨lb, j * 4 + 2, none⟩ (.string text)).setCell ⟨lb, j * 4 + 3, none⟩ (.slice av nv cv)).drew w.heap.size (some ⟨g, 0, none⟩) yc (st.take m) ys) := hide S2
  have HSL : Hid (SlO ((((w1.setCell ⟨lb, j * 4, none⟩ (.int .i64 0)).setCell ⟨lb, j * 4 + 1, none⟩ (.int .i64 num)).setCell ⟨lb, j * 4 + 2, none⟩ (.string text)).setCell ⟨lb, j * 4 + 3, none⟩ (.slice av nv cv)).drew lb S (sl.set j (some tv)) ds) := hide L2
  replace HK := hide K1
  clear S2 L2 hys hds hv htop w0e w1e w2e w3e KP hT LB hz K1 RC RR RT RZ D KD
  go_wp2_with fail
  go_region
  generalize ((((w1.setCell ⟨lb, j * 4, none⟩ (.int .i64 0)).setCell ⟨lb, j * 4 + 1, none⟩ (.int .i64 num)).setCell ⟨lb, j * 4 + 2, none⟩ (.string text)).setCell ⟨lb, j * 4 + 3, none⟩ (.slice av nv cv)).drew = w2 at *
  have RC := RC2
  have RR := RR2
  have RT := RT2
  have RZ := RZ2
  clear RC2 RR2 RT2 RZ2 l0 l1 l2 l3 lf e0 e1 e2 e3
  obtain ⟨k0, k1, k2⟩ := row3M RC
  obtain ⟨r0, r1, r2, r3, r4, r5⟩ := row6M RR
  obtain ⟨t0, t1, t2, t3, t4⟩ := row5M RT
  have tf := fun j => RT.frozen j
  by_cases hpp : pk < m
  · have ilt : (pk : Int) < ((m : Nat) : Int) := by omega
    have HC2 : Hid (Calls Tryz.prog 22 #[.agg #[.slice ap np cp, .int .i64 s, .slice (some ⟨ib, io, none⟩) ni ci], .agg #[.string R.cl, .string R.us, .int .i64 R.lv, .int .i64 R.nw, .slice a1 n1 c1, .slice a2 n2 c2], .int .i64 ((at_ : Int) + 1), .slice (some ⟨g, 0, none⟩) (m) yc, .slice (some ⟨lb, 0, none⟩) S S, .agg #[.int .i64 0, .int .i64 0, .slice none 0 0, .int .i64 ((n : Int) + 1), .int .i64 (m : Nat)]] (w2.setCell ⟨w.heap.size + 1 + 1, 4, none⟩ (.int .i64 (m : Nat))) (RnG (w2.setCell ⟨w.heap.size + 1 + 1, 4, none⟩ (.int .i64 (m : Nat))).heap.size lb X (w2.setCell ⟨w.heap.size + 1 + 1, 4, none⟩ (.int .i64 (m : Nat))))) := hide (by
        have h := unhide HCC (some ⟨g, 0, none⟩) yc ys ds (w2.setCell ⟨w.heap.size + 1 + 1, 4, none⟩ (.int .i64 (m : Nat))) ((unhide HK).setCell (p := ⟨w.heap.size + 1 + 1, 4, none⟩) (fun h => absurd h (by simp; omega)) (.int .i64 (m : Nat))) (((unhide HS).low (Nat.zero_le _)).setR RT (by decide) (by decide) 4 _) ((unhide HSL).setR RT (by decide) (by decide) 4 _)
        rw [hm, Nat.max_eq_right (Nat.le_of_lt hpp)] at h
        exact h)
    replace RC := RC.setFar (p := ⟨w.heap.size + 1 + 1, 4, none⟩) (by show w.heap.size ≠ w.heap.size + 1 + 1; omega) (.int .i64 (m : Nat))
    replace RR := RR.setFar (p := ⟨w.heap.size + 1 + 1, 4, none⟩) (by show w.heap.size + 1 ≠ w.heap.size + 1 + 1; omega) (.int .i64 (m : Nat))
    replace RZ := RZ.setFar (p := ⟨w.heap.size + 1 + 1, 4, none⟩) (by show w.heap.size + 1 + 1 + 1 ≠ w.heap.size + 1 + 1; omega) (.int .i64 (m : Nat))
    have HKK := (unhide HK).setCell (p := ⟨w.heap.size + 1 + 1, 4, none⟩) (fun h => absurd h (by simp; omega)) (.int .i64 (m : Nat))
    clear HK
    have HM := hide hm
    clear HCC HS HSL RT hm hpp
    go_wp2_with fail
    refine (unhide HC2).mono ?_
    rintro r w5 ⟨⟨x, cx, rfl, OO⟩, k5, hsz⟩
    have HSZ := hide hsz
    have RZ5 := RZ.kpt k5 (by omega)
    obtain ⟨o0, o1, o2, o3, o4⟩ := row5M RZ5
    have of := fun j => RZ5.frozen j
    obtain ⟨p0, p1, p2, p3, p4⟩ := row5M (set5 RZ5 (.int .i64 X.out.1) (.int .i64 X.out.2.1) (.slice x X.out.2.2.length cx) (.int .i64 X.steps) (.int .i64 X.peak))
    have HKE := hide (kpt5 (b := w.heap.size + 1 + 1 + 1) (HKK.trans k5 (fun q _ h => h)) (by omega) (.int .i64 X.out.1) (.int .i64 X.out.2.1) (.slice x X.out.2.2.length cx) (.int .i64 X.steps) (.int .i64 X.peak))
    have ne : ∀ q, (Value.slice x X.out.2.2.length cx).ownBlock = some q → q ≠ w.heap.size + 1 + 1 + 1 := fun q hq h => own_ne_row RZ5 OO (by decide) (by rw [hq, h])
    have OE := hide (own5 OO ne (.int .i64 X.out.1) (.int .i64 X.out.2.1) (.slice x X.out.2.2.length cx) (.int .i64 X.steps) (.int .i64 X.peak))
    have LE := hide (show w.heap.size ≤ (w2.setCell ⟨w.heap.size + 1 + 1, 4, none⟩ (.int .i64 (m : Nat))).heap.size by have := HKK.size; simp at this ⊢; omega)
    clear RC RR RZ RI HKK k5 OO ne HC2 hsz k0 k1 k2 r0 r1 r2 r3 r4 r5 RZ5
    dsimp only
    go_wp2_with fail
    refine bodyPost_ret (v := .agg #[.int .i64 X.out.1, .int .i64 X.out.2.1, .slice x X.out.2.2.length cx, .int .i64 X.steps, .int .i64 X.peak]) (by simp [results, Tryz.results22, go_sem, p0, p1, p2, p3, p4]) rfl ?_
    exact ⟨⟨x, cx, rfl, own_lowM (unhide OE) (unhide LE)⟩, unhide HKE, unhide HSZ⟩
  · have ilt : ¬ ((pk : Int) < ((m : Nat) : Int)) := by omega
    have HC2 : Hid (Calls Tryz.prog 22 #[.agg #[.slice ap np cp, .int .i64 s, .slice (some ⟨ib, io, none⟩) ni ci], .agg #[.string R.cl, .string R.us, .int .i64 R.lv, .int .i64 R.nw, .slice a1 n1 c1, .slice a2 n2 c2], .int .i64 ((at_ : Int) + 1), .slice (some ⟨g, 0, none⟩) (m) yc, .slice (some ⟨lb, 0, none⟩) S S, .agg #[.int .i64 0, .int .i64 0, .slice none 0 0, .int .i64 ((n : Int) + 1), .int .i64 pk]] (w2) (RnG (w2).heap.size lb X (w2))) := hide (by
        have h := unhide HCC (some ⟨g, 0, none⟩) yc ys ds (w2) (unhide HK) ((unhide HS).low (Nat.zero_le _)) (unhide HSL)
        rw [hm, Nat.max_eq_left (Nat.le_of_not_lt hpp)] at h
        exact h)
    have HKK := unhide HK
    clear HK
    have HM := hide hm
    clear HCC HS HSL RT hm hpp
    go_wp2_with fail
    refine (unhide HC2).mono ?_
    rintro r w5 ⟨⟨x, cx, rfl, OO⟩, k5, hsz⟩
    have HSZ := hide hsz
    have RZ5 := RZ.kpt k5 (by omega)
    obtain ⟨o0, o1, o2, o3, o4⟩ := row5M RZ5
    have of := fun j => RZ5.frozen j
    obtain ⟨p0, p1, p2, p3, p4⟩ := row5M (set5 RZ5 (.int .i64 X.out.1) (.int .i64 X.out.2.1) (.slice x X.out.2.2.length cx) (.int .i64 X.steps) (.int .i64 X.peak))
    have HKE := hide (kpt5 (b := w.heap.size + 1 + 1 + 1) (HKK.trans k5 (fun q _ h => h)) (by omega) (.int .i64 X.out.1) (.int .i64 X.out.2.1) (.slice x X.out.2.2.length cx) (.int .i64 X.steps) (.int .i64 X.peak))
    have ne : ∀ q, (Value.slice x X.out.2.2.length cx).ownBlock = some q → q ≠ w.heap.size + 1 + 1 + 1 := fun q hq h => own_ne_row RZ5 OO (by decide) (by rw [hq, h])
    have OE := hide (own5 OO ne (.int .i64 X.out.1) (.int .i64 X.out.2.1) (.slice x X.out.2.2.length cx) (.int .i64 X.steps) (.int .i64 X.peak))
    have LE := hide (show w.heap.size ≤ (w2).heap.size by have := HKK.size; simp at this ⊢; omega)
    clear RC RR RZ RI HKK k5 OO ne HC2 hsz k0 k1 k2 r0 r1 r2 r3 r4 r5 RZ5
    dsimp only
    go_wp2_with fail
    refine bodyPost_ret (v := .agg #[.int .i64 X.out.1, .int .i64 X.out.2.1, .slice x X.out.2.2.length cx, .int .i64 X.steps, .int .i64 X.peak]) (by simp [results, Tryz.results22, go_sem, p0, p1, p2, p3, p4]) rfl ?_
    exact ⟨⟨x, cx, rfl, own_lowM (unhide OE) (unhide LE)⟩, unhide HKE, unhide HSZ⟩

end Go.Proofs.YtogenboibgddaaaGreatDoor

namespace Go.Proofs.YtogenboibgddaaaGreatDoor
open Go.RowKit
set_option linter.unusedVariables false

set_option maxHeartbeats 800000 in
theorem toIns_any (s : Is1) (w : World) :
    Calls Tryz.prog 49 #[.agg #[.int .i64 s.op, .int .i64 s.arg]] w fun e w' => e = .returned (.agg #[.int .i64 s.op, .int .i64 s.arg]) ∧ Below w.heap.size w w' := by
  go_enter Tryz.func49, Tryz.ntmps49
  go_wp2_with fail
  refine bodyPost_ret (v := .agg #[.int .i64 s.op, .int .i64 s.arg]) (by simp [results, Tryz.results49, go_sem]) rfl ⟨rfl, ?_⟩
  exact (((Below.refl w.heap.size w).alloc (Nat.le_refl _) _).alloc (by simp) _).alloc (by simp; omega) _

def pu2A (cs : Array Value) (p : Nat) (v0 v1 : Value) : Array Value := (cs.setIfInBounds p v0).setIfInBounds (p + 1) v1

theorem pu2A_size (cs : Array Value) (p : Nat) (v0 v1 : Value) : (pu2A cs p v0 v1).size = cs.size := by simp [pu2A]

theorem pu2A_at {cs : Array Value} {p : Nat} (h : p + 2 ≤ cs.size) (v0 v1 : Value) : (pu2A cs p v0 v1)[p]? = some v0 ∧ (pu2A cs p v0 v1)[p + 1]? = some v1 := by
  unfold pu2A
  refine ⟨?_, ?_⟩ <;> simp [Array.getElem?_setIfInBounds] <;> omega

theorem pu2A_ne {cs : Array Value} {p q : Nat} (h : q < p) (v0 v1 : Value) : (pu2A cs p v0 v1)[q]? = cs[q]? := by
  unfold pu2A
  rw [Array.getElem?_setIfInBounds_ne (by omega), Array.getElem?_setIfInBounds_ne (by omega)]

/-- an instruction that lies in the row already -/
def InX (cs : Array Value) (o : Nat) (s : Is1) : Prop := cs[o]? = some (.int .i64 s.op) ∧ cs[o + 1]? = some (.int .i64 s.arg)

theorem InX.step {cs : Array Value} {o p : Nat} {s : Is1} (h : InX cs o s) (hp : o + 2 ≤ p) (v0 v1 : Value) : InX (pu2A cs p v0 v1) o s :=
  ⟨(pu2A_ne (by omega) _ _).trans h.1, (pu2A_ne (by omega) _ _).trans h.2⟩

/-- copied instructions -/
def HiI (w : World) (g m : Nat) (L : List Is1) : Prop := ∃ cs, Row w g cs 87 ∧ cs.size = m * 2 ∧ ∀ j, (hj : j < L.length) → InX cs (j * 2) L[j]

theorem HiI.iss {w : World} {g m : Nat} {L : List Is1} (h : HiI w g m L) (hl : L.length = m) (hsm : m ≤ 1048576) : Iss w (some ⟨g, 0, none⟩) m m L := by
  obtain ⟨cs, R, _, hx⟩ := h
  refine ⟨hl, hsm, fun j hj => ⟨g, 0, rfl, R.lt, ?_⟩⟩
  rw [Nat.zero_add]
  exact ⟨(R.cell _).trans (hx j hj).1, (R.cell _).trans (hx j hj).2⟩

theorem HiI.below {w w' : World} {B g m : Nat} {L : List Is1} (h : HiI w g m L) (hb : Below B w w') (hB : w.heap.size ≤ B) : HiI w' g m L := by
  obtain ⟨cs, R, hz, hx⟩ := h
  exact ⟨cs, R.after hb hB, hz, hx⟩

theorem HiI.setFar {w : World} {g m : Nat} {L : List Is1} (h : HiI w g m L) {p : Addr} (hp : p.block ≠ g) (u : Value) : HiI (w.setCell p u) g m L := by
  obtain ⟨cs, R, hz, hx⟩ := h
  exact ⟨cs, R.setFar (fun e => hp e.symm) u, hz, hx⟩

set_option maxRecDepth 100000 in
set_option maxHeartbeats 1600000 in
theorem toInsS_any (a : Option Addr) (n c : Nat) (N : List Is1) (w : World) (h : IssR w a n c N) (hsm : n ≤ 1048576) :
    Calls Tryz.prog 24 #[.slice a n c] w fun e w' => e = .returned (.slice (some ⟨w.heap.size, 0, none⟩) n n) ∧ Below w.heap.size w w' ∧ HiI w' w.heap.size n N := by
  obtain ⟨i, hi, hz0, hz1, hz2⟩ := info_parts infoIn
  have Hl := hide h.len
  go_enter Tryz.func24, Tryz.ntmps24
  go_wp2_with (at_make; refine wpList_make_full _ rfl _ _ 37 rfl w.heap.size 87 i (.agg #[.int .i64 0, .int .i64 0]) 2 Tryz.underlying37 hi hz0 hz1 _ _ _ _ n rfl rfl rfl rfl ?b2 ?b3 ?b4 ?_)
  case b2 => rw [hz2]; omega
  case b3 => unfold maxLen; omega
  case b4 => exact Nat.le_refl _
  intro w1 hown hgrow
  have hb1 : Below w.heap.size w w1 := (Below.refl _ _).grown hgrow (Nat.le_refl _) (fun k hk => by cases hk)
  clear hgrow
  obtain ⟨cs1, R1, hz⟩ := rowOf hown
  clear hown
  go_wp2_with fail
  go_loopw [4] (fun i wr => ∃ (k : Nat) (cs : Array Value), k ≤ n ∧ i = .int .i64 k ∧ Row wr w.heap.size cs 87 ∧ cs.size = n * 2 ∧ Below w.heap.size w wr ∧ Hid (∀ j, (hj : j < N.length) → j < k → InX cs (j * 2) N[j])) (fun i _ => n - (intOf i).toNat)
  case atStart => exact ⟨0, cs1, Nat.zero_le _, rfl, R1, hz, hb1, hide (fun j _ h => absurd h (by omega))⟩
  case round =>
    obtain ⟨k, cs, hk, rfl, R2, hz2, B2, Ha⟩ := hrel
    clear R1 hb1
    by_cases hlt : k < n
    · have ilt : (k : Int) < (n : Int) := by omega
      have hkl : k < N.length := by rw [unhide Hl]; exact hlt
      obtain ⟨b, off, rfl, hbl, c0, c1⟩ := (h.below B2 (Nat.le_refl _)).cells k hkl
      have hgl := R2.lt
      have HY := hide (fun (v0 v1 : Value) (e : InX (pu2A cs (k * 2) v0 v1) (k * 2) N[k]) => show ∀ j, (hj : j < N.length) → j < k + 1 → InX (pu2A cs (k * 2) v0 v1) (j * 2) N[j] from fun j hj h' => by
        by_cases ej : j = k
        · subst ej; exact e
        · exact (unhide Ha j hj (by omega)).step (by omega) _ _)
      have Hlt := hide hlt
      have Hh := hide h
      clear Ha h
      generalize N[k] = x at c0 c1 HY
      obtain ⟨u0, e0⟩ := someAt (cs := cs) (p := k * 2) (by omega)
      obtain ⟨u1, e1⟩ := someAt (cs := cs) (p := k * 2 + 1) (by omega)
      have HE := hide (And.intro e0 e1)
      clear e0 e1
      go_wp2_with (go_at_call 49; refine (toIns_any x _).mono ?_; rintro e w2 ⟨rfl, hb2⟩; have R3 := R2.after hb2 (Nat.le_refl _); have f3 := (fun j => R3.frozen j); have d0 := (R3.cell _).trans (unhide HE).1; have d1 := (R3.cell _).trans (unhide HE).2)
      have E2 := B2.trans (hb2.mono B2.size)
      refine ⟨⟨k + 1, _, unhide Hlt, by go_num, (R3.set (k * 2) _).set (k * 2 + 1) _, (pu2A_size cs (k * 2) _ _).trans hz2, (E2.setCell (p := ⟨w.heap.size, k * 2, none⟩) (Nat.le_refl _) _).setCell (p := ⟨w.heap.size, k * 2 + 1, none⟩) (Nat.le_refl _) _, hide (unhide HY _ _ (pu2A_at (by omega) _ _))⟩, by have := unhide Hlt; simp [intOf]; omega⟩
    · have HX := hide (show HiI wr w.heap.size n N from ⟨cs, R2, hz2, fun j hj => unhide Ha j hj (by have := unhide Hl; omega)⟩)
      clear Ha
      have e : k = n := by omega
      have ilt : ¬ ((k : Int) < (n : Int)) := by omega
      go_wp2_with fail
      go_ret
      exact ⟨rfl, B2, unhide HX⟩

/-- all values in a row, their names behind it, all ahead of hi -/
def HiB (w : World) (g hi n : Nat) (N : List Vl) : Prop := g < hi ∧ ∃ (cs : Array Value) (qf : Nat → Nat), Row w g cs 88 ∧ cs.size = n * 4 ∧ (∀ j, (hj : j < N.length) → VlX w g cs (j * 4) (qf j) N[j]) ∧ (∀ i j, i < j → j < N.length → qf i < qf j) ∧ ∀ j, j < N.length → qf j < hi

theorem HiV.bound {w : World} {g n : Nat} {N : List Vl} (h : HiV w g n N) : HiB w g w.heap.size n N := by
  obtain ⟨cs, qf, R, hz, hx, hq⟩ := h
  exact ⟨R.lt, cs, qf, R, hz, hx, hq, fun j hj => (hx j hj).q.2⟩

theorem HiB.hiV {w : World} {g hi n : Nat} {N : List Vl} (h : HiB w g hi n N) : HiV w g n N := by
  obtain ⟨_, cs, qf, R, hz, hx, hq, _⟩ := h
  exact ⟨cs, qf, R, hz, hx, hq⟩

theorem HiB.below {w w' : World} {B g hi n : Nat} {N : List Vl} (h : HiB w g hi n N) (hb : Below B w w') (hB : w.heap.size ≤ B) : HiB w' g hi n N := by
  obtain ⟨hg, cs, qf, R, hz, hx, hq, hh⟩ := h
  refine ⟨hg, cs, qf, R.after hb hB, hz, fun j hj => ?_, hq, hh⟩
  obtain ⟨nn, c0, c1, c2, c3, hN⟩ := hx j hj
  exact ⟨nn, c0, c1, c2, c3, own_below hN hb hB⟩

theorem HiB.setLow {w : World} {g hi n : Nat} {N : List Vl} (h : HiB w g hi n N) {p : Addr} (hp : p.block < g) (u : Value) : HiB (w.setCell p u) g hi n N := by
  obtain ⟨hg, cs, qf, R, hz, hx, hq, hh⟩ := h
  refine ⟨hg, cs, qf, R.setFar (by omega) u, hz, fun j hj => ?_, hq, hh⟩
  have hqq := (hx j hj).q
  obtain ⟨nn, c0, c1, c2, c3, hN⟩ := hx j hj
  exact ⟨nn, c0, c1, c2, c3, own_setFar hN (by omega) u⟩

set_option maxRecDepth 100000 in
set_option maxHeartbeats 1600000 in
theorem toCode_any (a b : Option Addr) (n c m d : Nat) (s : Int) (N : List Vl) (L : List Is1) (w : World) (h1 : VlsR w a n c N) (h2 : IssR w b m d L) (hs : smallC n m N) :
    Calls Tryz.prog 7 #[.agg #[.slice a n c, .int .i64 s, .slice b m d]] w fun e w' => ∃ g1 g2, e = .returned (.agg #[.slice (some ⟨g1, 0, none⟩) n n, .int .i64 s, .slice (some ⟨g2, 0, none⟩) m m]) ∧ w.heap.size ≤ g1 ∧ w.heap.size ≤ g2 ∧ HiB w' g1 g2 n N ∧ HiI w' g2 m L ∧ Below w.heap.size w w' := by
  go_enter Tryz.func7, Tryz.ntmps7
  go_wp2_with fail
  have B0 := ((((Below.refl w.heap.size w).alloc (Nat.le_refl _) (.cells #[.slice a n c, .int .i64 s, .slice b m d] 25)).alloc (by simp) (.cells #[.slice none 0 0, .int .i64 0, .slice none 0 0] 39)).alloc (by simp; omega) (.cells #[.slice none 0 0, .int .i64 0, .slice none 0 0] 39))
  have R0 := ((Row.new w #[.slice a n c, .int .i64 s, .slice b m d] 25).alloc (.cells #[.slice none 0 0, .int .i64 0, .slice none 0 0] 39)).alloc (.cells #[.slice none 0 0, .int .i64 0, .slice none 0 0] 39)
  have R1 := (Row.new (w.alloc (.cells #[.slice a n c, .int .i64 s, .slice b m d] 25)) #[.slice none 0 0, .int .i64 0, .slice none 0 0] 39).alloc (.cells #[.slice none 0 0, .int .i64 0, .slice none 0 0] 39)
  have R2 := Row.new ((w.alloc (.cells #[.slice a n c, .int .i64 s, .slice b m d] 25)).alloc (.cells #[.slice none 0 0, .int .i64 0, .slice none 0 0] 39)) #[.slice none 0 0, .int .i64 0, .slice none 0 0] 39
  simp only [World.size_alloc] at R1 R2
  refine (toValueS_any _ _ _ _ _ (h1.below B0 (Nat.le_refl _)) hs.1.1 hs.1.2.1).mono ?_
  rintro e w1 ⟨rfl, hb1, ho1⟩
  have B1 := B0.trans (hb1.mono (by simp; omega))
  have r0 := R0.after hb1 (Nat.le_refl _)
  have r1 := R1.after hb1 (Nat.le_refl _)
  have r2 := R2.after hb1 (Nat.le_refl _)
  have z1 := hb1.size
  simp only [World.size_alloc] at z1 ho1
  clear B0 R0 R1 R2 hb1
  have q0 := r0.cell 1
  have q2 := r0.cell 2
  have p0 := r2.cell 0
  have p1 := r2.cell 1
  have f2 := fun j => r2.frozen j
  simp only [List.getElem?_toArray, List.getElem?_cons_succ, List.getElem?_cons_zero] at q0 q2 p0 p1
  go_wp2_with fail
  have B2 := (B1.setCell (p := ⟨w.heap.size + 1 + 1, 0, none⟩) (by show w.heap.size ≤ w.heap.size + 1 + 1; omega) (.slice (some ⟨w.heap.size + 1 + 1 + 1, 0, none⟩) n n)).setCell (p := ⟨w.heap.size + 1 + 1, 1, none⟩) (by show w.heap.size ≤ w.heap.size + 1 + 1; omega) (.int .i64 s)
  refine (toInsS_any _ _ _ _ _ (h2.below B2 (Nat.le_refl _)) hs.2).mono ?_
  rintro e w2 ⟨rfl, hb2, ho2⟩
  have r1' := ((r1.setFar (p := ⟨w.heap.size + 1 + 1, 0, none⟩) (by show w.heap.size + 1 ≠ w.heap.size + 1 + 1; omega) (.slice (some ⟨w.heap.size + 1 + 1 + 1, 0, none⟩) n n)).setFar (p := ⟨w.heap.size + 1 + 1, 1, none⟩) (by show w.heap.size + 1 ≠ w.heap.size + 1 + 1; omega) (.int .i64 s)).after hb2 (Nat.le_refl _)
  have r2' := ((r2.set 0 (.slice (some ⟨w.heap.size + 1 + 1 + 1, 0, none⟩) n n)).set 1 (.int .i64 s)).after hb2 (Nat.le_refl _)
  have s1'' := ((ho1.bound.setLow (p := ⟨w.heap.size + 1 + 1, 0, none⟩) (by show w.heap.size + 1 + 1 < w.heap.size + 1 + 1 + 1; omega) (.slice (some ⟨w.heap.size + 1 + 1 + 1, 0, none⟩) n n)).setLow (p := ⟨w.heap.size + 1 + 1, 1, none⟩) (by show w.heap.size + 1 + 1 < w.heap.size + 1 + 1 + 1; omega) (.int .i64 s)).below hb2 (Nat.le_refl _)
  have B3 := B2.trans (hb2.mono (by simp; omega))
  have z2 := hb2.size
  simp only [World.size_setCell] at z2 ho2
  clear r0 r1 r2 ho1 q0 q2 p0 p1 f2 B1 B2 hb2
  have f1 := fun j => r1'.frozen j
  have f2 := fun j => r2'.frozen j
  have p0 := r1'.cell 0
  have p1 := r1'.cell 1
  have p2 := r1'.cell 2
  have q0 := r2'.cell 0
  have q1 := r2'.cell 1
  have q2 := r2'.cell 2
  simp at p0 p1 p2 q0 q1 q2
  go_wp2_with fail
  refine bodyPost_ret (v := .agg #[.slice (some ⟨w.heap.size + 1 + 1 + 1, 0, none⟩) n n, .int .i64 s, .slice (some ⟨w1.heap.size, 0, none⟩) m m]) (by simp [results, Tryz.results7, go_sem, p0, p1, p2]) rfl ⟨_, _, rfl, ?_, ?_, ?_, ?_, ?_⟩
  · omega
  · omega
  · refine HiB.setLow (HiB.setLow (HiB.setLow (HiB.setLow s1'' ?_ _) ?_ _) ?_ _) ?_ _
    all_goals (dsimp only; omega)
  · refine HiI.setFar (HiI.setFar (HiI.setFar (HiI.setFar ho2 ?_ _) ?_ _) ?_ _) ?_ _
    all_goals (dsimp only; omega)
  · refine Below.setCell (Below.setCell (Below.setCell (Below.setCell B3 ?_ _) ?_ _) ?_ _) ?_ _
    all_goals (dsimp only; omega)

end Go.Proofs.YtogenboibgddaaaGreatDoor

namespace Go.Proofs.YtogenboibgddaaaGreatDoor
open Go.RowKit
set_option linter.unusedVariables false

theorem Touch.mono {lo hi lo' hi' : Nat} {w w' : World} (t : Touch lo hi w w') (h1 : lo' ≤ lo) (h2 : hi ≤ hi') : Touch lo' hi' w w' :=
  ⟨t.os, t.tape, t.output, t.size, fun k hk hd => t.block k hk (by omega)⟩

theorem VlX.carry {w w' : World} {g : Nat} {cs cs' : Array Value} {o q : Nat} {x : Vl} (h : VlX w g cs o q x) (hc : ∀ p, o ≤ p → p < o + 4 → cs'[p]? = cs[p]?) (hb : w'.heap[q]? = w.heap[q]?) : VlX w' g cs' o q x := by
  obtain ⟨nn, c0, c1, c2, c3, hN⟩ := h
  exact ⟨nn, (hc _ (by omega) (by omega)).trans c0, (hc _ (by omega) (by omega)).trans c1, (hc _ (by omega) (by omega)).trans c2, (hc _ (by omega) (by omega)).trans c3, owns_of_block hN (fun y hy => by cases hy; exact hb)⟩

/-- the values from j on are as they were -/
def LeftV (w : World) (g hi n : Nat) (N : List Vl) (j : Nat) : Prop := ∃ (cs : Array Value) (qf : Nat → Nat), Row w g cs 88 ∧ cs.size = n * 4 ∧ (∀ i, j ≤ i → (h : i < N.length) → VlX w g cs (i * 4) (qf i) N[i]) ∧ (∀ i i', i < i' → i' < N.length → qf i < qf i') ∧ ∀ i, i < N.length → qf i < hi

theorem HiB.left {w : World} {g hi n : Nat} {N : List Vl} (h : HiB w g hi n N) : LeftV w g hi n N 0 := by
  obtain ⟨hg, cs, qf, R, hz, hx, hq, hh⟩ := h
  exact ⟨cs, qf, R, hz, fun i _ hi => hx i hi, hq, hh⟩

theorem set_ne' {cs : Array Value} {p q : Nat} (h : p ≠ q) (v : Value) : (cs.setIfInBounds p v)[q]? = cs[q]? := by
  rw [Array.getElem?_setIfInBounds, if_neg h]

theorem owns_at {w : World} {base q n c : Nat} {xs : List Value} (h : w.ownsRow base 9 1 (.slice (some ⟨q, 0, none⟩) n c) n xs) : w.ownsRow q 9 1 (.slice (some ⟨q, 0, none⟩) n c) n xs := by
  refine ⟨h.1, ?_⟩
  rcases h.2 with ⟨h2, _⟩ | ⟨g, cap, cur, hv, h3, h4⟩
  · cases h2
  · have hv' := hv
    simp only [Value.slice.injEq, Option.some.injEq, Addr.mk.injEq] at hv'
    exact .inr ⟨g, cap, cur, hv, by omega, h4⟩

set_option maxRecDepth 100000 in
set_option maxHeartbeats 3200000 in
theorem markValueS_any (g hi n : Nat) (N : List Vl) (k : Nat) (w : World) (h : HiB w g hi n N) (hl : N.length = n) (hs : ∀ x ∈ N, smallVl x) (hk : k + 3 * n + sumN N ≤ 1073741824) :
    Calls Tryz.prog 33 #[.slice (some ⟨g, 0, none⟩) n n, .int .i64 k] w fun e w' => e = .returned (.int .i64 ((k + 3 * n + sumN N : Nat) : Int)) ∧ Touch g hi w w' := by
  have hgi := h.1
  have H0 := h.left
  have hgw : g < w.heap.size := by obtain ⟨cs, qf, R, _⟩ := H0; exact R.lt
  have Hl := hide hl
  have Hs := hide hs
  have HK := hide hk
  have hnn1 : n ≤ 1073741824 := by omega
  clear h hl hs hk
  go_enter Tryz.func33, Tryz.ntmps33
  go_wp2
  go_loopw [1, 5] (fun q i wr => ∃ (j : Nat) (z : Int), j ≤ n ∧ i = .int .i64 j ∧ q = .int .i64 z ∧ z = ((k + 3 * j + sumN (N.take j) : Nat) : Int) ∧ LeftV wr g hi n N j ∧ Touch g hi w wr) (fun _ i _ => n - (intOf i).toNat)
  case atStart => exact ⟨0, k, Nat.zero_le _, rfl, rfl, by simp [sumN], H0, Touch.refl _ _ _⟩
  case round =>
    obtain ⟨j, z, hj, rfl, rfl, hz, ⟨cs, qf, R, hcs, hx, hq, hh⟩, ht⟩ := hrel
    by_cases hlt : j < n
    · have hjl : j < N.length := by rw [unhide Hl]; exact hlt
      have ilt : (j : Int) < (n : Int) := by omega
      have hsum : sumN (N.take j) + N[j].names.length ≤ sumN N := by
        rw [← sumN_succ N j hjl]
        conv => rhs; rw [← List.take_append_drop (j + 1) N]
        simp only [sumN, List.map_append, List.sum_append]
        omega
      have hK := unhide HK
      have z0 : 0 ≤ z := by omega
      have z1 : z + 3 + N[j].names.length ≤ 1073741824 := by omega
      obtain ⟨nn, c0, c1, c2, c3, hN⟩ := hx j (Nat.le_refl _) hjl
      have hqj := (hx j (Nat.le_refl _) hjl).q
      have hqh := hh j hjl
      have hnn : nn = N[j].names.length := by have := hN.1; simpa using this.symm
      have hsz : ∀ i, i < nn → (nth N[j].names i).size ≤ maxLen := fun i hi' => by
        have h1 := (unhide Hs N[j] (List.getElem_mem hjl)).2.2
        have hi2 : i < N[j].names.length := by omega
        rw [nth_eq _ i hi2]
        have : N[j].names[i].size ≤ tot N[j].names := by
          unfold tot
          exact le_sum_mem (List.mem_map.2 ⟨_, List.getElem_mem hi2, rfl⟩)
        unfold maxLen; omega
      have HZ := hide (show z + 3 + nn = ((k + 3 * (j + 1) + sumN (N.take (j + 1)) : Nat) : Int) by rw [sumN_succ N j hjl, hz, hnn]; push_cast; omega)
      have z1 : z + 3 + nn ≤ 1073741824 := by omega
      have Hlt := hide hlt
      have Hq := hide hq
      have Hh := hide hh
      have Hx := hide hx
      have Hcs := hide hcs
      have Hsz := hide hsz
      have f1 := fun i => R.frozen i
      have d0 := (R.cell (j * 4)).trans c0
      have d1 := (R.cell (j * 4 + 1)).trans c1
      generalize N[j].names = nm at hN Hsz
      clear hz hnn hsum hK hx hq hh hcs hsz
      generalize hx0 : N[j].kind = x0 at c0 d0
      generalize hx1 : N[j].num = x1 at c1 d1
      generalize hx2 : N[j].text = x2 at c2
      clear hx0 hx1 hx2
      have R1 := (R.set (j * 4) (.int .i64 z)).set (j * 4 + 1) (.int .i64 (z + 1))
      have T1 : Touch g (g + 1) wr ((wr.setCell ⟨g, j * 4, none⟩ (.int .i64 z)).setCell ⟨g, j * 4 + 1, none⟩ (.int .i64 (z + 1))) := (Touch.setCell (lo := g) (hi := g + 1) wr ⟨g, j * 4, none⟩ (.int .i64 z) (Nat.le_refl _) (Nat.lt_succ_self _)).trans (Touch.setCell (lo := g) (hi := g + 1) _ ⟨g, j * 4 + 1, none⟩ (.int .i64 (z + 1)) (Nat.le_refl _) (Nat.lt_succ_self _))
      go_wp2_with fail
      generalize (wr.setCell ⟨g, j * 4, none⟩ (.int .i64 z)).setCell ⟨g, j * 4 + 1, none⟩ (.int .i64 (z + 1)) = W2 at R1 T1 ⊢
      clear d0 d1 f1
      refine (markText_int (z + 1 + 1) W2 (by omega) (by omega)).mono ?_
      rintro e w3 ⟨rfl, hb3⟩
      have R3 := R1.after hb3 (Nat.le_refl _)
      have T3 := T1.trans (Touch.of_below (lo := g) (hi := g + 1) hb3 (Nat.le_refl _))
      clear R1 T1 hb3
      have d2 := (R3.cell (j * 4 + 2)).trans ((set_ne' (by omega) _).trans ((set_ne' (by omega) _).trans c2))
      have f3 := fun i => R3.frozen i
      have R4 := R3.set (j * 4 + 2) (.string (markS (z + 1 + 1).toNat))
      have d3 := (R4.cell (j * 4 + 3)).trans ((set_ne' (by omega) _).trans ((set_ne' (by omega) _).trans ((set_ne' (by omega) _).trans c3)))
      have T4 := T3.trans (Touch.setCell (lo := g) (hi := g + 1) w3 ⟨g, j * 4 + 2, none⟩ (.string (markS (z + 1 + 1).toNat)) (Nat.le_refl _) (Nat.lt_succ_self _))
      have O4 := owns_at (owns_of_block hN (fun y hy => by cases hy; exact T4.block (qf j) hqj.2 (.inr hqj.1)))
      have Z4 := T4.size
      clear R3 T3 c0 c1 c2 c3 hN
      have Hw := hide (show w3.setCell ⟨g, j * 4 + 2, none⟩ (.string (markS (z + 1 + 1).toNat)) = w3.setCell ⟨g, j * 4 + 2, none⟩ (.string (markS (z + 1 + 1).toNat)) from rfl)
      go_wp2_with fail
      generalize w3.setCell ⟨g, j * 4 + 2, none⟩ (.string (markS (z + 1 + 1).toNat)) = W4 at R4 T4 O4 Z4 d3 Hw ⊢
      clear d2 f3 Hw
      have OO : OwnS W4 (qf j) (qf j + 1) (some ⟨qf j, 0, none⟩) nn nn nm := ⟨O4, fun x hx => by cases hx; exact Nat.lt_succ_self _, unhide Hsz, by have := hqj.2; omega⟩
      refine (markStringS_int (qf j) (qf j + 1) _ _ _ _ (z + 1 + 1 + 1) W4 OO (by omega) (by omega)).mono ?_
      rintro e w5 ⟨rfl, _, T5⟩
      have HF : Hid (LeftV w5 g hi n N (j + 1)) := hide (by
        refine ⟨_, qf, ⟨(T5.block g R4.lt (.inl hqj.1)).trans R4.out⟩, ?_, ?_, unhide Hq, unhide Hh⟩
        · simp only [Array.size_setIfInBounds]; exact unhide Hcs
        · intro i hi hil
          have hq2 := unhide Hq j i (by omega) hil
          have hX := unhide Hx i (by omega) hil
          refine hX.carry (fun p hp _ => (set_ne' (by omega) _).trans ((set_ne' (by omega) _).trans (set_ne' (by omega) _))) ?_
          have hqi := hX.q
          exact (T5.block (qf i) (by omega) (.inr (by omega))).trans (T4.block (qf i) hqi.2 (.inr (by omega))))
      have TT := (ht.trans (T4.mono (Nat.le_refl _) hgi)).trans (T5.mono (Nat.le_of_lt hqj.1) hqh)
      have HTT := hide TT
      clear R4 T4 T5 O4 OO Hx d3
      go_wp2_with fail
      go_roundw
      case rel => exact ⟨j + 1, z + 1 + 1 + 1 + nn, unhide Hlt, by go_num, by go_num, by have := unhide HZ; omega, unhide HF, unhide HTT⟩
      case measure => have := unhide Hlt; simp [intOf]; omega
    · have e : j = n := by omega
      subst e
      go_wp2
      go_ret
      refine ⟨?_, ht⟩
      rw [hz, List.take_of_length_le (by rw [unhide Hl]; exact Nat.le_refl _)]; rfl

set_option maxRecDepth 100000 in
set_option maxHeartbeats 3200000 in
theorem markInsS_any (g m : Nat) (L : List Is1) (k : Nat) (w : World) (h : HiI w g m L) (hl : L.length = m) (hk : k + 2 * m ≤ 1073741824) :
    Calls Tryz.prog 34 #[.slice (some ⟨g, 0, none⟩) m m, .int .i64 k] w fun e w' => e = .returned (.int .i64 ((k + 2 * m : Nat) : Int)) ∧ Touch g (g + 1) w w' := by
  have H0 : ∃ cs : Array Value, Row w g cs 87 ∧ cs.size = m * 2 := by obtain ⟨cs, R, hz, _⟩ := h; exact ⟨cs, R, hz⟩
  clear h
  go_enter Tryz.func34, Tryz.ntmps34
  go_wp2
  go_loopw [1, 5] (fun q i wr => ∃ (j : Nat) (z : Int), j ≤ m ∧ i = .int .i64 j ∧ q = .int .i64 z ∧ z = ((k + 2 * j : Nat) : Int) ∧ (∃ cs : Array Value, Row wr g cs 87 ∧ cs.size = m * 2) ∧ Touch g (g + 1) w wr) (fun _ i _ => m - (intOf i).toNat)
  case atStart => exact ⟨0, k, Nat.zero_le _, rfl, rfl, by simp, H0, Touch.refl _ _ _⟩
  case round =>
    obtain ⟨j, z, hj, rfl, rfl, hz, ⟨cs, R, hcs⟩, ht⟩ := hrel
    by_cases hlt : j < m
    · have ilt : (j : Int) < (m : Int) := by omega
      have z0 : 0 ≤ z := by omega
      have z1 : z + 2 ≤ 1073741824 := by omega
      obtain ⟨u0, e0⟩ := someAt (cs := cs) (p := j * 2) (by omega)
      obtain ⟨u1, e1⟩ := someAt (cs := cs) (p := j * 2 + 1) (by omega)
      have c0 := (R.cell (j * 2)).trans e0
      have c1 := (R.cell (j * 2 + 1)).trans e1
      have cf := fun i => R.frozen i
      have R2 := (R.set (j * 2) (.int .i64 z)).set (j * 2 + 1) (.int .i64 (z + 1))
      have T2 := (ht.trans (Touch.setCell (lo := g) (hi := g + 1) wr ⟨g, j * 2, none⟩ (.int .i64 z) (Nat.le_refl _) (Nat.lt_succ_self _))).trans (Touch.setCell (lo := g) (hi := g + 1) _ ⟨g, j * 2 + 1, none⟩ (.int .i64 (z + 1)) (Nat.le_refl _) (Nat.lt_succ_self _))
      have HR := hide R2
      have Hz := hide hz
      have Hlt := hide hlt
      have Hcs := hide hcs
      clear hz hcs e0 e1 R2 R
      go_wp2_with fail
      go_roundw
      case rel => exact ⟨j + 1, z + 1 + 1, unhide Hlt, by go_num, by go_num, by have := unhide Hz; omega, ⟨_, unhide HR, by simp only [Array.size_setIfInBounds]; exact unhide Hcs⟩, T2⟩
      case measure => have := unhide Hlt; simp [intOf]; omega
    · have e : j = m := by omega
      subst e
      go_wp2
      go_ret
      exact ⟨by rw [hz]; rfl, ht⟩

theorem markInsS_int (g m : Nat) (L : List Is1) (x : Int) (w : World) (h : HiI w g m L) (hl : L.length = m) (h0 : 0 ≤ x) (hk : x + 2 * m ≤ 1073741824) :
    Calls Tryz.prog 34 #[.slice (some ⟨g, 0, none⟩) m m, .int .i64 x] w fun e w' => e = .returned (.int .i64 (x + 2 * m)) ∧ Touch g (g + 1) w w' := by
  obtain ⟨k, rfl⟩ := Int.eq_ofNat_of_zero_le h0
  have := markInsS_any g m L k w h hl (by omega)
  rw [show ((k + 2 * m : Nat) : Int) = (k : Int) + 2 * (m : Int) by push_cast; rfl] at this
  exact this

theorem markValueS_int (g hi n : Nat) (N : List Vl) (x : Int) (w : World) (h : HiB w g hi n N) (hl : N.length = n) (hs : ∀ x ∈ N, smallVl x) (h0 : 0 ≤ x) (hk : x + 3 * n + sumN N ≤ 1073741824) :
    Calls Tryz.prog 33 #[.slice (some ⟨g, 0, none⟩) n n, .int .i64 x] w fun e w' => (∃ z : Int, e = .returned (.int .i64 z) ∧ z = x + 3 * n + sumN N) ∧ Touch g hi w w' := by
  obtain ⟨k, rfl⟩ := Int.eq_ofNat_of_zero_le h0
  refine (markValueS_any g hi n N k w h hl hs (by omega)).mono ?_
  rintro e w' ⟨rfl, T⟩
  exact ⟨⟨_, rfl, by push_cast; rfl⟩, T⟩

theorem Row.touch {w w' : World} {b lo hi : Nat} {cs : Array Value} {t : TypeId} (h : Row w b cs t) (T : Touch lo hi w w') (hd : b < lo ∨ hi ≤ b) : Row w' b cs t := ⟨(T.block b h.lt hd).trans h.out⟩

theorem HiI.touch {w w' : World} {g m lo hi : Nat} {L : List Is1} (h : HiI w g m L) (T : Touch lo hi w w') (hd : g < lo ∨ hi ≤ g) : HiI w' g m L := by
  obtain ⟨cs, R, hz, hx⟩ := h
  exact ⟨cs, R.touch T hd, hz, hx⟩

end Go.Proofs.YtogenboibgddaaaGreatDoor

namespace Go.Proofs.YtogenboibgddaaaGreatDoor
open Go.ChangeShapes Go.WideShapes Go.RowKit Go.Deep
set_option linter.unusedVariables false
set_option maxRecDepth 100000

theorem cellsStr : Tryz.prog.cellsOf 9 = 1 := by kernel_rfl
theorem cellsI64 : Tryz.prog.cellsOf 2 = 1 := by kernel_rfl
theorem cellsInt : Tryz.prog.cellsOf 3 = 1 := by kernel_rfl
theorem cellsSS : Tryz.prog.cellsOf 26 = 1 := by kernel_rfl
theorem cellsVl : Tryz.prog.cellsOf 74 = 4 := by kernel_rfl
theorem cellsIn : Tryz.prog.cellsOf 96 = 2 := by kernel_rfl
theorem cellsVlS : Tryz.prog.cellsOf 22 = 1 := by kernel_rfl
theorem cellsInS : Tryz.prog.cellsOf 23 = 1 := by kernel_rfl
theorem cellsCode : Tryz.prog.cellsOf 25 = 3 := by kernel_rfl

instance : Inhabited Vl := ⟨⟨0, 0, ⟨#[]⟩, []⟩⟩
instance : Inhabited Is1 := ⟨⟨0, 0⟩⟩

section
variable {H : Type} {enc : TypeId × Value → H} {w : World} {held : Bool}

theorem add_lit' (b off j : Nat) : (⟨b, off, none⟩ : Addr).add j = ⟨b, off + j, none⟩ := by
  by_cases e : j = 0 <;> simp [Addr.add, e]

theorem slice_form {t e : TypeId} {fuel : Nat} {v : Value} {x : DataW H × List MemPlace} (ht : Tryz.prog.underlying t = some (.slice e)) (h : DataW.trod enc Tryz.prog w 0 (fun _ => true) held fuel t [v] = some x) : ∃ a l c, v = .slice a l c := by
  rcases open_slice ht h with ⟨hcs, _⟩ | ⟨_, _, _, _, _, _, _, hcs, _⟩
  · simp only [List.cons.injEq, and_true] at hcs; exact ⟨_, _, _, hcs⟩
  · simp only [List.cons.injEq, and_true] at hcs; exact ⟨_, _, _, hcs⟩

theorem spot_of {a : Addr} {v : Value} (h : w.cell? (a.add 0) = some v) : ∃ b off, a = ⟨b, off, none⟩ := by
  have hs := World.cell?_spot h
  obtain ⟨b, off, spot⟩ := a
  simp [Addr.add] at hs
  subst hs
  exact ⟨b, off, rfl⟩

theorem VlAt.of_trod {fuel b o : Nat} {cs : List Value} {x : DataW H × List MemPlace} (h : DataW.trod enc Tryz.prog w 0 (fun _ => true) held fuel 74 cs = some x) (hc : ∀ i, i < 4 → w.cell? ⟨b, o + i, none⟩ = cs[i]?) : ∃ y : Vl, VlAt w b o y ∧ y.text.size ≤ maxLen ∧ I64 y.num := by
  obtain ⟨xs, n, _, _, hcl, hlen, hx⟩ := DataW.trod_struct Tryz.underlying74 h
  rw [cellsVl] at hcl
  match cs, hcl with
  | [x0, x1, x2, x3], _ =>
    have get : ∀ i, i < 4 → ∃ y, xs[i]? = some y := fun i hi => ⟨xs[i]'(by simp at hlen; omega), List.getElem?_eq_getElem _⟩
    obtain ⟨y0, e0⟩ := get 0 (by omega)
    obtain ⟨y1, e1⟩ := get 1 (by omega)
    obtain ⟨y2, e2⟩ := get 2 (by omega)
    obtain ⟨y3, e3⟩ := get 3 (by omega)
    have f0 : DataW.trod enc Tryz.prog w 0 (fun _ => true) held n 3 [x0] = some y0 := by
      have := (hx 0 _ rfl).trans e0
      simpa [cellsInt] using this
    have f1 : DataW.trod enc Tryz.prog w 0 (fun _ => true) held n 2 [x1] = some y1 := by
      have := (hx 1 _ rfl).trans e1
      simpa [cellsI64] using this
    have f2 : DataW.trod enc Tryz.prog w 0 (fun _ => true) held n 9 [x2] = some y2 := by
      have := (hx 2 _ rfl).trans e2
      simpa [cellsStr] using this
    have f3 : DataW.trod enc Tryz.prog w 0 (fun _ => true) held n 26 [x3] = some y3 := by
      have := (hx 3 _ rfl).trans e3
      simpa [cellsSS] using this
    obtain ⟨op, k0, _, _⟩ := DataW.trod_int Tryz.underlying3 f0
    obtain ⟨num, k1, _, wnum⟩ := DataW.trod_int Tryz.underlying2 f1
    obtain ⟨text, k2, _, htx⟩ := DataW.trod_string Tryz.underlying9 f2
    simp only [List.cons.injEq, and_true] at k0 k1 k2
    subst k0 k1 k2
    obtain ⟨an, nn, cn, rfl⟩ := slice_form Tryz.underlying26 f3
    obtain ⟨names, hN⟩ := Strs.of_trod Tryz.underlying26 Tryz.underlying9 cellsStr f3
    exact ⟨⟨op, num, text, names⟩, ⟨an, nn, cn, hc 0 (by omega), hc 1 (by omega), hc 2 (by omega), hc 3 (by omega), hN⟩, htx, (bounds_i64 wnum).1, (bounds_i64 wnum).2⟩

theorem VlsR.of_trod {fuel : Nat} {x : DataW H × List MemPlace} {a : Option Addr} {n c : Nat} (h : DataW.trod enc Tryz.prog w 0 (fun _ => true) held fuel 22 [.slice a n c] = some x) : ∃ L, VlsR w a n c L ∧ ∀ x ∈ L, I64 x.num := by
  rcases open_slice Tryz.underlying22 h with ⟨hcs, _⟩ | ⟨ad, len, cap, m, k, D, Pl, hcs, _, hl, hm, hmm, _, hx⟩
  · simp only [List.cons.injEq, Value.slice.injEq, and_true] at hcs
    obtain ⟨rfl, rfl, rfl⟩ := hcs
    exact ⟨[], ⟨rfl, Nat.le_refl _, Nat.zero_le _, fun x hx => (by cases hx), fun j hj => absurd hj (by simp)⟩, fun x hx => (by cases hx)⟩
  · simp only [List.cons.injEq, Value.slice.injEq, and_true] at hcs
    obtain ⟨rfl, rfl, rfl⟩ := hcs
    simp only [if_true] at hmm
    rw [cellsVl] at hx
    obtain ⟨f, hf⟩ := choose_lt (α := Vl) (n := n) (p := fun i y => ∃ b off, ad = ⟨b, off, none⟩ ∧ b < w.heap.size ∧ VlAt w b (off + i * 4) y ∧ y.text.size ≤ maxLen ∧ I64 y.num) (fun i hi => by
      obtain ⟨cs', h1, h2⟩ := hx i (by omega)
      obtain ⟨_, hlen, hc⟩ := World.cells?_some h1
      obtain ⟨v, hv⟩ : ∃ v, cs'[0]? = some v := ⟨cs'[0]'(by omega), List.getElem?_eq_getElem _⟩
      obtain ⟨cz, hz1, hz2⟩ := hx 0 (by omega)
      obtain ⟨_, hzl, hzc⟩ := World.cells?_some hz1
      obtain ⟨b, off, rfl⟩ := spot_of (v := cz[0]'(by omega)) (by have := (hzc 0 (by omega)).trans (List.getElem?_eq_getElem (by omega)); simpa [Addr.add] using this)
      have hc0' := (hc 0 (by omega)).trans hv
      rw [add_lit'] at hc hc0'
      rw [add_lit'] at hc0'
      obtain ⟨y, hy, ht⟩ := VlAt.of_trod (b := b) (o := off + i * 4) h2 (fun j hj => by rw [← hc j hj, add_lit'])
      exact ⟨y, b, off, rfl, lt_of_cell hc0', hy, ht⟩)
    refine ⟨(List.range n).map f, ⟨by simp, hl, hm, fun x hx => ?_, fun j hj => ?_⟩, fun x hx => ?_⟩
    rotate_right
    · obtain ⟨i, hi, rfl⟩ := List.mem_map.1 hx
      obtain ⟨_, _, _, _, _, _, ht⟩ := hf i (by simpa using hi)
      exact ht
    · obtain ⟨i, hi, rfl⟩ := List.mem_map.1 hx
      obtain ⟨_, _, _, _, _, ht, _⟩ := hf i (by simpa using hi)
      exact ht
    · have hjn : j < n := by simpa using hj
      obtain ⟨b, off, rfl, hl', hy, _⟩ := hf j hjn
      exact ⟨b, off, rfl, hl', by simpa using hy⟩

theorem IssR.of_trod {fuel : Nat} {x : DataW H × List MemPlace} {a : Option Addr} {n c : Nat} (h : DataW.trod enc Tryz.prog w 0 (fun _ => true) held fuel 23 [.slice a n c] = some x) : ∃ L, IssR w a n c L := by
  rcases open_slice Tryz.underlying23 h with ⟨hcs, _⟩ | ⟨ad, len, cap, m, k, D, Pl, hcs, _, hl, hm, hmm, _, hx⟩
  · simp only [List.cons.injEq, Value.slice.injEq, and_true] at hcs
    obtain ⟨rfl, rfl, rfl⟩ := hcs
    exact ⟨[], rfl, Nat.le_refl _, Nat.zero_le _, fun j hj => absurd hj (by simp)⟩
  · simp only [List.cons.injEq, Value.slice.injEq, and_true] at hcs
    obtain ⟨rfl, rfl, rfl⟩ := hcs
    simp only [if_true] at hmm
    rw [cellsIn] at hx
    obtain ⟨f, hf⟩ := choose_lt (α := Is1) (n := n) (p := fun i y => ∃ b off, ad = ⟨b, off, none⟩ ∧ b < w.heap.size ∧ (w.cell? ⟨b, off + i * 2, none⟩ = some (.int .i64 y.op) ∧ w.cell? ⟨b, off + i * 2 + 1, none⟩ = some (.int .i64 y.arg))) (fun i hi => by
      obtain ⟨cs', h1, h2⟩ := hx i (by omega)
      obtain ⟨_, hlen, hc⟩ := World.cells?_some h1
      obtain ⟨v, hv⟩ : ∃ v, cs'[0]? = some v := ⟨cs'[0]'(by omega), List.getElem?_eq_getElem _⟩
      obtain ⟨cz, hz1, hz2⟩ := hx 0 (by omega)
      obtain ⟨_, hzl, hzc⟩ := World.cells?_some hz1
      obtain ⟨b, off, rfl⟩ := spot_of (v := cz[0]'(by omega)) (by have := (hzc 0 (by omega)).trans (List.getElem?_eq_getElem (by omega)); simpa [Addr.add] using this)
      have hc0' := (hc 0 (by omega)).trans hv
      rw [add_lit'] at hc hc0'
      rw [add_lit'] at hc0'
      have hc2 : ∀ j, j < 2 → w.cell? ⟨b, off + i * 2 + j, none⟩ = cs'[j]? := fun j hj => by rw [← hc j hj, add_lit']
      obtain ⟨xs, n', _, _, hcl, hxl, hxx⟩ := DataW.trod_struct Tryz.underlying96 h2
      match cs', hlen with
      | [x0, x1], _ =>
        have get : ∀ i, i < 2 → ∃ y, xs[i]? = some y := fun i hi => ⟨xs[i]'(by simp at hxl; omega), List.getElem?_eq_getElem _⟩
        obtain ⟨y0, e0⟩ := get 0 (by omega)
        obtain ⟨y1, e1⟩ := get 1 (by omega)
        have f0 : DataW.trod enc Tryz.prog w 0 (fun _ => true) held n' 3 [x0] = some y0 := by
          have := (hxx 0 _ rfl).trans e0
          simpa [cellsInt] using this
        have f1 : DataW.trod enc Tryz.prog w 0 (fun _ => true) held n' 3 [x1] = some y1 := by
          have := (hxx 1 _ rfl).trans e1
          simpa [cellsInt] using this
        obtain ⟨op, k0, _, _⟩ := DataW.trod_int Tryz.underlying3 f0
        obtain ⟨arg, k1, _, _⟩ := DataW.trod_int Tryz.underlying3 f1
        simp only [List.cons.injEq, and_true] at k0 k1
        subst k0 k1
        exact ⟨⟨op, arg⟩, b, off, rfl, lt_of_cell hc0', ⟨hc2 0 (by omega), hc2 1 (by omega)⟩⟩)
    refine ⟨(List.range n).map f, by simp, hl, hm, fun j hj => ?_⟩
    have hjn : j < n := by simpa using hj
    obtain ⟨b, off, rfl, hl', hy⟩ := hf j hjn
    exact ⟨b, off, rfl, hl', by simpa using hy⟩

theorem open_code {r : Reach} {b0 : Nat} {v : Value} {d : DataW H} {p : List MemPlace}
    (hv : Value.okWide Tryz.prog w r b0 25 v) (h : DataW.Trod enc Tryz.prog w 0 (fun _ => true) held 25 v d p) :
    ∃ (a b : Option Addr) (n c m d : Nat) (s : Int) (N : List Vl) (L : List Is1), v = .agg #[.slice a n c, .int .i64 s, .slice b m d] ∧ VlsR w a n c N ∧ IssR w b m d L ∧ ∀ x ∈ N, I64 x.num := by
  obtain ⟨cs, rfl, hsz⟩ := okWide_struct Tryz.underlying25 hv
  have hsz2 := hsz.trans cellsCode
  obtain ⟨l⟩ := cs
  match l, hsz2 with
  | [x0, x1, x2], _ =>
    obtain ⟨fuel, hf⟩ := h
    obtain ⟨xs, n, _, _, _, hlen, hx⟩ := DataW.trod_struct Tryz.underlying25 hf
    have get : ∀ i, i < 3 → ∃ y, xs[i]? = some y := fun i hi => ⟨xs[i]'(by simp at hlen; omega), List.getElem?_eq_getElem _⟩
    obtain ⟨y0, e0⟩ := get 0 (by omega)
    obtain ⟨y1, e1⟩ := get 1 (by omega)
    obtain ⟨y2, e2⟩ := get 2 (by omega)
    have f0 : DataW.trod enc Tryz.prog w 0 (fun _ => true) held n 22 [x0] = some y0 := by
      have := (hx 0 _ rfl).trans e0
      simpa [Value.cells, cellsVlS] using this
    have f1 : DataW.trod enc Tryz.prog w 0 (fun _ => true) held n 3 [x1] = some y1 := by
      have := (hx 1 _ rfl).trans e1
      simpa [Value.cells, cellsInt] using this
    have f2 : DataW.trod enc Tryz.prog w 0 (fun _ => true) held n 23 [x2] = some y2 := by
      have := (hx 2 _ rfl).trans e2
      simpa [Value.cells, cellsInS] using this
    obtain ⟨a1, n1, c1, rfl⟩ := slice_form Tryz.underlying22 f0
    obtain ⟨s, k1, _, _⟩ := DataW.trod_int Tryz.underlying3 f1
    obtain ⟨a2, n2, c2, rfl⟩ := slice_form Tryz.underlying23 f2
    simp only [List.cons.injEq, and_true] at k1
    subst k1
    obtain ⟨N, hN, hnum⟩ := VlsR.of_trod f0
    obtain ⟨L, hL⟩ := IssR.of_trod f2
    exact ⟨a1, a2, n1, c1, n2, c2, s, N, L, rfl, hN, hL, hnum⟩

end

end Go.Proofs.YtogenboibgddaaaGreatDoor

namespace Go.Proofs.YtogenboibgddaaaGreatDoor
set_option maxRecDepth 100000
open Go.ChangeShapes Go.WideShapes Go.RowKit Go.Deep
set_option linter.unusedVariables false

theorem cellsReq : Tryz.prog.cellsOf 28 = 6 := by kernel_rfl
theorem i64_of {a : Int} (h : (Lit.int .i64 a).wf = true) : I64 a := ⟨(bounds_i64 h).1, (bounds_i64 h).2⟩

theorem array6 {α : Type} {cs : Array α} (h : cs.size = 6) : ∃ c0 c1 c2 c3 c4 c5, cs = #[c0, c1, c2, c3, c4, c5] := by
  obtain ⟨l⟩ := cs
  match l, h with
  | [c0, c1, c2, c3, c4, c5], _ => exact ⟨c0, c1, c2, c3, c4, c5, rfl⟩

theorem open_req {H : Type} {enc : TypeId × Value → H} {w : World} {held : Bool} {r : Reach} {b0 : Nat} {v : Value} {d : DataW H} {p : List MemPlace}
    (hv : Value.okWide Tryz.prog w r b0 28 v) (h : DataW.Trod enc Tryz.prog w 0 (fun _ => true) held 28 v d p) :
    ∃ (cl us : ByteArray) (lv nw : Int) (a1 : Option Addr) (n1 c1 : Nat) (s1 : List ByteArray) (a2 : Option Addr) (n2 c2 : Nat) (s2 : List ByteArray),
      v = .agg #[.string cl, .string us, .int .i64 lv, .int .i64 nw, .slice a1 n1 c1, .slice a2 n2 c2] ∧ cl.size ≤ maxLen ∧ us.size ≤ maxLen ∧ (I64 lv ∧ I64 nw) ∧ Strs w a1 n1 c1 s1 ∧ Strs w a2 n2 c2 s2 := by
  obtain ⟨cs, rfl, hsz⟩ := okWide_struct Tryz.underlying28 hv
  obtain ⟨x0, x1, x2, x3, x4, x5, rfl⟩ := array6 (hsz.trans cellsReq)
  obtain ⟨fuel, hf⟩ := h
  obtain ⟨xs, n, _, _, _, hlen, hx⟩ := DataW.trod_struct Tryz.underlying28 hf
  have get : ∀ i, i < 6 → ∃ y, xs[i]? = some y := fun i hi => ⟨xs[i]'(by simp at hlen; omega), List.getElem?_eq_getElem _⟩
  obtain ⟨y0, e0⟩ := get 0 (by omega)
  obtain ⟨y1, e1⟩ := get 1 (by omega)
  obtain ⟨y2, e2⟩ := get 2 (by omega)
  obtain ⟨y3, e3⟩ := get 3 (by omega)
  obtain ⟨y4, e4⟩ := get 4 (by omega)
  obtain ⟨y5, e5⟩ := get 5 (by omega)
  have f0 : DataW.trod enc Tryz.prog w 0 (fun _ => true) held n 9 [x0] = some y0 := by
    have := (hx 0 _ rfl).trans e0
    simpa [Value.cells, cellsStr] using this
  have f1 : DataW.trod enc Tryz.prog w 0 (fun _ => true) held n 9 [x1] = some y1 := by
    have := (hx 1 _ rfl).trans e1
    simpa [Value.cells, cellsStr] using this
  have f2 : DataW.trod enc Tryz.prog w 0 (fun _ => true) held n 2 [x2] = some y2 := by
    have := (hx 2 _ rfl).trans e2
    simpa [Value.cells, cellsI64] using this
  have f3 : DataW.trod enc Tryz.prog w 0 (fun _ => true) held n 2 [x3] = some y3 := by
    have := (hx 3 _ rfl).trans e3
    simpa [Value.cells, cellsI64] using this
  have f4 : DataW.trod enc Tryz.prog w 0 (fun _ => true) held n 26 [x4] = some y4 := by
    have := (hx 4 _ rfl).trans e4
    simpa [Value.cells, cellsSS] using this
  have f5 : DataW.trod enc Tryz.prog w 0 (fun _ => true) held n 26 [x5] = some y5 := by
    have := (hx 5 _ rfl).trans e5
    simpa [Value.cells, cellsSS] using this
  obtain ⟨cl, k0, _, hcl⟩ := DataW.trod_string Tryz.underlying9 f0
  obtain ⟨us, k1, _, hus⟩ := DataW.trod_string Tryz.underlying9 f1
  obtain ⟨lv, k2, _, wl⟩ := DataW.trod_int Tryz.underlying2 f2
  obtain ⟨nw, k3, _, wn⟩ := DataW.trod_int Tryz.underlying2 f3
  simp only [List.cons.injEq, and_true] at k0 k1 k2 k3
  subst k0 k1 k2 k3
  have form : ∀ {x y}, DataW.trod enc Tryz.prog w 0 (fun _ => true) held n 26 [x] = some y → ∃ a l c, x = .slice a l c := fun {x y} hh => by
    rcases open_strings Tryz.underlying26 Tryz.underlying9 cellsStr hh with ⟨hcs, _⟩ | ⟨_, _, _, _, hcs, _⟩
    · simp only [List.cons.injEq, and_true] at hcs; exact ⟨_, _, _, hcs⟩
    · simp only [List.cons.injEq, and_true] at hcs; exact ⟨_, _, _, hcs⟩
  obtain ⟨a1, n1, c1, rfl⟩ := form f4
  obtain ⟨a2, n2, c2, rfl⟩ := form f5
  obtain ⟨s1, t1⟩ := Strs.of_trod Tryz.underlying26 Tryz.underlying9 cellsStr f4
  obtain ⟨s2, t2⟩ := Strs.of_trod Tryz.underlying26 Tryz.underlying9 cellsStr f5
  exact ⟨cl, us, lv, nw, a1, n1, c1, s1, a2, n2, c2, s2, rfl, hcl, hus, ⟨i64_of wl, i64_of wn⟩, t1, t2⟩

end Go.Proofs.YtogenboibgddaaaGreatDoor

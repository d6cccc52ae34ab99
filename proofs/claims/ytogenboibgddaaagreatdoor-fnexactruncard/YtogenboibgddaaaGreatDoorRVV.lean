/-
  The model's machine: jumps. Own work.
-/
import Derived.Test.YtogenboibgddaaaGreatDoorMXAL
namespace Go.Proofs.YtogenboibgddaaaGreatDoor
open Go.RowKit
set_option linter.unusedVariables false

set_option maxRecDepth 100000 in
set_option maxHeartbeats 6400000 in
theorem m_jump (ap : Option Addr) (np cp : Nat) (s : Int) (ib io ni ci : Nat) (R : Rq) (a1 : Option Addr) (n1 c1 : Nat) (a2 : Option Addr) (n2 c2 : Nat) (at_ : Nat) (sa : Option Addr) (sc : Nat) (st : List Vv) (xs : List Value) (ln : Nat) (lb S : Nat) (sl : List (Option Vv)) (cs : Array Value) (n pk : Nat) (arg : Int) (X : Rn) (w : World) (hln : st.length = ln) (i0 : w.cell? ⟨ib, io + at_ * 2, none⟩ = some (.int .i64 22)) (i1 : w.cell? ⟨ib, io + at_ * 2 + 1, none⟩ = some (.int .i64 arg)) (hib : ib < w.heap.size) (hat : at_ < ni) (hni : ni ≤ 20000) (hn : n ≤ 20000) (hpk : pk ≤ 100) (hlen : ln ≤ 100) (hO : StO w 0 sa sc st xs) (hL : SlO w lb S sl cs)  (HC : ∀ x c ys ds w', Kpt (fun k => k = lb) w w' → StO w' 0 x c (st) ys → SlO w' lb S (sl) ds → Calls Tryz.prog 22 #[.agg #[.slice ap np cp, .int .i64 s, .slice (some ⟨ib, io, none⟩) ni ci], .agg #[.string R.cl, .string R.us, .int .i64 R.lv, .int .i64 R.nw, .slice a1 n1 c1, .slice a2 n2 c2], .int .i64 arg, .slice x (st).length c, .slice (some ⟨lb, 0, none⟩) S S, .agg #[.int .i64 0, .int .i64 0, .slice none 0 0, .int .i64 ((n + 1 : Nat) : Int), .int .i64 ((max pk (st).length : Nat) : Int)]] w' (RnG w'.heap.size lb X w')) :
    Calls Tryz.prog 22 #[.agg #[.slice ap np cp, .int .i64 s, .slice (some ⟨ib, io, none⟩) ni ci], .agg #[.string R.cl, .string R.us, .int .i64 R.lv, .int .i64 R.nw, .slice a1 n1 c1, .slice a2 n2 c2], .int .i64 at_, .slice sa (ln) sc, .slice (some ⟨lb, 0, none⟩) S S, .agg #[.int .i64 0, .int .i64 0, .slice none 0 0, .int .i64 n, .int .i64 pk]] w (RnG w.heap.size lb X w) := by
  have B4 := ((((Below.refl w.heap.size w).alloc (Nat.le_refl _) (.cells #[.slice ap np cp, .int .i64 s, .slice (some ⟨ib, io, none⟩) ni ci] 39)).alloc (by simp) (.cells #[.string R.cl, .string R.us, .int .i64 R.lv, .int .i64 R.nw, .slice a1 n1 c1, .slice a2 n2 c2] 41)).alloc (by simp; omega) (.cells #[.int .i64 0, .int .i64 0, .slice none 0 0, .int .i64 n, .int .i64 pk] 34)).alloc (by simp; omega) (.cells #[.int .i64 0, .int .i64 0, .slice none 0 0, .int .i64 0, .int .i64 0] 34)
  have d0 := (B4.cell (p := ⟨ib, io + at_ * 2, none⟩) hib).trans i0
  have d1 := (B4.cell (p := ⟨ib, io + at_ * 2 + 1, none⟩) hib).trans i1
  have B5 := ((((Below.refl w.heap.size w).alloc (Nat.le_refl _) (.cells #[.slice ap np cp, .int .i64 s, .slice (some ⟨ib, io, none⟩) ni ci] 39)).alloc (by simp) (.cells #[.string R.cl, .string R.us, .int .i64 R.lv, .int .i64 R.nw, .slice a1 n1 c1, .slice a2 n2 c2] 41)).alloc (by simp; omega) (.cells #[.int .i64 0, .int .i64 0, .slice none 0 0, .int .i64 ((n : Int) + 1), .int .i64 pk] 34)).alloc (by simp; omega) (.cells #[.int .i64 0, .int .i64 0, .slice none 0 0, .int .i64 0, .int .i64 0] 34) |>.alloc (by simp; omega) (.cells #[.int .i64 22, .int .i64 arg] 87)
  have RC := ((((Row.new w #[.slice ap np cp, .int .i64 s, .slice (some ⟨ib, io, none⟩) ni ci] 39).alloc (.cells #[.string R.cl, .string R.us, .int .i64 R.lv, .int .i64 R.nw, .slice a1 n1 c1, .slice a2 n2 c2] 41)).alloc (.cells #[.int .i64 0, .int .i64 0, .slice none 0 0, .int .i64 ((n : Int) + 1), .int .i64 pk] 34)).alloc (.cells #[.int .i64 0, .int .i64 0, .slice none 0 0, .int .i64 0, .int .i64 0] 34)).alloc (.cells #[.int .i64 22, .int .i64 arg] 87)
  have RR := (((Row.new (w.alloc (.cells #[.slice ap np cp, .int .i64 s, .slice (some ⟨ib, io, none⟩) ni ci] 39)) #[.string R.cl, .string R.us, .int .i64 R.lv, .int .i64 R.nw, .slice a1 n1 c1, .slice a2 n2 c2] 41).alloc (.cells #[.int .i64 0, .int .i64 0, .slice none 0 0, .int .i64 ((n : Int) + 1), .int .i64 pk] 34)).alloc (.cells #[.int .i64 0, .int .i64 0, .slice none 0 0, .int .i64 0, .int .i64 0] 34)).alloc (.cells #[.int .i64 22, .int .i64 arg] 87)
  have RT := ((Row.new ((w.alloc (.cells #[.slice ap np cp, .int .i64 s, .slice (some ⟨ib, io, none⟩) ni ci] 39)).alloc (.cells #[.string R.cl, .string R.us, .int .i64 R.lv, .int .i64 R.nw, .slice a1 n1 c1, .slice a2 n2 c2] 41)) #[.int .i64 0, .int .i64 0, .slice none 0 0, .int .i64 ((n : Int) + 1), .int .i64 pk] 34).alloc (.cells #[.int .i64 0, .int .i64 0, .slice none 0 0, .int .i64 0, .int .i64 0] 34)).alloc (.cells #[.int .i64 22, .int .i64 arg] 87)
  have RZ := (Row.new (((w.alloc (.cells #[.slice ap np cp, .int .i64 s, .slice (some ⟨ib, io, none⟩) ni ci] 39)).alloc (.cells #[.string R.cl, .string R.us, .int .i64 R.lv, .int .i64 R.nw, .slice a1 n1 c1, .slice a2 n2 c2] 41)).alloc (.cells #[.int .i64 0, .int .i64 0, .slice none 0 0, .int .i64 ((n : Int) + 1), .int .i64 pk] 34)) #[.int .i64 0, .int .i64 0, .slice none 0 0, .int .i64 0, .int .i64 0] 34).alloc (.cells #[.int .i64 22, .int .i64 arg] 87)
  have RI := Row.new ((((w.alloc (.cells #[.slice ap np cp, .int .i64 s, .slice (some ⟨ib, io, none⟩) ni ci] 39)).alloc (.cells #[.string R.cl, .string R.us, .int .i64 R.lv, .int .i64 R.nw, .slice a1 n1 c1, .slice a2 n2 c2] 41)).alloc (.cells #[.int .i64 0, .int .i64 0, .slice none 0 0, .int .i64 ((n : Int) + 1), .int .i64 pk] 34)).alloc (.cells #[.int .i64 0, .int .i64 0, .slice none 0 0, .int .i64 0, .int .i64 0] 34)) #[.int .i64 22, .int .i64 arg] 87
  simp only [World.size_alloc] at RR RT RZ RI
  have iat : (at_ : Int) < (ni : Int) := by omega
  have hO5 := hO.below B5 (Nat.le_refl _)
  have HL := hide (And.intro (hL.below B5 (Nat.le_refl _)) (And.intro hL.row.lt hL.len))
  have HB := hide B5
  have HN := hide (And.intro hlen (And.intro hpk hn))
  have HCC := hide HC
  have HLN := hide hln
  clear hO hL i0 i1 B5 HC hln
  go_enter Tryz.func22, Tryz.ntmps22
  go_wp2_with (at_builtin; refine append_stk rfl _ _ rfl w.heap.size 0 rfl sa (ln) sc st xs (unhide HLN) rfl hO5 (by omega) (by simp; omega) ?_)
  intro y yc w1 hS1 hb1
  have HS := hide hS1
  have Z1 : ((((((w.alloc (.cells #[.slice ap np cp, .int .i64 s, .slice (some ⟨ib, io, none⟩) ni ci] 39)).alloc (.cells #[.string R.cl, .string R.us, .int .i64 R.lv, .int .i64 R.nw, .slice a1 n1 c1, .slice a2 n2 c2] 41)).alloc (.cells #[.int .i64 0, .int .i64 0, .slice none 0 0, .int .i64 ((n : Int) + 1), .int .i64 pk] 34)).alloc (.cells #[.int .i64 0, .int .i64 0, .slice none 0 0, .int .i64 0, .int .i64 0] 34)).alloc (.cells #[.int .i64 22, .int .i64 arg] 87))).heap.size ≤ w.heap.size + 1 + 1 + 1 + 1 + 1 := by simp
  replace RC := RC.after hb1 Z1
  replace RR := RR.after hb1 Z1
  replace RT := RT.after hb1 Z1
  replace RZ := RZ.after hb1 Z1
  replace RI := RI.after hb1 Z1
  replace HL := hide (And.intro ((unhide HL).1.below hb1 Z1) (unhide HL).2)
  have HK := hide (show Kpt (fun k => k = lb) w w1 from Kpt.of_below ((unhide HB).trans (hb1.mono (by omega))))
  have HBw := hide ((unhide HB).trans (hb1.mono (by omega)))
  have LW : w.heap.size + 1 + 1 + 1 + 1 < w1.heap.size := RI.lt
  clear hO5 hS1 hb1 Z1 HB d0 d1 B4 iat hib hat hni hlen hn
  obtain ⟨ys, rfl⟩ : ∃ ys, ys = xs := ⟨xs, rfl⟩
  obtain ⟨ds, rfl⟩ : ∃ ds, ds = cs := ⟨cs, rfl⟩
  have HSL := hide (unhide HL).1
  have lbl := (unhide HL).2.1
  obtain ⟨i0, i1⟩ := row2M RI
  have hm := unhide HLN
  obtain ⟨k0, k1, k2⟩ := row3M RC
  obtain ⟨r0, r1, r2, r3, r4, r5⟩ := row6M RR
  obtain ⟨t0, t1, t2, t3, t4⟩ := row5M RT
  have tf := fun j => RT.frozen j
  by_cases hpp : pk < ln
  · have ilt : (pk : Int) < ((ln : Nat) : Int) := by omega
    have HC2 : Hid (Calls Tryz.prog 22 #[.agg #[.slice ap np cp, .int .i64 s, .slice (some ⟨ib, io, none⟩) ni ci], .agg #[.string R.cl, .string R.us, .int .i64 R.lv, .int .i64 R.nw, .slice a1 n1 c1, .slice a2 n2 c2], .int .i64 arg, .slice y (ln) yc, .slice (some ⟨lb, 0, none⟩) S S, .agg #[.int .i64 0, .int .i64 0, .slice none 0 0, .int .i64 ((n : Int) + 1), .int .i64 (ln : Nat)]] (w1.setCell ⟨w.heap.size + 1 + 1, 4, none⟩ (.int .i64 (ln : Nat))) (RnG (w1.setCell ⟨w.heap.size + 1 + 1, 4, none⟩ (.int .i64 (ln : Nat))).heap.size lb X (w1.setCell ⟨w.heap.size + 1 + 1, 4, none⟩ (.int .i64 (ln : Nat))))) := hide (by
        have h := unhide HCC y yc ys ds (w1.setCell ⟨w.heap.size + 1 + 1, 4, none⟩ (.int .i64 (ln : Nat))) ((unhide HK).setCell (p := ⟨w.heap.size + 1 + 1, 4, none⟩) (fun h => absurd h (by simp; omega)) (.int .i64 (ln : Nat))) (((unhide HS).low (Nat.zero_le _)).setR RT (by decide) (by decide) 4 _) ((unhide HSL).setR RT (by decide) (by decide) 4 _)
        rw [hm, Nat.max_eq_right (Nat.le_of_lt hpp)] at h
        exact h)
    replace RC := RC.setFar (p := ⟨w.heap.size + 1 + 1, 4, none⟩) (by show w.heap.size ≠ w.heap.size + 1 + 1; omega) (.int .i64 (ln : Nat))
    replace RR := RR.setFar (p := ⟨w.heap.size + 1 + 1, 4, none⟩) (by show w.heap.size + 1 ≠ w.heap.size + 1 + 1; omega) (.int .i64 (ln : Nat))
    replace RZ := RZ.setFar (p := ⟨w.heap.size + 1 + 1, 4, none⟩) (by show w.heap.size + 1 + 1 + 1 ≠ w.heap.size + 1 + 1; omega) (.int .i64 (ln : Nat))
    have HKK := (unhide HK).setCell (p := ⟨w.heap.size + 1 + 1, 4, none⟩) (fun h => absurd h (by simp; omega)) (.int .i64 (ln : Nat))
    clear HK
    have HM := hide hm
    clear HCC HS HSL RT hm hpp
    go_wp2_with fail
    refine (unhide HC2).mono ?_
    rintro r w5 ⟨⟨x, cx, rfl, OO⟩, k5, hsz⟩
    have HSZ := hide hsz
    have RZ5 := RZ.kpt k5 (by omega)
    obtain ⟨o0, o1, o2, o3, o4⟩ := row5M RZ5
    have of := fun j => RZ5.frozen j
    obtain ⟨p0, p1, p2, p3, p4⟩ := row5M (set5 RZ5 (.int .i64 X.out.1) (.int .i64 X.out.2.1) (.slice x X.out.2.2.length cx) (.int .i64 X.steps) (.int .i64 X.peak))
    have HKE := hide (kpt5 (b := w.heap.size + 1 + 1 + 1) (HKK.trans k5 (fun q _ h => h)) (by omega) (.int .i64 X.out.1) (.int .i64 X.out.2.1) (.slice x X.out.2.2.length cx) (.int .i64 X.steps) (.int .i64 X.peak))
    have ne : ∀ q, (Value.slice x X.out.2.2.length cx).ownBlock = some q → q ≠ w.heap.size + 1 + 1 + 1 := fun q hq h => own_ne_row RZ5 OO (by decide) (by rw [hq, h])
    have OE := hide (own5 OO ne (.int .i64 X.out.1) (.int .i64 X.out.2.1) (.slice x X.out.2.2.length cx) (.int .i64 X.steps) (.int .i64 X.peak))
    have LE := hide (show w.heap.size ≤ (w1.setCell ⟨w.heap.size + 1 + 1, 4, none⟩ (.int .i64 (ln : Nat))).heap.size by have := HKK.size; simp at this ⊢; omega)
    clear RC RR RZ RI HKK k5 OO ne HC2 hsz k0 k1 k2 r0 r1 r2 r3 r4 r5 RZ5
    dsimp only
    go_wp2_with fail
    refine bodyPost_ret (v := .agg #[.int .i64 X.out.1, .int .i64 X.out.2.1, .slice x X.out.2.2.length cx, .int .i64 X.steps, .int .i64 X.peak]) (by simp [results, Tryz.results22, go_sem, p0, p1, p2, p3, p4]) rfl ?_
    exact ⟨⟨x, cx, rfl, own_lowM (unhide OE) (unhide LE)⟩, unhide HKE, unhide HSZ⟩
  · have ilt : ¬ ((pk : Int) < ((ln : Nat) : Int)) := by omega
    have HC2 : Hid (Calls Tryz.prog 22 #[.agg #[.slice ap np cp, .int .i64 s, .slice (some ⟨ib, io, none⟩) ni ci], .agg #[.string R.cl, .string R.us, .int .i64 R.lv, .int .i64 R.nw, .slice a1 n1 c1, .slice a2 n2 c2], .int .i64 arg, .slice y (ln) yc, .slice (some ⟨lb, 0, none⟩) S S, .agg #[.int .i64 0, .int .i64 0, .slice none 0 0, .int .i64 ((n : Int) + 1), .int .i64 pk]] (w1) (RnG (w1).heap.size lb X (w1))) := hide (by
        have h := unhide HCC y yc ys ds (w1) (unhide HK) ((unhide HS).low (Nat.zero_le _)) (unhide HSL)
        rw [hm, Nat.max_eq_left (Nat.le_of_not_lt hpp)] at h
        exact h)
    have HKK := unhide HK
    clear HK
    have HM := hide hm
    clear HCC HS HSL RT hm hpp
    go_wp2_with fail
    refine (unhide HC2).mono ?_
    rintro r w5 ⟨⟨x, cx, rfl, OO⟩, k5, hsz⟩
    have HSZ := hide hsz
    have RZ5 := RZ.kpt k5 (by omega)
    obtain ⟨o0, o1, o2, o3, o4⟩ := row5M RZ5
    have of := fun j => RZ5.frozen j
    obtain ⟨p0, p1, p2, p3, p4⟩ := row5M (set5 RZ5 (.int .i64 X.out.1) (.int .i64 X.out.2.1) (.slice x X.out.2.2.length cx) (.int .i64 X.steps) (.int .i64 X.peak))
    have HKE := hide (kpt5 (b := w.heap.size + 1 + 1 + 1) (HKK.trans k5 (fun q _ h => h)) (by omega) (.int .i64 X.out.1) (.int .i64 X.out.2.1) (.slice x X.out.2.2.length cx) (.int .i64 X.steps) (.int .i64 X.peak))
    have ne : ∀ q, (Value.slice x X.out.2.2.length cx).ownBlock = some q → q ≠ w.heap.size + 1 + 1 + 1 := fun q hq h => own_ne_row RZ5 OO (by decide) (by rw [hq, h])
    have OE := hide (own5 OO ne (.int .i64 X.out.1) (.int .i64 X.out.2.1) (.slice x X.out.2.2.length cx) (.int .i64 X.steps) (.int .i64 X.peak))
    have LE := hide (show w.heap.size ≤ (w1).heap.size by have := HKK.size; simp at this ⊢; omega)
    clear RC RR RZ RI HKK k5 OO ne HC2 hsz k0 k1 k2 r0 r1 r2 r3 r4 r5 RZ5
    dsimp only
    go_wp2_with fail
    refine bodyPost_ret (v := .agg #[.int .i64 X.out.1, .int .i64 X.out.2.1, .slice x X.out.2.2.length cx, .int .i64 X.steps, .int .i64 X.peak]) (by simp [results, Tryz.results22, go_sem, p0, p1, p2, p3, p4]) rfl ?_
    exact ⟨⟨x, cx, rfl, own_lowM (unhide OE) (unhide LE)⟩, unhide HKE, unhide HSZ⟩

set_option maxRecDepth 100000 in
set_option maxHeartbeats 6400000 in
theorem m_unlessT (ap : Option Addr) (np cp : Nat) (s : Int) (ib io ni ci : Nat) (R : Rq) (a1 : Option Addr) (n1 c1 : Nat) (a2 : Option Addr) (n2 c2 : Nat) (at_ : Nat) (sa : Option Addr) (sc : Nat) (st : List Vv) (xs : List Value) (m : Nat) (lb S : Nat) (sl : List (Option Vv)) (cs : Array Value) (n pk : Nat) (arg : Int) (X : Rn) (w : World) (hln : st.length = m + 1) (i0 : w.cell? ⟨ib, io + at_ * 2, none⟩ = some (.int .i64 23)) (i1 : w.cell? ⟨ib, io + at_ * 2 + 1, none⟩ = some (.int .i64 arg)) (hib : ib < w.heap.size) (hat : at_ < ni) (hni : ni ≤ 20000) (hn : n ≤ 20000) (hpk : pk ≤ 100) (hlen : m + 1 ≤ 100) (hO : StO w 0 sa sc st xs) (hL : SlO w lb S sl cs) (htop : (h : m < st.length) → st[m] = .bool true) (HC : ∀ x c ys ds w', Kpt (fun k => k = lb) w w' → StO w' 0 x c (st.take m) ys → SlO w' lb S (sl) ds → Calls Tryz.prog 22 #[.agg #[.slice ap np cp, .int .i64 s, .slice (some ⟨ib, io, none⟩) ni ci], .agg #[.string R.cl, .string R.us, .int .i64 R.lv, .int .i64 R.nw, .slice a1 n1 c1, .slice a2 n2 c2], .int .i64 ((at_ : Int) + 1), .slice x (st.take m).length c, .slice (some ⟨lb, 0, none⟩) S S, .agg #[.int .i64 0, .int .i64 0, .slice none 0 0, .int .i64 ((n + 1 : Nat) : Int), .int .i64 ((max pk (st.take m).length : Nat) : Int)]] w' (RnG w'.heap.size lb X w')) :
    Calls Tryz.prog 22 #[.agg #[.slice ap np cp, .int .i64 s, .slice (some ⟨ib, io, none⟩) ni ci], .agg #[.string R.cl, .string R.us, .int .i64 R.lv, .int .i64 R.nw, .slice a1 n1 c1, .slice a2 n2 c2], .int .i64 at_, .slice sa (m + 1) sc, .slice (some ⟨lb, 0, none⟩) S S, .agg #[.int .i64 0, .int .i64 0, .slice none 0 0, .int .i64 n, .int .i64 pk]] w (RnG w.heap.size lb X w) := by
  have B4 := ((((Below.refl w.heap.size w).alloc (Nat.le_refl _) (.cells #[.slice ap np cp, .int .i64 s, .slice (some ⟨ib, io, none⟩) ni ci] 39)).alloc (by simp) (.cells #[.string R.cl, .string R.us, .int .i64 R.lv, .int .i64 R.nw, .slice a1 n1 c1, .slice a2 n2 c2] 41)).alloc (by simp; omega) (.cells #[.int .i64 0, .int .i64 0, .slice none 0 0, .int .i64 n, .int .i64 pk] 34)).alloc (by simp; omega) (.cells #[.int .i64 0, .int .i64 0, .slice none 0 0, .int .i64 0, .int .i64 0] 34)
  have d0 := (B4.cell (p := ⟨ib, io + at_ * 2, none⟩) hib).trans i0
  have d1 := (B4.cell (p := ⟨ib, io + at_ * 2 + 1, none⟩) hib).trans i1
  have B5 := ((((Below.refl w.heap.size w).alloc (Nat.le_refl _) (.cells #[.slice ap np cp, .int .i64 s, .slice (some ⟨ib, io, none⟩) ni ci] 39)).alloc (by simp) (.cells #[.string R.cl, .string R.us, .int .i64 R.lv, .int .i64 R.nw, .slice a1 n1 c1, .slice a2 n2 c2] 41)).alloc (by simp; omega) (.cells #[.int .i64 0, .int .i64 0, .slice none 0 0, .int .i64 ((n : Int) + 1), .int .i64 pk] 34)).alloc (by simp; omega) (.cells #[.int .i64 0, .int .i64 0, .slice none 0 0, .int .i64 0, .int .i64 0] 34) |>.alloc (by simp; omega) (.cells #[.int .i64 23, .int .i64 arg] 87)
  have RC := ((((Row.new w #[.slice ap np cp, .int .i64 s, .slice (some ⟨ib, io, none⟩) ni ci] 39).alloc (.cells #[.string R.cl, .string R.us, .int .i64 R.lv, .int .i64 R.nw, .slice a1 n1 c1, .slice a2 n2 c2] 41)).alloc (.cells #[.int .i64 0, .int .i64 0, .slice none 0 0, .int .i64 ((n : Int) + 1), .int .i64 pk] 34)).alloc (.cells #[.int .i64 0, .int .i64 0, .slice none 0 0, .int .i64 0, .int .i64 0] 34)).alloc (.cells #[.int .i64 23, .int .i64 arg] 87)
  have RR := (((Row.new (w.alloc (.cells #[.slice ap np cp, .int .i64 s, .slice (some ⟨ib, io, none⟩) ni ci] 39)) #[.string R.cl, .string R.us, .int .i64 R.lv, .int .i64 R.nw, .slice a1 n1 c1, .slice a2 n2 c2] 41).alloc (.cells #[.int .i64 0, .int .i64 0, .slice none 0 0, .int .i64 ((n : Int) + 1), .int .i64 pk] 34)).alloc (.cells #[.int .i64 0, .int .i64 0, .slice none 0 0, .int .i64 0, .int .i64 0] 34)).alloc (.cells #[.int .i64 23, .int .i64 arg] 87)
  have RT := ((Row.new ((w.alloc (.cells #[.slice ap np cp, .int .i64 s, .slice (some ⟨ib, io, none⟩) ni ci] 39)).alloc (.cells #[.string R.cl, .string R.us, .int .i64 R.lv, .int .i64 R.nw, .slice a1 n1 c1, .slice a2 n2 c2] 41)) #[.int .i64 0, .int .i64 0, .slice none 0 0, .int .i64 ((n : Int) + 1), .int .i64 pk] 34).alloc (.cells #[.int .i64 0, .int .i64 0, .slice none 0 0, .int .i64 0, .int .i64 0] 34)).alloc (.cells #[.int .i64 23, .int .i64 arg] 87)
  have RZ := (Row.new (((w.alloc (.cells #[.slice ap np cp, .int .i64 s, .slice (some ⟨ib, io, none⟩) ni ci] 39)).alloc (.cells #[.string R.cl, .string R.us, .int .i64 R.lv, .int .i64 R.nw, .slice a1 n1 c1, .slice a2 n2 c2] 41)).alloc (.cells #[.int .i64 0, .int .i64 0, .slice none 0 0, .int .i64 ((n : Int) + 1), .int .i64 pk] 34)) #[.int .i64 0, .int .i64 0, .slice none 0 0, .int .i64 0, .int .i64 0] 34).alloc (.cells #[.int .i64 23, .int .i64 arg] 87)
  have RI := Row.new ((((w.alloc (.cells #[.slice ap np cp, .int .i64 s, .slice (some ⟨ib, io, none⟩) ni ci] 39)).alloc (.cells #[.string R.cl, .string R.us, .int .i64 R.lv, .int .i64 R.nw, .slice a1 n1 c1, .slice a2 n2 c2] 41)).alloc (.cells #[.int .i64 0, .int .i64 0, .slice none 0 0, .int .i64 ((n : Int) + 1), .int .i64 pk] 34)).alloc (.cells #[.int .i64 0, .int .i64 0, .slice none 0 0, .int .i64 0, .int .i64 0] 34)) #[.int .i64 23, .int .i64 arg] 87
  simp only [World.size_alloc] at RR RT RZ RI
  have iat : (at_ : Int) < (ni : Int) := by omega
  have hO5 := hO.below B5 (Nat.le_refl _)
  have HL := hide (And.intro (hL.below B5 (Nat.le_refl _)) (And.intro hL.row.lt hL.len))
  have HB := hide B5
  have HN := hide (And.intro hlen (And.intro hpk hn))
  have HCC := hide HC
  have HLN := hide hln
  clear hO hL i0 i1 B5 HC hln
  go_enter Tryz.func22, Tryz.ntmps22
  go_wp2_with (at_builtin; refine append_stk rfl _ _ rfl w.heap.size 0 rfl sa (m + 1) sc st xs (unhide HLN) rfl hO5 (by omega) (by simp; omega) ?_)
  intro y yc w1 hS1 hb1
  have HS := hide hS1
  have Z1 : ((((((w.alloc (.cells #[.slice ap np cp, .int .i64 s, .slice (some ⟨ib, io, none⟩) ni ci] 39)).alloc (.cells #[.string R.cl, .string R.us, .int .i64 R.lv, .int .i64 R.nw, .slice a1 n1 c1, .slice a2 n2 c2] 41)).alloc (.cells #[.int .i64 0, .int .i64 0, .slice none 0 0, .int .i64 ((n : Int) + 1), .int .i64 pk] 34)).alloc (.cells #[.int .i64 0, .int .i64 0, .slice none 0 0, .int .i64 0, .int .i64 0] 34)).alloc (.cells #[.int .i64 23, .int .i64 arg] 87))).heap.size ≤ w.heap.size + 1 + 1 + 1 + 1 + 1 := by simp
  replace RC := RC.after hb1 Z1
  replace RR := RR.after hb1 Z1
  replace RT := RT.after hb1 Z1
  replace RZ := RZ.after hb1 Z1
  replace RI := RI.after hb1 Z1
  replace HL := hide (And.intro ((unhide HL).1.below hb1 Z1) (unhide HL).2)
  have HK := hide (show Kpt (fun k => k = lb) w w1 from Kpt.of_below ((unhide HB).trans (hb1.mono (by omega))))
  have HBw := hide ((unhide HB).trans (hb1.mono (by omega)))
  have LW : w.heap.size + 1 + 1 + 1 + 1 < w1.heap.size := RI.lt
  clear hO5 hS1 hb1 Z1 HB d0 d1 B4 iat hib hat hni hlen hn
  obtain ⟨ds, rfl⟩ : ∃ ds, ds = cs := ⟨cs, rfl⟩
  have HSL := hide (unhide HL).1
  have lbl := (unhide HL).2.1
  obtain ⟨i0, i1⟩ := row2M RI
  obtain ⟨g, num, text, av, nv, cv, rfl, hgB, hg, e0, e1, e2, e3, hv⟩ := (unhide HS).at m (by rw [unhide HLN]; omega)
  have hcap : m + 1 ≤ yc := by have := (unhide HS).cap; rw [unhide HLN] at this; exact this
  rw [htop] at hv
  obtain rfl : num = 1 := hv.1.1
  have hS2 := (unhide HS).short m (by rw [unhide HLN]; omega)
  obtain ⟨ys, hys⟩ : ∃ ys, ys = xs.take (m * 4) := ⟨_, rfl⟩
  rw [← hys] at hS2
  have HLX := hide (unhide HN).1
  replace HS := hide hS2
  have hm : (st.take m).length = m := by rw [List.length_take, unhide HLN]; omega
  have icap : ((m : Nat) : Int) ≤ ((yc : Nat) : Int) := by omega
  have hmb := (unhide HN).1
  clear hS2 hys hv htop e0 e2 e3
  obtain ⟨k0, k1, k2⟩ := row3M RC
  obtain ⟨r0, r1, r2, r3, r4, r5⟩ := row6M RR
  obtain ⟨t0, t1, t2, t3, t4⟩ := row5M RT
  have tf := fun j => RT.frozen j
  by_cases hpp : pk < m
  · have ilt : (pk : Int) < ((m : Nat) : Int) := by omega
    have HC2 : Hid (Calls Tryz.prog 22 #[.agg #[.slice ap np cp, .int .i64 s, .slice (some ⟨ib, io, none⟩) ni ci], .agg #[.string R.cl, .string R.us, .int .i64 R.lv, .int .i64 R.nw, .slice a1 n1 c1, .slice a2 n2 c2], .int .i64 ((at_ : Int) + 1), .slice (some ⟨g, 0, none⟩) (m) yc, .slice (some ⟨lb, 0, none⟩) S S, .agg #[.int .i64 0, .int .i64 0, .slice none 0 0, .int .i64 ((n : Int) + 1), .int .i64 (m : Nat)]] (w1.setCell ⟨w.heap.size + 1 + 1, 4, none⟩ (.int .i64 (m : Nat))) (RnG (w1.setCell ⟨w.heap.size + 1 + 1, 4, none⟩ (.int .i64 (m : Nat))).heap.size lb X (w1.setCell ⟨w.heap.size + 1 + 1, 4, none⟩ (.int .i64 (m : Nat))))) := hide (by
        have h := unhide HCC (some ⟨g, 0, none⟩) yc ys ds (w1.setCell ⟨w.heap.size + 1 + 1, 4, none⟩ (.int .i64 (m : Nat))) ((unhide HK).setCell (p := ⟨w.heap.size + 1 + 1, 4, none⟩) (fun h => absurd h (by simp; omega)) (.int .i64 (m : Nat))) (((unhide HS).low (Nat.zero_le _)).setR RT (by decide) (by decide) 4 _) ((unhide HSL).setR RT (by decide) (by decide) 4 _)
        rw [hm, Nat.max_eq_right (Nat.le_of_lt hpp)] at h
        exact h)
    replace RC := RC.setFar (p := ⟨w.heap.size + 1 + 1, 4, none⟩) (by show w.heap.size ≠ w.heap.size + 1 + 1; omega) (.int .i64 (m : Nat))
    replace RR := RR.setFar (p := ⟨w.heap.size + 1 + 1, 4, none⟩) (by show w.heap.size + 1 ≠ w.heap.size + 1 + 1; omega) (.int .i64 (m : Nat))
    replace RZ := RZ.setFar (p := ⟨w.heap.size + 1 + 1, 4, none⟩) (by show w.heap.size + 1 + 1 + 1 ≠ w.heap.size + 1 + 1; omega) (.int .i64 (m : Nat))
    have HKK := (unhide HK).setCell (p := ⟨w.heap.size + 1 + 1, 4, none⟩) (fun h => absurd h (by simp; omega)) (.int .i64 (m : Nat))
    clear HK
    have HM := hide hm
    clear HCC HS HSL RT hm hpp
    go_wp2_with fail
    refine (unhide HC2).mono ?_
    rintro r w5 ⟨⟨x, cx, rfl, OO⟩, k5, hsz⟩
    have HSZ := hide hsz
    have RZ5 := RZ.kpt k5 (by omega)
    obtain ⟨o0, o1, o2, o3, o4⟩ := row5M RZ5
    have of := fun j => RZ5.frozen j
    obtain ⟨p0, p1, p2, p3, p4⟩ := row5M (set5 RZ5 (.int .i64 X.out.1) (.int .i64 X.out.2.1) (.slice x X.out.2.2.length cx) (.int .i64 X.steps) (.int .i64 X.peak))
    have HKE := hide (kpt5 (b := w.heap.size + 1 + 1 + 1) (HKK.trans k5 (fun q _ h => h)) (by omega) (.int .i64 X.out.1) (.int .i64 X.out.2.1) (.slice x X.out.2.2.length cx) (.int .i64 X.steps) (.int .i64 X.peak))
    have ne : ∀ q, (Value.slice x X.out.2.2.length cx).ownBlock = some q → q ≠ w.heap.size + 1 + 1 + 1 := fun q hq h => own_ne_row RZ5 OO (by decide) (by rw [hq, h])
    have OE := hide (own5 OO ne (.int .i64 X.out.1) (.int .i64 X.out.2.1) (.slice x X.out.2.2.length cx) (.int .i64 X.steps) (.int .i64 X.peak))
    have LE := hide (show w.heap.size ≤ (w1.setCell ⟨w.heap.size + 1 + 1, 4, none⟩ (.int .i64 (m : Nat))).heap.size by have := HKK.size; simp at this ⊢; omega)
    clear RC RR RZ RI HKK k5 OO ne HC2 hsz k0 k1 k2 r0 r1 r2 r3 r4 r5 RZ5
    dsimp only
    go_wp2_with fail
    refine bodyPost_ret (v := .agg #[.int .i64 X.out.1, .int .i64 X.out.2.1, .slice x X.out.2.2.length cx, .int .i64 X.steps, .int .i64 X.peak]) (by simp [results, Tryz.results22, go_sem, p0, p1, p2, p3, p4]) rfl ?_
    exact ⟨⟨x, cx, rfl, own_lowM (unhide OE) (unhide LE)⟩, unhide HKE, unhide HSZ⟩
  · have ilt : ¬ ((pk : Int) < ((m : Nat) : Int)) := by omega
    have HC2 : Hid (Calls Tryz.prog 22 #[.agg #[.slice ap np cp, .int .i64 s, .slice (some ⟨ib, io, none⟩) ni ci], .agg #[.string R.cl, .string R.us, .int .i64 R.lv, .int .i64 R.nw, .slice a1 n1 c1, .slice a2 n2 c2], .int .i64 ((at_ : Int) + 1), .slice (some ⟨g, 0, none⟩) (m) yc, .slice (some ⟨lb, 0, none⟩) S S, .agg #[.int .i64 0, .int .i64 0, .slice none 0 0, .int .i64 ((n : Int) + 1), .int .i64 pk]] (w1) (RnG (w1).heap.size lb X (w1))) := hide (by
        have h := unhide HCC (some ⟨g, 0, none⟩) yc ys ds (w1) (unhide HK) ((unhide HS).low (Nat.zero_le _)) (unhide HSL)
        rw [hm, Nat.max_eq_left (Nat.le_of_not_lt hpp)] at h
        exact h)
    have HKK := unhide HK
    clear HK
    have HM := hide hm
    clear HCC HS HSL RT hm hpp
    go_wp2_with fail
    refine (unhide HC2).mono ?_
    rintro r w5 ⟨⟨x, cx, rfl, OO⟩, k5, hsz⟩
    have HSZ := hide hsz
    have RZ5 := RZ.kpt k5 (by omega)
    obtain ⟨o0, o1, o2, o3, o4⟩ := row5M RZ5
    have of := fun j => RZ5.frozen j
    obtain ⟨p0, p1, p2, p3, p4⟩ := row5M (set5 RZ5 (.int .i64 X.out.1) (.int .i64 X.out.2.1) (.slice x X.out.2.2.length cx) (.int .i64 X.steps) (.int .i64 X.peak))
    have HKE := hide (kpt5 (b := w.heap.size + 1 + 1 + 1) (HKK.trans k5 (fun q _ h => h)) (by omega) (.int .i64 X.out.1) (.int .i64 X.out.2.1) (.slice x X.out.2.2.length cx) (.int .i64 X.steps) (.int .i64 X.peak))
    have ne : ∀ q, (Value.slice x X.out.2.2.length cx).ownBlock = some q → q ≠ w.heap.size + 1 + 1 + 1 := fun q hq h => own_ne_row RZ5 OO (by decide) (by rw [hq, h])
    have OE := hide (own5 OO ne (.int .i64 X.out.1) (.int .i64 X.out.2.1) (.slice x X.out.2.2.length cx) (.int .i64 X.steps) (.int .i64 X.peak))
    have LE := hide (show w.heap.size ≤ (w1).heap.size by have := HKK.size; simp at this ⊢; omega)
    clear RC RR RZ RI HKK k5 OO ne HC2 hsz k0 k1 k2 r0 r1 r2 r3 r4 r5 RZ5
    dsimp only
    go_wp2_with fail
    refine bodyPost_ret (v := .agg #[.int .i64 X.out.1, .int .i64 X.out.2.1, .slice x X.out.2.2.length cx, .int .i64 X.steps, .int .i64 X.peak]) (by simp [results, Tryz.results22, go_sem, p0, p1, p2, p3, p4]) rfl ?_
    exact ⟨⟨x, cx, rfl, own_lowM (unhide OE) (unhide LE)⟩, unhide HKE, unhide HSZ⟩

set_option maxRecDepth 100000 in
set_option maxHeartbeats 6400000 in
theorem m_unlessF (ap : Option Addr) (np cp : Nat) (s : Int) (ib io ni ci : Nat) (R : Rq) (a1 : Option Addr) (n1 c1 : Nat) (a2 : Option Addr) (n2 c2 : Nat) (at_ : Nat) (sa : Option Addr) (sc : Nat) (st : List Vv) (xs : List Value) (m : Nat) (lb S : Nat) (sl : List (Option Vv)) (cs : Array Value) (n pk : Nat) (arg : Int) (X : Rn) (w : World) (hln : st.length = m + 1) (i0 : w.cell? ⟨ib, io + at_ * 2, none⟩ = some (.int .i64 23)) (i1 : w.cell? ⟨ib, io + at_ * 2 + 1, none⟩ = some (.int .i64 arg)) (hib : ib < w.heap.size) (hat : at_ < ni) (hni : ni ≤ 20000) (hn : n ≤ 20000) (hpk : pk ≤ 100) (hlen : m + 1 ≤ 100) (hO : StO w 0 sa sc st xs) (hL : SlO w lb S sl cs) (htop : (h : m < st.length) → st[m] = .bool false) (HC : ∀ x c ys ds w', Kpt (fun k => k = lb) w w' → StO w' 0 x c (st.take m) ys → SlO w' lb S (sl) ds → Calls Tryz.prog 22 #[.agg #[.slice ap np cp, .int .i64 s, .slice (some ⟨ib, io, none⟩) ni ci], .agg #[.string R.cl, .string R.us, .int .i64 R.lv, .int .i64 R.nw, .slice a1 n1 c1, .slice a2 n2 c2], .int .i64 arg, .slice x (st.take m).length c, .slice (some ⟨lb, 0, none⟩) S S, .agg #[.int .i64 0, .int .i64 0, .slice none 0 0, .int .i64 ((n + 1 : Nat) : Int), .int .i64 ((max pk (st.take m).length : Nat) : Int)]] w' (RnG w'.heap.size lb X w')) :
    Calls Tryz.prog 22 #[.agg #[.slice ap np cp, .int .i64 s, .slice (some ⟨ib, io, none⟩) ni ci], .agg #[.string R.cl, .string R.us, .int .i64 R.lv, .int .i64 R.nw, .slice a1 n1 c1, .slice a2 n2 c2], .int .i64 at_, .slice sa (m + 1) sc, .slice (some ⟨lb, 0, none⟩) S S, .agg #[.int .i64 0, .int .i64 0, .slice none 0 0, .int .i64 n, .int .i64 pk]] w (RnG w.heap.size lb X w) := by
  have B4 := ((((Below.refl w.heap.size w).alloc (Nat.le_refl _) (.cells #[.slice ap np cp, .int .i64 s, .slice (some ⟨ib, io, none⟩) ni ci] 39)).alloc (by simp) (.cells #[.string R.cl, .string R.us, .int .i64 R.lv, .int .i64 R.nw, .slice a1 n1 c1, .slice a2 n2 c2] 41)).alloc (by simp; omega) (.cells #[.int .i64 0, .int .i64 0, .slice none 0 0, .int .i64 n, .int .i64 pk] 34)).alloc (by simp; omega) (.cells #[.int .i64 0, .int .i64 0, .slice none 0 0, .int .i64 0, .int .i64 0] 34)
  have d0 := (B4.cell (p := ⟨ib, io + at_ * 2, none⟩) hib).trans i0
  have d1 := (B4.cell (p := ⟨ib, io + at_ * 2 + 1, none⟩) hib).trans i1
  have B5 := ((((Below.refl w.heap.size w).alloc (Nat.le_refl _) (.cells #[.slice ap np cp, .int .i64 s, .slice (some ⟨ib, io, none⟩) ni ci] 39)).alloc (by simp) (.cells #[.string R.cl, .string R.us, .int .i64 R.lv, .int .i64 R.nw, .slice a1 n1 c1, .slice a2 n2 c2] 41)).alloc (by simp; omega) (.cells #[.int .i64 0, .int .i64 0, .slice none 0 0, .int .i64 ((n : Int) + 1), .int .i64 pk] 34)).alloc (by simp; omega) (.cells #[.int .i64 0, .int .i64 0, .slice none 0 0, .int .i64 0, .int .i64 0] 34) |>.alloc (by simp; omega) (.cells #[.int .i64 23, .int .i64 arg] 87)
  have RC := ((((Row.new w #[.slice ap np cp, .int .i64 s, .slice (some ⟨ib, io, none⟩) ni ci] 39).alloc (.cells #[.string R.cl, .string R.us, .int .i64 R.lv, .int .i64 R.nw, .slice a1 n1 c1, .slice a2 n2 c2] 41)).alloc (.cells #[.int .i64 0, .int .i64 0, .slice none 0 0, .int .i64 ((n : Int) + 1), .int .i64 pk] 34)).alloc (.cells #[.int .i64 0, .int .i64 0, .slice none 0 0, .int .i64 0, .int .i64 0] 34)).alloc (.cells #[.int .i64 23, .int .i64 arg] 87)
  have RR := (((Row.new (w.alloc (.cells #[.slice ap np cp, .int .i64 s, .slice (some ⟨ib, io, none⟩) ni ci] 39)) #[.string R.cl, .string R.us, .int .i64 R.lv, .int .i64 R.nw, .slice a1 n1 c1, .slice a2 n2 c2] 41).alloc (.cells #[.int .i64 0, .int .i64 0, .slice none 0 0, .int .i64 ((n : Int) + 1), .int .i64 pk] 34)).alloc (.cells #[.int .i64 0, .int .i64 0, .slice none 0 0, .int .i64 0, .int .i64 0] 34)).alloc (.cells #[.int .i64 23, .int .i64 arg] 87)
  have RT := ((Row.new ((w.alloc (.cells #[.slice ap np cp, .int .i64 s, .slice (some ⟨ib, io, none⟩) ni ci] 39)).alloc (.cells #[.string R.cl, .string R.us, .int .i64 R.lv, .int .i64 R.nw, .slice a1 n1 c1, .slice a2 n2 c2] 41)) #[.int .i64 0, .int .i64 0, .slice none 0 0, .int .i64 ((n : Int) + 1), .int .i64 pk] 34).alloc (.cells #[.int .i64 0, .int .i64 0, .slice none 0 0, .int .i64 0, .int .i64 0] 34)).alloc (.cells #[.int .i64 23, .int .i64 arg] 87)
  have RZ := (Row.new (((w.alloc (.cells #[.slice ap np cp, .int .i64 s, .slice (some ⟨ib, io, none⟩) ni ci] 39)).alloc (.cells #[.string R.cl, .string R.us, .int .i64 R.lv, .int .i64 R.nw, .slice a1 n1 c1, .slice a2 n2 c2] 41)).alloc (.cells #[.int .i64 0, .int .i64 0, .slice none 0 0, .int .i64 ((n : Int) + 1), .int .i64 pk] 34)) #[.int .i64 0, .int .i64 0, .slice none 0 0, .int .i64 0, .int .i64 0] 34).alloc (.cells #[.int .i64 23, .int .i64 arg] 87)
  have RI := Row.new ((((w.alloc (.cells #[.slice ap np cp, .int .i64 s, .slice (some ⟨ib, io, none⟩) ni ci] 39)).alloc (.cells #[.string R.cl, .string R.us, .int .i64 R.lv, .int .i64 R.nw, .slice a1 n1 c1, .slice a2 n2 c2] 41)).alloc (.cells #[.int .i64 0, .int .i64 0, .slice none 0 0, .int .i64 ((n : Int) + 1), .int .i64 pk] 34)).alloc (.cells #[.int .i64 0, .int .i64 0, .slice none 0 0, .int .i64 0, .int .i64 0] 34)) #[.int .i64 23, .int .i64 arg] 87
  simp only [World.size_alloc] at RR RT RZ RI
  have iat : (at_ : Int) < (ni : Int) := by omega
  have hO5 := hO.below B5 (Nat.le_refl _)
  have HL := hide (And.intro (hL.below B5 (Nat.le_refl _)) (And.intro hL.row.lt hL.len))
  have HB := hide B5
  have HN := hide (And.intro hlen (And.intro hpk hn))
  have HCC := hide HC
  have HLN := hide hln
  clear hO hL i0 i1 B5 HC hln
  go_enter Tryz.func22, Tryz.ntmps22
  go_wp2_with (at_builtin; refine append_stk rfl _ _ rfl w.heap.size 0 rfl sa (m + 1) sc st xs (unhide HLN) rfl hO5 (by omega) (by simp; omega) ?_)
  intro y yc w1 hS1 hb1
  have HS := hide hS1
  have Z1 : ((((((w.alloc (.cells #[.slice ap np cp, .int .i64 s, .slice (some ⟨ib, io, none⟩) ni ci] 39)).alloc (.cells #[.string R.cl, .string R.us, .int .i64 R.lv, .int .i64 R.nw, .slice a1 n1 c1, .slice a2 n2 c2] 41)).alloc (.cells #[.int .i64 0, .int .i64 0, .slice none 0 0, .int .i64 ((n : Int) + 1), .int .i64 pk] 34)).alloc (.cells #[.int .i64 0, .int .i64 0, .slice none 0 0, .int .i64 0, .int .i64 0] 34)).alloc (.cells #[.int .i64 23, .int .i64 arg] 87))).heap.size ≤ w.heap.size + 1 + 1 + 1 + 1 + 1 := by simp
  replace RC := RC.after hb1 Z1
  replace RR := RR.after hb1 Z1
  replace RT := RT.after hb1 Z1
  replace RZ := RZ.after hb1 Z1
  replace RI := RI.after hb1 Z1
  replace HL := hide (And.intro ((unhide HL).1.below hb1 Z1) (unhide HL).2)
  have HK := hide (show Kpt (fun k => k = lb) w w1 from Kpt.of_below ((unhide HB).trans (hb1.mono (by omega))))
  have HBw := hide ((unhide HB).trans (hb1.mono (by omega)))
  have LW : w.heap.size + 1 + 1 + 1 + 1 < w1.heap.size := RI.lt
  clear hO5 hS1 hb1 Z1 HB d0 d1 B4 iat hib hat hni hlen hn
  obtain ⟨ds, rfl⟩ : ∃ ds, ds = cs := ⟨cs, rfl⟩
  have HSL := hide (unhide HL).1
  have lbl := (unhide HL).2.1
  obtain ⟨i0, i1⟩ := row2M RI
  obtain ⟨g, num, text, av, nv, cv, rfl, hgB, hg, e0, e1, e2, e3, hv⟩ := (unhide HS).at m (by rw [unhide HLN]; omega)
  have hcap : m + 1 ≤ yc := by have := (unhide HS).cap; rw [unhide HLN] at this; exact this
  rw [htop] at hv
  obtain rfl : num = 0 := hv.1.1
  have hS2 := (unhide HS).short m (by rw [unhide HLN]; omega)
  obtain ⟨ys, hys⟩ : ∃ ys, ys = xs.take (m * 4) := ⟨_, rfl⟩
  rw [← hys] at hS2
  have HLX := hide (unhide HN).1
  replace HS := hide hS2
  have hm : (st.take m).length = m := by rw [List.length_take, unhide HLN]; omega
  have icap : ((m : Nat) : Int) ≤ ((yc : Nat) : Int) := by omega
  have hmb := (unhide HN).1
  clear hS2 hys hv htop e0 e2 e3
  obtain ⟨k0, k1, k2⟩ := row3M RC
  obtain ⟨r0, r1, r2, r3, r4, r5⟩ := row6M RR
  obtain ⟨t0, t1, t2, t3, t4⟩ := row5M RT
  have tf := fun j => RT.frozen j
  by_cases hpp : pk < m
  · have ilt : (pk : Int) < ((m : Nat) : Int) := by omega
    have HC2 : Hid (Calls Tryz.prog 22 #[.agg #[.slice ap np cp, .int .i64 s, .slice (some ⟨ib, io, none⟩) ni ci], .agg #[.string R.cl, .string R.us, .int .i64 R.lv, .int .i64 R.nw, .slice a1 n1 c1, .slice a2 n2 c2], .int .i64 arg, .slice (some ⟨g, 0, none⟩) (m) yc, .slice (some ⟨lb, 0, none⟩) S S, .agg #[.int .i64 0, .int .i64 0, .slice none 0 0, .int .i64 ((n : Int) + 1), .int .i64 (m : Nat)]] (w1.setCell ⟨w.heap.size + 1 + 1, 4, none⟩ (.int .i64 (m : Nat))) (RnG (w1.setCell ⟨w.heap.size + 1 + 1, 4, none⟩ (.int .i64 (m : Nat))).heap.size lb X (w1.setCell ⟨w.heap.size + 1 + 1, 4, none⟩ (.int .i64 (m : Nat))))) := hide (by
        have h := unhide HCC (some ⟨g, 0, none⟩) yc ys ds (w1.setCell ⟨w.heap.size + 1 + 1, 4, none⟩ (.int .i64 (m : Nat))) ((unhide HK).setCell (p := ⟨w.heap.size + 1 + 1, 4, none⟩) (fun h => absurd h (by simp; omega)) (.int .i64 (m : Nat))) (((unhide HS).low (Nat.zero_le _)).setR RT (by decide) (by decide) 4 _) ((unhide HSL).setR RT (by decide) (by decide) 4 _)
        rw [hm, Nat.max_eq_right (Nat.le_of_lt hpp)] at h
        exact h)
    replace RC := RC.setFar (p := ⟨w.heap.size + 1 + 1, 4, none⟩) (by show w.heap.size ≠ w.heap.size + 1 + 1; omega) (.int .i64 (m : Nat))
    replace RR := RR.setFar (p := ⟨w.heap.size + 1 + 1, 4, none⟩) (by show w.heap.size + 1 ≠ w.heap.size + 1 + 1; omega) (.int .i64 (m : Nat))
    replace RZ := RZ.setFar (p := ⟨w.heap.size + 1 + 1, 4, none⟩) (by show w.heap.size + 1 + 1 + 1 ≠ w.heap.size + 1 + 1; omega) (.int .i64 (m : Nat))
    have HKK := (unhide HK).setCell (p := ⟨w.heap.size + 1 + 1, 4, none⟩) (fun h => absurd h (by simp; omega)) (.int .i64 (m : Nat))
    clear HK
    have HM := hide hm
    clear HCC HS HSL RT hm hpp
    go_wp2_with fail
    refine (unhide HC2).mono ?_
    rintro r w5 ⟨⟨x, cx, rfl, OO⟩, k5, hsz⟩
    have HSZ := hide hsz
    have RZ5 := RZ.kpt k5 (by omega)
    obtain ⟨o0, o1, o2, o3, o4⟩ := row5M RZ5
    have of := fun j => RZ5.frozen j
    obtain ⟨p0, p1, p2, p3, p4⟩ := row5M (set5 RZ5 (.int .i64 X.out.1) (.int .i64 X.out.2.1) (.slice x X.out.2.2.length cx) (.int .i64 X.steps) (.int .i64 X.peak))
    have HKE := hide (kpt5 (b := w.heap.size + 1 + 1 + 1) (HKK.trans k5 (fun q _ h => h)) (by omega) (.int .i64 X.out.1) (.int .i64 X.out.2.1) (.slice x X.out.2.2.length cx) (.int .i64 X.steps) (.int .i64 X.peak))
    have ne : ∀ q, (Value.slice x X.out.2.2.length cx).ownBlock = some q → q ≠ w.heap.size + 1 + 1 + 1 := fun q hq h => own_ne_row RZ5 OO (by decide) (by rw [hq, h])
    have OE := hide (own5 OO ne (.int .i64 X.out.1) (.int .i64 X.out.2.1) (.slice x X.out.2.2.length cx) (.int .i64 X.steps) (.int .i64 X.peak))
    have LE := hide (show w.heap.size ≤ (w1.setCell ⟨w.heap.size + 1 + 1, 4, none⟩ (.int .i64 (m : Nat))).heap.size by have := HKK.size; simp at this ⊢; omega)
    clear RC RR RZ RI HKK k5 OO ne HC2 hsz k0 k1 k2 r0 r1 r2 r3 r4 r5 RZ5
    dsimp only
    go_wp2_with fail
    refine bodyPost_ret (v := .agg #[.int .i64 X.out.1, .int .i64 X.out.2.1, .slice x X.out.2.2.length cx, .int .i64 X.steps, .int .i64 X.peak]) (by simp [results, Tryz.results22, go_sem, p0, p1, p2, p3, p4]) rfl ?_
    exact ⟨⟨x, cx, rfl, own_lowM (unhide OE) (unhide LE)⟩, unhide HKE, unhide HSZ⟩
  · have ilt : ¬ ((pk : Int) < ((m : Nat) : Int)) := by omega
    have HC2 : Hid (Calls Tryz.prog 22 #[.agg #[.slice ap np cp, .int .i64 s, .slice (some ⟨ib, io, none⟩) ni ci], .agg #[.string R.cl, .string R.us, .int .i64 R.lv, .int .i64 R.nw, .slice a1 n1 c1, .slice a2 n2 c2], .int .i64 arg, .slice (some ⟨g, 0, none⟩) (m) yc, .slice (some ⟨lb, 0, none⟩) S S, .agg #[.int .i64 0, .int .i64 0, .slice none 0 0, .int .i64 ((n : Int) + 1), .int .i64 pk]] (w1) (RnG (w1).heap.size lb X (w1))) := hide (by
        have h := unhide HCC (some ⟨g, 0, none⟩) yc ys ds (w1) (unhide HK) ((unhide HS).low (Nat.zero_le _)) (unhide HSL)
        rw [hm, Nat.max_eq_left (Nat.le_of_not_lt hpp)] at h
        exact h)
    have HKK := unhide HK
    clear HK
    have HM := hide hm
    clear HCC HS HSL RT hm hpp
    go_wp2_with fail
    refine (unhide HC2).mono ?_
    rintro r w5 ⟨⟨x, cx, rfl, OO⟩, k5, hsz⟩
    have HSZ := hide hsz
    have RZ5 := RZ.kpt k5 (by omega)
    obtain ⟨o0, o1, o2, o3, o4⟩ := row5M RZ5
    have of := fun j => RZ5.frozen j
    obtain ⟨p0, p1, p2, p3, p4⟩ := row5M (set5 RZ5 (.int .i64 X.out.1) (.int .i64 X.out.2.1) (.slice x X.out.2.2.length cx) (.int .i64 X.steps) (.int .i64 X.peak))
    have HKE := hide (kpt5 (b := w.heap.size + 1 + 1 + 1) (HKK.trans k5 (fun q _ h => h)) (by omega) (.int .i64 X.out.1) (.int .i64 X.out.2.1) (.slice x X.out.2.2.length cx) (.int .i64 X.steps) (.int .i64 X.peak))
    have ne : ∀ q, (Value.slice x X.out.2.2.length cx).ownBlock = some q → q ≠ w.heap.size + 1 + 1 + 1 := fun q hq h => own_ne_row RZ5 OO (by decide) (by rw [hq, h])
    have OE := hide (own5 OO ne (.int .i64 X.out.1) (.int .i64 X.out.2.1) (.slice x X.out.2.2.length cx) (.int .i64 X.steps) (.int .i64 X.peak))
    have LE := hide (show w.heap.size ≤ (w1).heap.size by have := HKK.size; simp at this ⊢; omega)
    clear RC RR RZ RI HKK k5 OO ne HC2 hsz k0 k1 k2 r0 r1 r2 r3 r4 r5 RZ5
    dsimp only
    go_wp2_with fail
    refine bodyPost_ret (v := .agg #[.int .i64 X.out.1, .int .i64 X.out.2.1, .slice x X.out.2.2.length cx, .int .i64 X.steps, .int .i64 X.peak]) (by simp [results, Tryz.results22, go_sem, p0, p1, p2, p3, p4]) rfl ?_
    exact ⟨⟨x, cx, rfl, own_lowM (unhide OE) (unhide LE)⟩, unhide HKE, unhide HSZ⟩

end Go.Proofs.YtogenboibgddaaaGreatDoor

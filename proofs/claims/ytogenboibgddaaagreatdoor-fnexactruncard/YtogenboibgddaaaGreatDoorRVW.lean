/-
  The model's machine: its ends. Own work.
-/
import Derived.Test.YtogenboibgddaaaGreatDoorMXAL
import Derived.Test.YtogenboibgddaaaGreatDoorMXAK
namespace Go.Proofs.YtogenboibgddaaaGreatDoor
open Go.RowKit
set_option linter.unusedVariables false

set_option maxRecDepth 100000 in
set_option maxHeartbeats 6400000 in
theorem m_deny (ap : Option Addr) (np cp : Nat) (s : Int) (ib io ni ci : Nat) (R : Rq) (a1 : Option Addr) (n1 c1 : Nat) (a2 : Option Addr) (n2 c2 : Nat) (at_ : Nat) (sa : Option Addr) (sc : Nat) (st : List Vv) (xs : List Value) (ln : Nat) (lb S : Nat) (sl : List (Option Vv)) (cs : Array Value) (n pk : Nat) (arg : Int) (w : World) (hln : st.length = ln) (i0 : w.cell? ⟨ib, io + at_ * 2, none⟩ = some (.int .i64 24)) (i1 : w.cell? ⟨ib, io + at_ * 2 + 1, none⟩ = some (.int .i64 arg)) (hib : ib < w.heap.size) (hat : at_ < ni) (hni : ni ≤ 20000) (hn : n ≤ 20000) (hpk : pk ≤ 100) (hlen : ln ≤ 100) (hO : StO w 0 sa sc st xs) (hL : SlO w lb S sl cs)  :
    Calls Tryz.prog 22 #[.agg #[.slice ap np cp, .int .i64 s, .slice (some ⟨ib, io, none⟩) ni ci], .agg #[.string R.cl, .string R.us, .int .i64 R.lv, .int .i64 R.nw, .slice a1 n1 c1, .slice a2 n2 c2], .int .i64 at_, .slice sa (ln) sc, .slice (some ⟨lb, 0, none⟩) S S, .agg #[.int .i64 0, .int .i64 0, .slice none 0 0, .int .i64 n, .int .i64 pk]] w (RnG w.heap.size lb ⟨(1, 0, []), n + 1, pk⟩ w) := by
  have B4 := ((((Below.refl w.heap.size w).alloc (Nat.le_refl _) (.cells #[.slice ap np cp, .int .i64 s, .slice (some ⟨ib, io, none⟩) ni ci] 39)).alloc (by simp) (.cells #[.string R.cl, .string R.us, .int .i64 R.lv, .int .i64 R.nw, .slice a1 n1 c1, .slice a2 n2 c2] 41)).alloc (by simp; omega) (.cells #[.int .i64 0, .int .i64 0, .slice none 0 0, .int .i64 n, .int .i64 pk] 34)).alloc (by simp; omega) (.cells #[.int .i64 0, .int .i64 0, .slice none 0 0, .int .i64 0, .int .i64 0] 34)
  have d0 := (B4.cell (p := ⟨ib, io + at_ * 2, none⟩) hib).trans i0
  have d1 := (B4.cell (p := ⟨ib, io + at_ * 2 + 1, none⟩) hib).trans i1
  have B5 := ((((Below.refl w.heap.size w).alloc (Nat.le_refl _) (.cells #[.slice ap np cp, .int .i64 s, .slice (some ⟨ib, io, none⟩) ni ci] 39)).alloc (by simp) (.cells #[.string R.cl, .string R.us, .int .i64 R.lv, .int .i64 R.nw, .slice a1 n1 c1, .slice a2 n2 c2] 41)).alloc (by simp; omega) (.cells #[.int .i64 0, .int .i64 0, .slice none 0 0, .int .i64 ((n : Int) + 1), .int .i64 pk] 34)).alloc (by simp; omega) (.cells #[.int .i64 0, .int .i64 0, .slice none 0 0, .int .i64 0, .int .i64 0] 34) |>.alloc (by simp; omega) (.cells #[.int .i64 24, .int .i64 arg] 87)
  have RC := ((((Row.new w #[.slice ap np cp, .int .i64 s, .slice (some ⟨ib, io, none⟩) ni ci] 39).alloc (.cells #[.string R.cl, .string R.us, .int .i64 R.lv, .int .i64 R.nw, .slice a1 n1 c1, .slice a2 n2 c2] 41)).alloc (.cells #[.int .i64 0, .int .i64 0, .slice none 0 0, .int .i64 ((n : Int) + 1), .int .i64 pk] 34)).alloc (.cells #[.int .i64 0, .int .i64 0, .slice none 0 0, .int .i64 0, .int .i64 0] 34)).alloc (.cells #[.int .i64 24, .int .i64 arg] 87)
  have RR := (((Row.new (w.alloc (.cells #[.slice ap np cp, .int .i64 s, .slice (some ⟨ib, io, none⟩) ni ci] 39)) #[.string R.cl, .string R.us, .int .i64 R.lv, .int .i64 R.nw, .slice a1 n1 c1, .slice a2 n2 c2] 41).alloc (.cells #[.int .i64 0, .int .i64 0, .slice none 0 0, .int .i64 ((n : Int) + 1), .int .i64 pk] 34)).alloc (.cells #[.int .i64 0, .int .i64 0, .slice none 0 0, .int .i64 0, .int .i64 0] 34)).alloc (.cells #[.int .i64 24, .int .i64 arg] 87)
  have RT := ((Row.new ((w.alloc (.cells #[.slice ap np cp, .int .i64 s, .slice (some ⟨ib, io, none⟩) ni ci] 39)).alloc (.cells #[.string R.cl, .string R.us, .int .i64 R.lv, .int .i64 R.nw, .slice a1 n1 c1, .slice a2 n2 c2] 41)) #[.int .i64 0, .int .i64 0, .slice none 0 0, .int .i64 ((n : Int) + 1), .int .i64 pk] 34).alloc (.cells #[.int .i64 0, .int .i64 0, .slice none 0 0, .int .i64 0, .int .i64 0] 34)).alloc (.cells #[.int .i64 24, .int .i64 arg] 87)
  have RZ := (Row.new (((w.alloc (.cells #[.slice ap np cp, .int .i64 s, .slice (some ⟨ib, io, none⟩) ni ci] 39)).alloc (.cells #[.string R.cl, .string R.us, .int .i64 R.lv, .int .i64 R.nw, .slice a1 n1 c1, .slice a2 n2 c2] 41)).alloc (.cells #[.int .i64 0, .int .i64 0, .slice none 0 0, .int .i64 ((n : Int) + 1), .int .i64 pk] 34)) #[.int .i64 0, .int .i64 0, .slice none 0 0, .int .i64 0, .int .i64 0] 34).alloc (.cells #[.int .i64 24, .int .i64 arg] 87)
  have RI := Row.new ((((w.alloc (.cells #[.slice ap np cp, .int .i64 s, .slice (some ⟨ib, io, none⟩) ni ci] 39)).alloc (.cells #[.string R.cl, .string R.us, .int .i64 R.lv, .int .i64 R.nw, .slice a1 n1 c1, .slice a2 n2 c2] 41)).alloc (.cells #[.int .i64 0, .int .i64 0, .slice none 0 0, .int .i64 ((n : Int) + 1), .int .i64 pk] 34)).alloc (.cells #[.int .i64 0, .int .i64 0, .slice none 0 0, .int .i64 0, .int .i64 0] 34)) #[.int .i64 24, .int .i64 arg] 87
  simp only [World.size_alloc] at RR RT RZ RI
  have iat : (at_ : Int) < (ni : Int) := by omega
  have hO5 := hO.below B5 (Nat.le_refl _)
  have HL := hide (And.intro (hL.below B5 (Nat.le_refl _)) (And.intro hL.row.lt hL.len))
  have HB := hide B5
  have HN := hide (And.intro hlen (And.intro hpk hn))
  have HLN := hide hln
  clear hO hL i0 i1 B5 hln
  go_enter Tryz.func22, Tryz.ntmps22
  go_wp2_with (at_builtin; refine append_stk rfl _ _ rfl w.heap.size 0 rfl sa (ln) sc st xs (unhide HLN) rfl hO5 (by omega) (by simp; omega) ?_)
  intro y yc w1 hS1 hb1
  have HS := hide hS1
  have Z1 : ((((((w.alloc (.cells #[.slice ap np cp, .int .i64 s, .slice (some ⟨ib, io, none⟩) ni ci] 39)).alloc (.cells #[.string R.cl, .string R.us, .int .i64 R.lv, .int .i64 R.nw, .slice a1 n1 c1, .slice a2 n2 c2] 41)).alloc (.cells #[.int .i64 0, .int .i64 0, .slice none 0 0, .int .i64 ((n : Int) + 1), .int .i64 pk] 34)).alloc (.cells #[.int .i64 0, .int .i64 0, .slice none 0 0, .int .i64 0, .int .i64 0] 34)).alloc (.cells #[.int .i64 24, .int .i64 arg] 87))).heap.size ≤ w.heap.size + 1 + 1 + 1 + 1 + 1 := by simp
  replace RC := RC.after hb1 Z1
  replace RR := RR.after hb1 Z1
  replace RT := RT.after hb1 Z1
  replace RZ := RZ.after hb1 Z1
  replace RI := RI.after hb1 Z1
  replace HL := hide (And.intro ((unhide HL).1.below hb1 Z1) (unhide HL).2)
  have HK := hide (show Kpt (fun k => k = lb) w w1 from Kpt.of_below ((unhide HB).trans (hb1.mono (by omega))))
  have HBw := hide ((unhide HB).trans (hb1.mono (by omega)))
  have LW : w.heap.size + 1 + 1 + 1 + 1 < w1.heap.size := RI.lt
  clear hO5 hS1 hb1 Z1 HB d0 d1 B4 iat hib hat hni hlen hn
  have lbl := (unhide HL).2.1
  obtain ⟨i0, i1⟩ := row2M RI
  obtain ⟨k0, k1, k2⟩ := row3M RC
  obtain ⟨r0, r1, r2, r3, r4, r5⟩ := row6M RR
  obtain ⟨t0, t1, t2, t3, t4⟩ := row5M RT
  have tf := fun j => RT.frozen j
  obtain ⟨z0, z1, z2, z3, z4⟩ := row5M RZ
  have zf := fun j => RZ.frozen j
  have RZ3 := ((RZ.setFar (p := ⟨w.heap.size + 1 + 1, 0, none⟩) (by show w.heap.size + 1 + 1 + 1 ≠ w.heap.size + 1 + 1; omega) (.int .i64 1)).setFar (p := ⟨w.heap.size + 1 + 1, 1, none⟩) (by show w.heap.size + 1 + 1 + 1 ≠ w.heap.size + 1 + 1; omega) (.int .i64 0)).setFar (p := ⟨w.heap.size + 1 + 1, 2, none⟩) (by show w.heap.size + 1 + 1 + 1 ≠ w.heap.size + 1 + 1; omega) (.slice none 0 0)
  obtain ⟨p0, p1, p2, p3, p4⟩ := row5M (set5 RZ3 (.int .i64 1) (.int .i64 0) (.slice none 0 0) (.int .i64 ((n : Int) + 1)) (.int .i64 pk))
  have HKE := hide (kpt5 (b := w.heap.size + 1 + 1 + 1) (kpt3 (b := w.heap.size + 1 + 1) (unhide HK) (Or.inl (by omega)) (.int .i64 1) (.int .i64 0) (.slice none 0 0)) (by omega) (.int .i64 1) (.int .i64 0) (.slice none 0 0) (.int .i64 ((n : Int) + 1)) (.int .i64 pk))
  clear RZ3 HK HS HL RC RR RT RZ RI
  go_wp2_with fail
  refine bodyPost_ret (v := .agg #[.int .i64 1, .int .i64 0, .slice none 0 0, .int .i64 ((n : Int) + 1), .int .i64 pk]) (by simp [results, Tryz.results22, go_sem, p0, p1, p2, p3, p4]) rfl ?_
  exact ⟨⟨none, 0, rfl, World.ownsRow_nil _ _ _ _⟩, unhide HKE, Nat.zero_le _, fun j h => absurd h (Nat.not_lt_zero _)⟩

set_option maxRecDepth 100000 in
set_option maxHeartbeats 6400000 in
theorem m_grant (ap : Option Addr) (np cp : Nat) (s : Int) (ib io ni ci : Nat) (R : Rq) (a1 : Option Addr) (n1 c1 : Nat) (a2 : Option Addr) (n2 c2 : Nat) (at_ : Nat) (sa : Option Addr) (sc : Nat) (st : List Vv) (xs : List Value) (m : Nat) (lb S : Nat) (sl : List (Option Vv)) (cs : Array Value) (n pk : Nat) (arg : Int) (w : World) (hln : st.length = m + 1) (i0 : w.cell? ⟨ib, io + at_ * 2, none⟩ = some (.int .i64 25)) (i1 : w.cell? ⟨ib, io + at_ * 2 + 1, none⟩ = some (.int .i64 arg)) (hib : ib < w.heap.size) (hat : at_ < ni) (hni : ni ≤ 20000) (hn : n ≤ 20000) (hpk : pk ≤ 100) (hlen : m + 1 ≤ 100) (hO : StO w 0 sa sc st xs) (hL : SlO w lb S sl cs) (ss : List ByteArray) (htop : (h : m < st.length) → st[m] = .set ss) :
    Calls Tryz.prog 22 #[.agg #[.slice ap np cp, .int .i64 s, .slice (some ⟨ib, io, none⟩) ni ci], .agg #[.string R.cl, .string R.us, .int .i64 R.lv, .int .i64 R.nw, .slice a1 n1 c1, .slice a2 n2 c2], .int .i64 at_, .slice sa (m + 1) sc, .slice (some ⟨lb, 0, none⟩) S S, .agg #[.int .i64 0, .int .i64 0, .slice none 0 0, .int .i64 n, .int .i64 pk]] w (RnG w.heap.size lb ⟨(2, 0, ss), n + 1, pk⟩ w) := by
  have B4 := ((((Below.refl w.heap.size w).alloc (Nat.le_refl _) (.cells #[.slice ap np cp, .int .i64 s, .slice (some ⟨ib, io, none⟩) ni ci] 39)).alloc (by simp) (.cells #[.string R.cl, .string R.us, .int .i64 R.lv, .int .i64 R.nw, .slice a1 n1 c1, .slice a2 n2 c2] 41)).alloc (by simp; omega) (.cells #[.int .i64 0, .int .i64 0, .slice none 0 0, .int .i64 n, .int .i64 pk] 34)).alloc (by simp; omega) (.cells #[.int .i64 0, .int .i64 0, .slice none 0 0, .int .i64 0, .int .i64 0] 34)
  have d0 := (B4.cell (p := ⟨ib, io + at_ * 2, none⟩) hib).trans i0
  have d1 := (B4.cell (p := ⟨ib, io + at_ * 2 + 1, none⟩) hib).trans i1
  have B5 := ((((Below.refl w.heap.size w).alloc (Nat.le_refl _) (.cells #[.slice ap np cp, .int .i64 s, .slice (some ⟨ib, io, none⟩) ni ci] 39)).alloc (by simp) (.cells #[.string R.cl, .string R.us, .int .i64 R.lv, .int .i64 R.nw, .slice a1 n1 c1, .slice a2 n2 c2] 41)).alloc (by simp; omega) (.cells #[.int .i64 0, .int .i64 0, .slice none 0 0, .int .i64 ((n : Int) + 1), .int .i64 pk] 34)).alloc (by simp; omega) (.cells #[.int .i64 0, .int .i64 0, .slice none 0 0, .int .i64 0, .int .i64 0] 34) |>.alloc (by simp; omega) (.cells #[.int .i64 25, .int .i64 arg] 87)
  have RC := ((((Row.new w #[.slice ap np cp, .int .i64 s, .slice (some ⟨ib, io, none⟩) ni ci] 39).alloc (.cells #[.string R.cl, .string R.us, .int .i64 R.lv, .int .i64 R.nw, .slice a1 n1 c1, .slice a2 n2 c2] 41)).alloc (.cells #[.int .i64 0, .int .i64 0, .slice none 0 0, .int .i64 ((n : Int) + 1), .int .i64 pk] 34)).alloc (.cells #[.int .i64 0, .int .i64 0, .slice none 0 0, .int .i64 0, .int .i64 0] 34)).alloc (.cells #[.int .i64 25, .int .i64 arg] 87)
  have RR := (((Row.new (w.alloc (.cells #[.slice ap np cp, .int .i64 s, .slice (some ⟨ib, io, none⟩) ni ci] 39)) #[.string R.cl, .string R.us, .int .i64 R.lv, .int .i64 R.nw, .slice a1 n1 c1, .slice a2 n2 c2] 41).alloc (.cells #[.int .i64 0, .int .i64 0, .slice none 0 0, .int .i64 ((n : Int) + 1), .int .i64 pk] 34)).alloc (.cells #[.int .i64 0, .int .i64 0, .slice none 0 0, .int .i64 0, .int .i64 0] 34)).alloc (.cells #[.int .i64 25, .int .i64 arg] 87)
  have RT := ((Row.new ((w.alloc (.cells #[.slice ap np cp, .int .i64 s, .slice (some ⟨ib, io, none⟩) ni ci] 39)).alloc (.cells #[.string R.cl, .string R.us, .int .i64 R.lv, .int .i64 R.nw, .slice a1 n1 c1, .slice a2 n2 c2] 41)) #[.int .i64 0, .int .i64 0, .slice none 0 0, .int .i64 ((n : Int) + 1), .int .i64 pk] 34).alloc (.cells #[.int .i64 0, .int .i64 0, .slice none 0 0, .int .i64 0, .int .i64 0] 34)).alloc (.cells #[.int .i64 25, .int .i64 arg] 87)
  have RZ := (Row.new (((w.alloc (.cells #[.slice ap np cp, .int .i64 s, .slice (some ⟨ib, io, none⟩) ni ci] 39)).alloc (.cells #[.string R.cl, .string R.us, .int .i64 R.lv, .int .i64 R.nw, .slice a1 n1 c1, .slice a2 n2 c2] 41)).alloc (.cells #[.int .i64 0, .int .i64 0, .slice none 0 0, .int .i64 ((n : Int) + 1), .int .i64 pk] 34)) #[.int .i64 0, .int .i64 0, .slice none 0 0, .int .i64 0, .int .i64 0] 34).alloc (.cells #[.int .i64 25, .int .i64 arg] 87)
  have RI := Row.new ((((w.alloc (.cells #[.slice ap np cp, .int .i64 s, .slice (some ⟨ib, io, none⟩) ni ci] 39)).alloc (.cells #[.string R.cl, .string R.us, .int .i64 R.lv, .int .i64 R.nw, .slice a1 n1 c1, .slice a2 n2 c2] 41)).alloc (.cells #[.int .i64 0, .int .i64 0, .slice none 0 0, .int .i64 ((n : Int) + 1), .int .i64 pk] 34)).alloc (.cells #[.int .i64 0, .int .i64 0, .slice none 0 0, .int .i64 0, .int .i64 0] 34)) #[.int .i64 25, .int .i64 arg] 87
  simp only [World.size_alloc] at RR RT RZ RI
  have iat : (at_ : Int) < (ni : Int) := by omega
  have hO5 := hO.below B5 (Nat.le_refl _)
  have HL := hide (And.intro (hL.below B5 (Nat.le_refl _)) (And.intro hL.row.lt hL.len))
  have HB := hide B5
  have HN := hide (And.intro hlen (And.intro hpk hn))
  have HLN := hide hln
  clear hO hL i0 i1 B5 hln
  go_enter Tryz.func22, Tryz.ntmps22
  go_wp2_with (at_builtin; refine append_stk rfl _ _ rfl w.heap.size 0 rfl sa (m + 1) sc st xs (unhide HLN) rfl hO5 (by omega) (by simp; omega) ?_)
  intro y yc w1 hS1 hb1
  have HS := hide hS1
  have Z1 : ((((((w.alloc (.cells #[.slice ap np cp, .int .i64 s, .slice (some ⟨ib, io, none⟩) ni ci] 39)).alloc (.cells #[.string R.cl, .string R.us, .int .i64 R.lv, .int .i64 R.nw, .slice a1 n1 c1, .slice a2 n2 c2] 41)).alloc (.cells #[.int .i64 0, .int .i64 0, .slice none 0 0, .int .i64 ((n : Int) + 1), .int .i64 pk] 34)).alloc (.cells #[.int .i64 0, .int .i64 0, .slice none 0 0, .int .i64 0, .int .i64 0] 34)).alloc (.cells #[.int .i64 25, .int .i64 arg] 87))).heap.size ≤ w.heap.size + 1 + 1 + 1 + 1 + 1 := by simp
  replace RC := RC.after hb1 Z1
  replace RR := RR.after hb1 Z1
  replace RT := RT.after hb1 Z1
  replace RZ := RZ.after hb1 Z1
  replace RI := RI.after hb1 Z1
  replace HL := hide (And.intro ((unhide HL).1.below hb1 Z1) (unhide HL).2)
  have HK := hide (show Kpt (fun k => k = lb) w w1 from Kpt.of_below ((unhide HB).trans (hb1.mono (by omega))))
  have HBw := hide ((unhide HB).trans (hb1.mono (by omega)))
  have LW : w.heap.size + 1 + 1 + 1 + 1 < w1.heap.size := RI.lt
  clear hO5 hS1 hb1 Z1 HB d0 d1 B4 iat hib hat hni hlen hn
  have lbl := (unhide HL).2.1
  obtain ⟨i0, i1⟩ := row2M RI
  obtain ⟨g, num, text, av, nv, cv, rfl, hgB, hg, e0, e1, e2, e3, hv⟩ := (unhide HS).at m (by rw [unhide HLN]; omega)
  have hcap : m + 1 ≤ yc := by have := (unhide HS).cap; rw [unhide HLN] at this; exact this
  rw [htop] at hv
  have neg : g ≠ w.heap.size + 1 + 1 := fun e => own_ne_row RT (unhide HS).1 (by decide) (by rw [← e]; rfl)
  have hT : ∀ b cs, Row w1 b cs 9 → ¬ b = w.heap.size + 1 + 1 := fun b cs r => Row.ne r RT (by decide)
  have K3 := kpt3 (S := fun k => k = w.heap.size + 1 + 1) (b := w.heap.size + 1 + 1) (Kpt.refl _ w1) (Or.inr rfl) (.int .i64 2) (.int .i64 0) (.slice none 0 0)
  have hv3 := hv.kpt K3 hT
  have c3 : (((w1.setCell ⟨w.heap.size + 1 + 1, 0, none⟩ (.int .i64 2)).setCell ⟨w.heap.size + 1 + 1, 1, none⟩ (.int .i64 0)).setCell ⟨w.heap.size + 1 + 1, 2, none⟩ (.slice none 0 0)).cell? ⟨g, m * 4 + 3, none⟩ = some (.slice av nv cv) := (World.cell?_of_block (a := ⟨g, m * 4 + 3, none⟩) (K3.block g hg neg)).trans e3
  have S5 : Strs (((w1.setCell ⟨w.heap.size + 1 + 1, 0, none⟩ (.int .i64 2)).setCell ⟨w.heap.size + 1 + 1, 1, none⟩ (.int .i64 0)).setCell ⟨w.heap.size + 1 + 1, 2, none⟩ (.slice none 0 0)) av nv cv ss := hv3.2.1
  have HQ := hide (And.intro hv3.2.1.len (And.intro hv3.2.2.1 (And.intro hv3.2.1.sizes hv3.2.2.2.1)))
  have hmb := (unhide HN).1
  have hnv : nv ≤ 1048576 := by have q : nv = ss.length := hv3.2.1.len; have : ss.length ≤ 1048576 := hv3.2.2.1; omega
  have RZ3 := ((RZ.setFar (p := ⟨w.heap.size + 1 + 1, 0, none⟩) (by show w.heap.size + 1 + 1 + 1 ≠ w.heap.size + 1 + 1; omega) (.int .i64 2)).setFar (p := ⟨w.heap.size + 1 + 1, 1, none⟩) (by show w.heap.size + 1 + 1 + 1 ≠ w.heap.size + 1 + 1; omega) (.int .i64 0)).setFar (p := ⟨w.heap.size + 1 + 1, 2, none⟩) (by show w.heap.size + 1 + 1 + 1 ≠ w.heap.size + 1 + 1; omega) (.slice none 0 0)
  have RT3 : Row (((w1.setCell ⟨w.heap.size + 1 + 1, 0, none⟩ (.int .i64 2)).setCell ⟨w.heap.size + 1 + 1, 1, none⟩ (.int .i64 0)).setCell ⟨w.heap.size + 1 + 1, 2, none⟩ (.slice none 0 0)) (w.heap.size + 1 + 1) #[.int .i64 2, .int .i64 0, .slice none 0 0, .int .i64 ((n : Int) + 1), .int .i64 pk] 34 := ((RT.set 0 (.int .i64 2)).set 1 (.int .i64 0)).set 2 (.slice none 0 0)
  have K1 := hide (kpt3 (b := w.heap.size + 1 + 1) (unhide HK) (Or.inl (by omega)) (.int .i64 2) (.int .i64 0) (.slice none 0 0))
  clear hv hv3 htop K3 hT HS HK HL
  obtain ⟨k0, k1, k2⟩ := row3M RC
  obtain ⟨r0, r1, r2, r3, r4, r5⟩ := row6M RR
  obtain ⟨t0, t1, t2, t3, t4⟩ := row5M RT
  have tf := fun j => RT.frozen j
  clear RC RR RT RZ RI
  go_wp2_with fail
  have L3 : (((w1.setCell ⟨w.heap.size + 1 + 1, 0, none⟩ (.int .i64 2)).setCell ⟨w.heap.size + 1 + 1, 1, none⟩ (.int .i64 0)).setCell ⟨w.heap.size + 1 + 1, 2, none⟩ (.slice none 0 0)).heap.size = w1.heap.size := by simp
  have wm := wrapN (n := m) (by omega)
  have zm : (0 : Int) ≤ (m : Int) := by omega
  have lm : (m : Int) < (m : Int) + 1 := by omega
  have lg : g < w1.heap.size := hg
  generalize (((w1.setCell ⟨w.heap.size + 1 + 1, 0, none⟩ (.int .i64 2)).setCell ⟨w.heap.size + 1 + 1, 1, none⟩ (.int .i64 0)).setCell ⟨w.heap.size + 1 + 1, 2, none⟩ (.slice none 0 0)) = w3 at *
  have D := (Below.refl w3.heap.size w3).drew
  have RTd := RT3.after D (Nat.le_refl _)
  have RZd := RZ3.after D (Nat.le_refl _)
  have qd : w3.drew.cell? ⟨w.heap.size + 1 + 1, 2, none⟩ = some (.slice none 0 0) ∧ w3.drew.frozen? ⟨w.heap.size + 1 + 1, 2, none⟩ = false := ⟨RTd.cell 2, RTd.frozen 2⟩
  have qe : w3.drew.cell? ⟨g, m * 4 + 3, none⟩ = some (.slice av nv cv) := c3
  have S5d := S5.below D (Nat.le_refl _)
  go_region_law (refine step_append_strs rfl _ _ rfl w1.heap.size _ 0 [] rfl (World.ownsRow_nil _ _ _ _) av nv cv ss rfl S5d (unhide HQ).2.2.2 (by omega) (by rw [World.size_drew]; omega) ?_; intro v7 w7 O7 hg7; rw [Nat.zero_add, List.nil_append] at O7; obtain ⟨x7, c7, rfl, _⟩ := owns_form2 O7; have hb7 := below_grown0 hg7; have U7 := RTd.after hb7 (Nat.le_refl _); have Z7 := RZd.after hb7 (Nat.le_refl _); obtain ⟨u0, u1, u2, u3, u4⟩ := row5M U7; have uf := (fun j => U7.frozen j); obtain ⟨z0, z1, z2, z3, z4⟩ := row5M Z7; have zf := (fun j => Z7.frozen j))
  all_goals
    replace hb7 := D.trans (hb7.mono (by simp))
    have Z8 := Z7.setFar (p := ⟨w.heap.size + 1 + 1, 2, none⟩) (by show w.heap.size + 1 + 1 + 1 ≠ w.heap.size + 1 + 1; omega) (.slice x7 nv c7)
    obtain ⟨p0, p1, p2, p3, p4⟩ := row5M (set5 Z8 (.int .i64 2) (.int .i64 0) (.slice x7 nv c7) (.int .i64 ((n : Int) + 1)) (.int .i64 pk))
    have K7 := (unhide K1).trans (Kpt.of_below (S := fun k => k = lb) hb7) (fun q _ h => h)
    have HKE := hide (kpt5 (b := w.heap.size + 1 + 1 + 1) (K7.setCell (p := ⟨w.heap.size + 1 + 1, 2, none⟩) (fun h => absurd h (by simp; omega)) (.slice x7 nv c7)) (by omega) (.int .i64 2) (.int .i64 0) (.slice x7 nv c7) (.int .i64 ((n : Int) + 1)) (.int .i64 pk))
    have OE := hide (own5 (own_set3 O7 ⟨w.heap.size + 1 + 1, 2, none⟩ (.slice x7 nv c7) (fun q hq => by have := (O7.lt q hq).1; show q ≠ w.heap.size + 1 + 1; omega)) (b := w.heap.size + 1 + 1 + 1) (fun q hq => by have := (O7.lt q hq).1; omega) (.int .i64 2) (.int .i64 0) (.slice x7 nv c7) (.int .i64 ((n : Int) + 1)) (.int .i64 pk))
    have LE := hide (show w.heap.size ≤ w1.heap.size by omega)
    clear U7 Z7 Z8 K7 O7 hb7 S5 S5d RZ3 RT3 K1 e0 e1 e2 e3 D RTd RZd qd qe c3 hg7
    go_wp2_with fail
    refine bodyPost_ret (v := .agg #[.int .i64 2, .int .i64 0, .slice x7 nv c7, .int .i64 ((n : Int) + 1), .int .i64 pk]) (by simp [results, Tryz.results22, go_sem, p0, p1, p2, p3, p4]) rfl ?_
    obtain ⟨q1, q2, q3, _⟩ := unhide HQ
    have q1 : nv = ss.length := q1
    subst q1
    exact ⟨⟨x7, c7, rfl, own_lowM (unhide OE) (unhide LE)⟩, unhide HKE, q2, q3⟩

end Go.Proofs.YtogenboibgddaaaGreatDoor

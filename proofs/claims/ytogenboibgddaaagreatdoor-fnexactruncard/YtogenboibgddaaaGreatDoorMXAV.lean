/-
  RWB, RWC. Own work.
-/
import Derived.Test.YtogenboibgddaaaGreatDoorRWA
import Derived.Test.YtogenboibgddaaaGreatDoorMXAM
import Derived.Test.YtogenboibgddaaaGreatDoorMXAU
import Derived.Test.YtogenboibgddaaaGreatDoorMXAB
namespace Go.Proofs.YtogenboibgddaaaGreatDoor
open Go.RowKit
set_option linter.unusedVariables false

theorem row6D {w : World} {b : Nat} {v0 v1 v2 v3 v4 v5 : Value} {t : TypeId} (R : Row w b #[v0, v1, v2, v3, v4, v5] t) : w.cell? ⟨b, 0, none⟩ = some v0 ∧ w.cell? ⟨b, 1, none⟩ = some v1 ∧ w.cell? ⟨b, 2, none⟩ = some v2 ∧ w.cell? ⟨b, 3, none⟩ = some v3 ∧ w.cell? ⟨b, 4, none⟩ = some v4 ∧ w.cell? ⟨b, 5, none⟩ = some v5 := row6M R

theorem rowT3 {w : World} {b : Nat} {v0 v1 v2 : Value} {t : TypeId} (R : Row w b #[v0, v1, v2] t) : w.cell? ⟨b, 0, none⟩ = some v0 ∧ w.cell? ⟨b, 1, none⟩ = some v1 ∧ w.cell? ⟨b, 2, none⟩ = some v2 := row3M R

theorem Touch.mono2 {lo hi lo' hi' : Nat} {w w' : World} (t : Touch lo hi w w') (h1 : lo' ≤ lo) (h2 : hi ≤ hi') : Touch lo' hi' w w' := t.mono h1 h2

theorem Wd.one {w w' : World} {q n m : Nat} {x : Addr} {t s : TypeId} (h : Wd w x n t) (T : Touch q (q + 1) w w') (k : Wd w ⟨q, 0, none⟩ m s) (k' : Wd w' ⟨q, 0, none⟩ m s) : Wd w' x n t := by
  obtain ⟨p, cs, rfl, r, z⟩ := h
  by_cases e : p = q
  · subst e
    obtain ⟨_, ds, e1, r1, z1⟩ := k
    cases e1
    have e2 := r.out.symm.trans r1.out
    simp only [Option.some.injEq, Obj.cells.injEq] at e2
    obtain ⟨rfl, rfl, _⟩ := e2
    rw [← z, z1]
    exact k'
  · exact ⟨p, cs, rfl, ⟨(T.block p r.lt (by omega)).trans r.out⟩, z⟩

set_option maxHeartbeats 1600000 in
theorem markStringS_z (q n c k : Nat) (w : World) (h : Wd w ⟨q, 0, none⟩ n 9) (hk : k + n ≤ 35184372088832) :
    Calls Tryz.prog 35 #[.slice (some ⟨q, 0, none⟩) n c, .int .i64 k] w fun e w' => e = .returned (.int .i64 ((k : Int) + n)) ∧ Wd w' ⟨q, 0, none⟩ n 9 ∧ Touch q (q + 1) w w' := by
  obtain ⟨_, cs0, e0, R0, z0⟩ := h
  cases e0
  go_enter Tryz.func35, Tryz.ntmps35
  go_wp2
  go_loopw [1, 5] (fun v i wr => ∃ (j : Nat) (cs : Array Value), j ≤ n ∧ i = .int .i64 j ∧ v = .int .i64 ((k : Int) + j) ∧ Row wr q cs 9 ∧ cs.size = n ∧ Touch q (q + 1) w wr) (fun _ i _ => n - (intOf i).toNat)
  case atStart => exact ⟨0, cs0, Nat.zero_le _, rfl, by go_num, R0, z0, Touch.refl _ _ _⟩
  case round =>
    obtain ⟨j, cs, hj, rfl, rfl, R, z, T⟩ := hrel
    clear R0
    by_cases hlt : j < n
    · obtain ⟨u, hu⟩ := someAt (cs := cs) (p := j) (by omega)
      have ilt : (j : Int) < (n : Int) := by omega
      go_wp2_with fail
      refine (markText_int _ wr (by omega) (by omega)).mono ?_
      rintro e w1 ⟨rfl, hb1⟩
      have R1 := R.after hb1 (Nat.le_refl _)
      have T1 := T.trans (Touch.of_below (lo := q) (hi := q + 1) hb1 (Nat.le_refl _))
      have hc := (R1.cell j).trans hu
      have hf := fun i => R1.frozen i
      have HR := hide R1
      have Hlt := hide hlt
      have Hz := hide z
      generalize markS ((k : Int) + (j : Int)).toNat = mt
      clear R R1 hu z hlt T hb1
      go_wp2_with fail
      go_roundw
      case rel => exact ⟨j + 1, _, unhide Hlt, by go_num, by go_num, (unhide HR).set j _, by simpa using unhide Hz, T1.trans (Touch.setCell _ _ _ (Nat.le_refl _) (Nat.lt_succ_self _))⟩
      case measure => have := unhide Hlt; simp [intOf]; omega
    · have e : j = n := by omega
      subst e
      go_wp2
      go_ret
      exact ⟨rfl, ⟨q, cs, rfl, R, z⟩, T⟩

theorem markStringS_zi (q n c : Nat) (x : Int) (w : World) (h : Wd w ⟨q, 0, none⟩ n 9) (h0 : 0 ≤ x) (hk : x + n ≤ 35184372088832) :
    Calls Tryz.prog 35 #[.slice (some ⟨q, 0, none⟩) n c, .int .i64 x] w fun e w' => e = .returned (.int .i64 (x + n)) ∧ Wd w' ⟨q, 0, none⟩ n 9 ∧ Touch q (q + 1) w w' := by
  obtain ⟨k, rfl⟩ := Int.eq_ofNat_of_zero_le h0
  exact markStringS_z q n c k w h (by omega)

set_option maxRecDepth 100000 in
set_option maxHeartbeats 1600000 in
theorem eqOutcome_same (q1 q2 : Int) (x x' : Option Addr) (n c c' : Nat) (ss : List ByteArray) (w : World) (h : Strs w x n c ss) (h' : Strs w x' n c' ss) :
    Calls Tryz.prog 29 #[.agg #[.int .i64 q1, .int .i64 q2, .slice x n c], .agg #[.int .i64 q1, .int .i64 q2, .slice x' n c']] w fun e w' => e = .returned (.bool true) ∧ Below w.heap.size w w' := by
  have B0 := ((Below.refl w.heap.size w).alloc (Nat.le_refl _) (.cells #[.int .i64 q1, .int .i64 q2, .slice x n c] 32)).alloc (by simp) (.cells #[.int .i64 q1, .int .i64 q2, .slice x' n c'] 32)
  have e1 : (q1 != q1) = false := by simp
  have e2 : (q2 != q2) = false := by simp
  have H1 := h.below B0 (Nat.le_refl _)
  have H2 := h'.below B0 (Nat.le_refl _)
  go_enter Tryz.func29, Tryz.ntmps29
  go_wp2_with fail
  refine (eqStringS_same _ _ _ _ _ _ _ H1 H2).mono ?_
  rintro e w1 ⟨rfl, hb1⟩
  have B1 := B0.trans (hb1.mono B0.size)
  dsimp only
  go_wp2_with fail
  go_ret
  exact ⟨rfl, B1⟩

theorem markOutcome_any (q1 q2 : Int) (lo hi : Nat) (x : Option Addr) (n c : Nat) (ss : List ByteArray) (w : World) (h : OwnS w lo hi x n c ss) (hn : n ≤ 1048576) :
    Calls Tryz.prog 36 #[.agg #[.int .i64 q1, .int .i64 q2, .slice x n c], .int .i64 1] w fun e w' => e = .returned (.int .i64 (1 + (n : Int))) ∧ OwnS w' lo hi x n c (marks 1 n) ∧ Touch lo hi w w' := by
  have B0 := (Below.refl w.heap.size w).alloc (Nat.le_refl _) (.cells #[.int .i64 q1, .int .i64 q2, .slice x n c] 32)
  go_enter Tryz.func36, Tryz.ntmps36
  go_wp2_with fail
  refine (markStringS_int lo hi _ _ _ _ _ _ (h.below B0 h.top) (by omega) (by omega)).mono ?_
  rintro e w1 ⟨rfl, O1, T1⟩
  dsimp only
  go_wp2_with fail
  go_ret
  exact ⟨rfl, O1, (Touch.of_below B0 (Nat.le_refl _)).trans T1⟩

theorem heldOutcome_any (q1 q2 : Int) (x : Option Addr) (n c : Nat) (w : World) (h : Strs w x n c (marks 1 n)) (hn : n ≤ 1048576) :
    Calls Tryz.prog 37 #[.agg #[.int .i64 q1, .int .i64 q2, .slice x n c], .int .i64 1] w fun e w' => e = .returned (.int .i64 (1 + (n : Int))) ∧ Below w.heap.size w w' := by
  have B0 := (Below.refl w.heap.size w).alloc (Nat.le_refl _) (.cells #[.int .i64 q1, .int .i64 q2, .slice x n c] 32)
  have hq : ¬ ((1 : Int) + n < 0) := by omega
  go_enter Tryz.func37, Tryz.ntmps37
  go_wp2_with fail
  refine (heldStringS_int _ _ _ 1 _ (h.below B0 (Nat.le_refl _)) (by omega) (by omega)).mono ?_
  rintro e w1 ⟨rfl, hb1⟩
  have B1 := B0.trans (hb1.mono B0.size)
  dsimp only
  go_wp2_with fail
  go_ret
  exact ⟨rfl, B1⟩

set_option maxRecDepth 100000 in
set_option maxHeartbeats 1600000 in
theorem markRequest_z (cl us : ByteArray) (lv nw : Int) (x1 x2 : Addr) (n1 n2 : Nat) (lo hi : Nat) (y : Nat) (w : World) (W1 : Wd w x1 n1 9) (W2 : Wd w x2 n2 9) (b1 : lo ≤ x1.block ∧ x1.block < hi) (b2 : lo ≤ x2.block ∧ x2.block < hi) (hhi : hi ≤ w.heap.size) (hy : y ≤ 8796093022208) (h1 : n1 ≤ 1048576) (h2 : n2 ≤ 1048576) :
    Calls Tryz.prog 14 #[.agg #[.string cl, .string us, .int .i64 lv, .int .i64 nw, .slice (some x1) n1 n1, .slice (some x2) n2 n2], .int .i64 y] w fun e w' => (∃ z : Nat, e = .returned (.int .i64 z) ∧ z ≤ 17592186044416) ∧ Touch lo hi w w' := by
  obtain ⟨g1, cs1, rfl, R1, z1⟩ := W1
  obtain ⟨g2, cs2, rfl, R2, z2⟩ := W2
  have B0 := (Below.refl w.heap.size w).alloc (Nat.le_refl _) (.cells #[.string cl, .string us, .int .i64 lv, .int .i64 nw, .slice (some ⟨g1, 0, none⟩) n1 n1, .slice (some ⟨g2, 0, none⟩) n2 n2] 41)
  have X0 := Row.new w #[.string cl, .string us, .int .i64 lv, .int .i64 nw, .slice (some ⟨g1, 0, none⟩) n1 n1, .slice (some ⟨g2, 0, none⟩) n2 n2] 41
  have V1 : Wd _ ⟨g1, 0, none⟩ n1 9 := ⟨g1, cs1, rfl, R1.after B0 (Nat.le_refl _), z1⟩
  have V2 : Wd _ ⟨g2, 0, none⟩ n2 9 := ⟨g2, cs2, rfl, R2.after B0 (Nat.le_refl _), z2⟩
  have T0 := Touch.of_below (lo := lo) (hi := hi) B0 (Nat.le_refl _)
  clear R1 R2 z1 z2
  go_enter Tryz.func14, Tryz.ntmps14
  go_wp2_with fail
  refine (markStringS_zi g1 n1 n1 _ _ V1 (by omega) (by omega)).mono ?_
  rintro e w1 ⟨rfl, U1, T1⟩
  have U2 := V2.one T1 V1 U1
  have X1 : Row w1 w.heap.size _ 41 := ⟨(T1.block _ X0.lt (.inr (by have : g1 < hi := b1.2; omega))).trans X0.out⟩
  have D1 := T0.trans (T1.mono2 b1.1 b1.2)
  obtain ⟨r0, r1, r2, r3, r4, r5⟩ := row6D X1
  clear V1 V2 T1 X0 T0 U1
  dsimp only
  go_wp2_with fail
  refine (markStringS_zi g2 n2 n2 _ _ U2 (by omega) (by omega)).mono ?_
  rintro e w2 ⟨rfl, Q2, T2⟩
  have D2 := D1.trans (T2.mono2 b2.1 b2.2)
  dsimp only
  go_wp2_with fail
  go_ret
  exact ⟨⟨y + n1 + n2, by go_num, by omega⟩, D2⟩

set_option maxRecDepth 100000 in
set_option maxHeartbeats 1600000 in
theorem eqTrace_same (q1 q2 : Int) (x x' : Option Addr) (n c c' : Nat) (ss : List ByteArray) (p1 p2 : Int) (w : World) (h : Strs w x n c ss) (h' : Strs w x' n c' ss) :
    Calls Tryz.prog 10 #[.agg #[.int .i64 q1, .int .i64 q2, .slice x n c, .int .i64 p1, .int .i64 p2], .agg #[.int .i64 q1, .int .i64 q2, .slice x' n c', .int .i64 p1, .int .i64 p2]] w fun e w' => e = .returned (.bool true) ∧ Below w.heap.size w w' := by
  have B0 := ((Below.refl w.heap.size w).alloc (Nat.le_refl _) (.cells #[.int .i64 q1, .int .i64 q2, .slice x n c, .int .i64 p1, .int .i64 p2] 34)).alloc (by simp) (.cells #[.int .i64 q1, .int .i64 q2, .slice x' n c', .int .i64 p1, .int .i64 p2] 34)
  have R0 := (Row.new w #[.int .i64 q1, .int .i64 q2, .slice x n c, .int .i64 p1, .int .i64 p2] 34).alloc (.cells #[.int .i64 q1, .int .i64 q2, .slice x' n c', .int .i64 p1, .int .i64 p2] 34)
  have R1 := Row.new (w.alloc (.cells #[.int .i64 q1, .int .i64 q2, .slice x n c, .int .i64 p1, .int .i64 p2] 34)) #[.int .i64 q1, .int .i64 q2, .slice x' n c', .int .i64 p1, .int .i64 p2] 34
  rw [World.size_alloc] at R1
  have e1 : (p1 != p1) = false := by simp
  have e2 : (p2 != p2) = false := by simp
  have H1 := h.below B0 (Nat.le_refl _)
  have H2 := h'.below B0 (Nat.le_refl _)
  go_enter Tryz.func10, Tryz.ntmps10
  go_wp2_with fail
  refine (eqOutcome_same q1 q2 _ _ _ _ _ ss _ H1 H2).mono ?_
  rintro e w1 ⟨rfl, hb1⟩
  have B1 := B0.trans (hb1.mono B0.size)
  obtain ⟨a0, a1, a2, a3, a4⟩ := row5M (R0.after hb1 (Nat.le_refl _))
  obtain ⟨b0, b1, b2, b3, b4⟩ := row5M (R1.after hb1 (Nat.le_refl _))
  clear R0 R1 H1 H2 hb1 B0
  dsimp only
  go_wp2_with fail
  go_ret
  exact ⟨rfl, B1⟩

theorem markTrace_any (q1 q2 : Int) (lo hi : Nat) (x : Option Addr) (n c : Nat) (ss : List ByteArray) (p1 p2 : Int) (w : World) (h : OwnS w lo hi x n c ss) (hn : n ≤ 1048576) :
    Calls Tryz.prog 15 #[.agg #[.int .i64 q1, .int .i64 q2, .slice x n c, .int .i64 p1, .int .i64 p2], .int .i64 1] w fun e w' => e = .returned (.int .i64 (1 + (n : Int))) ∧ OwnS w' lo hi x n c (marks 1 n) ∧ Touch lo hi w w' := by
  have B0 := (Below.refl w.heap.size w).alloc (Nat.le_refl _) (.cells #[.int .i64 q1, .int .i64 q2, .slice x n c, .int .i64 p1, .int .i64 p2] 34)
  go_enter Tryz.func15, Tryz.ntmps15
  go_wp2_with fail
  refine (markOutcome_any q1 q2 lo hi _ _ _ _ _ (h.below B0 h.top) hn).mono ?_
  rintro e w1 ⟨rfl, O1, T1⟩
  dsimp only
  go_wp2_with fail
  go_ret
  exact ⟨rfl, O1, (Touch.of_below B0 (Nat.le_refl _)).trans T1⟩

theorem heldTrace_any (q1 q2 : Int) (x : Option Addr) (n c : Nat) (p1 p2 : Int) (w : World) (h : Strs w x n c (marks 1 n)) (hn : n ≤ 1048576) :
    Calls Tryz.prog 16 #[.agg #[.int .i64 q1, .int .i64 q2, .slice x n c, .int .i64 p1, .int .i64 p2], .int .i64 1] w fun e w' => e = .returned (.int .i64 (1 + (n : Int))) ∧ Below w.heap.size w w' := by
  have B0 := (Below.refl w.heap.size w).alloc (Nat.le_refl _) (.cells #[.int .i64 q1, .int .i64 q2, .slice x n c, .int .i64 p1, .int .i64 p2] 34)
  have hq : ¬ ((1 : Int) + n < 0) := by omega
  go_enter Tryz.func16, Tryz.ntmps16
  go_wp2_with fail
  refine (heldOutcome_any q1 q2 _ _ _ _ (h.below B0 (Nat.le_refl _)) hn).mono ?_
  rintro e w1 ⟨rfl, hb1⟩
  have B1 := B0.trans (hb1.mono B0.size)
  dsimp only
  go_wp2_with fail
  go_ret
  exact ⟨rfl, B1⟩

set_option maxRecDepth 100000 in
set_option maxHeartbeats 1600000 in
theorem markCode_z (g1 g2 n m : Nat) (s : Int) (N : List Vl) (L : List Is1) (w : World) (h1 : HiB w g1 g2 n N) (h2 : HiI w g2 m L) (hl : N.length = n) (hm : L.length = m) (hs : smallC n m N) :
    Calls Tryz.prog 13 #[.agg #[.slice (some ⟨g1, 0, none⟩) n n, .int .i64 s, .slice (some ⟨g2, 0, none⟩) m m], .int .i64 1] w fun e w' => (∃ y : Nat, e = .returned (.int .i64 y) ∧ y ≤ 8796093022208) ∧ Touch g1 (g2 + 1) w w' := by
  obtain ⟨⟨hn, hsm, hsum⟩, hmm⟩ := hs
  have hg := h1.1
  have hg2 : g2 < w.heap.size := by obtain ⟨cs, R, _⟩ := h2; exact R.lt
  have R0 := Row.new w #[.slice (some ⟨g1, 0, none⟩) n n, .int .i64 s, .slice (some ⟨g2, 0, none⟩) m m] 39
  have B0 := (Below.refl w.heap.size w).alloc (Nat.le_refl _) (.cells #[.slice (some ⟨g1, 0, none⟩) n n, .int .i64 s, .slice (some ⟨g2, 0, none⟩) m m] 39)
  have V0 := h1.below B0 (Nat.le_refl _)
  have I0 := h2.below B0 (Nat.le_refl _)
  have Hl := hide hl
  have Hm := hide hm
  have Hsm := hide hsm
  clear hl hm hsm
  go_enter Tryz.func13, Tryz.ntmps13
  go_wp2_with (first
    | (go_at_call 33; refine (markValueS_int g1 g2 n N _ _ V0 (unhide Hl) (unhide Hsm) (by omega) (by omega)).mono ?_; rintro e w2 ⟨⟨z, rfl, hz⟩, T2⟩; have Hz := hide hz; have z0 : 0 ≤ z := (by omega); have z1 : z + 2 * m ≤ 1073741824 := (by omega); clear hz; have R2 := R0.touch T2 (.inr (by omega)); obtain ⟨q0, q1, q2⟩ := rowC R2; have I2 := I0.touch T2 (.inr (Nat.le_refl _)))
    | (go_at_call 34; refine (markInsS_int g2 m L _ _ I2 (unhide Hm) (by omega) (by omega)).mono ?_; rintro e w3 ⟨rfl, T3⟩))
  go_ret
  refine ⟨⟨(z + 2 * m).toNat, by rw [Int.toNat_of_nonneg (by omega)]; rfl, by omega⟩, ?_⟩
  exact ((Touch.of_below B0 (Nat.le_refl _)).trans (T2.mono (Nat.le_refl _) (by omega))).trans (T3.mono (by omega) (Nat.le_refl _))

end Go.Proofs.YtogenboibgddaaaGreatDoor

namespace Go.Proofs.YtogenboibgddaaaGreatDoor
open Go.RowKit
set_option linter.unusedVariables false

/-- what the law is given -/
structure EnvN (w : World) (a b : Option Addr) (n c m d : Nat) (N : List Vl) (L : List Is1) (R : Rq) (a1 : Option Addr) (n1 c1 : Nat) (a2 : Option Addr) (n2 c2 : Nat) (aT aS aO aZ aW : Addr) : Prop where
  vl : VlsR w a n c N
  is : IssR w b m d L
  vo : Vok w aT
  se : Sent w aS aO aZ aW
  tab : 7 < w.heap.size ∧ ∀ k, w.cell? ⟨7, k, none⟩ = binV[k]?
  q1 : Strs w a1 n1 c1 R.s1
  q2 : Strs w a2 n2 c2 R.s2

theorem EnvN.below {w w' : World} {B : Nat} {a b : Option Addr} {n c m d : Nat} {N : List Vl} {L : List Is1} {R : Rq} {a1 : Option Addr} {n1 c1 : Nat} {a2 : Option Addr} {n2 c2 : Nat} {aT aS aO aZ aW : Addr} (h : EnvN w a b n c m d N L R a1 n1 c1 a2 n2 c2 aT aS aO aZ aW) (hb : Below B w w') (hB : w.heap.size ≤ B) : EnvN w' a b n c m d N L R a1 n1 c1 a2 n2 c2 aT aS aO aZ aW :=
  ⟨h.vl.below hb hB, h.is.below hb hB, h.vo.below hb hB, h.se.below hb hB, ⟨Nat.lt_of_lt_of_le h.tab.1 hb.size, fun k => (hb.cell (p := ⟨7, k, none⟩) (Nat.lt_of_lt_of_le h.tab.1 hB)).trans (h.tab.2 k)⟩, h.q1.below hb hB, h.q2.below hb hB⟩

/-- where the names of a pool lie -/
def NmV (w : World) (a : Option Addr) (N : List Vl) : Prop := ∀ j, j < N.length → ∀ b off, a = some ⟨b, off, none⟩ → ∀ an nn cn, w.cell? ⟨b, off + j * 4 + 3, none⟩ = some (.slice an nn cn) → ZS w an cn

/-- a copy of the code -/
def CpC (w : World) (x1 x2 : Addr) (n m : Nat) (N : List Vl) (L : List Is1) : Prop := Vls w (some x1) n n N ∧ Iss w (some x2) m m L ∧ NmV w (some x1) N

/-- a copy of the request's sets -/
def CpR (w : World) (z1 z2 : Addr) (n1 n2 : Nat) (R : Rq) : Prop := (Strs w (some z1) n1 n1 R.s1 ∧ Strs w (some z2) n2 n2 R.s2) ∧ Wd w z1 n1 9 ∧ Wd w z2 n2 9

theorem CpC.below {w w' : World} {B : Nat} {x1 x2 : Addr} {n m : Nat} {N : List Vl} {L : List Is1} (h : CpC w x1 x2 n m N L) (hb : Below B w w') (hB : w.heap.size ≤ B) : CpC w' x1 x2 n m N L :=
  ⟨h.1.below hb hB, h.2.1.below hb hB, fun j hj b off e an nn cn hc => by
    obtain ⟨b2, off2, e2, hl, _⟩ := h.1.cells j hj
    have e3 := e2.symm.trans e
    cases e3
    exact (h.2.2 j hj b off e an nn cn (by rw [← hb.cell (p := ⟨b, off + j * 4 + 3, none⟩) (by show b < B; omega)]; exact hc)).below hb hB⟩

theorem CpR.below {w w' : World} {B : Nat} {z1 z2 : Addr} {n1 n2 : Nat} {R : Rq} (h : CpR w z1 z2 n1 n2 R) (hb : Below B w w') (hB : w.heap.size ≤ B) : CpR w' z1 z2 n1 n2 R :=
  ⟨⟨h.1.1.below hb hB, h.1.2.below hb hB⟩, h.2.1.below hb hB, h.2.2.below hb hB⟩

theorem ZS.of_wd {w : World} {x : Addr} {n : Nat} (h : Wd w x n 9) : ZS w (some x) n := by
  obtain ⟨q, cs, rfl, r, z⟩ := h
  exact ⟨fun e => (nomatch e), fun ad e => by cases e; exact ⟨cs, r⟩⟩

theorem NmV.of_hi {w : World} {g n : Nat} {N : List Vl} (h : HiV w g n N) : NmV w (some ⟨g, 0, none⟩) N := by
  obtain ⟨cs, qf, R, _, hx, _⟩ := h
  intro j hj b off e an nn cn hc
  cases e
  obtain ⟨k, _, _, _, d3, hO⟩ := hx j hj
  rw [Nat.zero_add, R.cell, d3] at hc
  cases hc
  exact ZS.of_owns hO

/-- a copy of the code, as its marks want it -/
def CdZ (w : World) (lo hi : Nat) (x1 x2 : Addr) (n m : Nat) (N : List Vl) (L : List Is1) : Prop := ∃ g1 g2, x1 = ⟨g1, 0, none⟩ ∧ x2 = ⟨g2, 0, none⟩ ∧ HiB w g1 g2 n N ∧ HiI w g2 m L ∧ N.length = n ∧ L.length = m ∧ lo ≤ g1 ∧ g2 < hi

theorem CdZ.below {w w' : World} {lo hi n m : Nat} {x1 x2 : Addr} {N : List Vl} {L : List Is1} (h : CdZ w lo hi x1 x2 n m N L) (hb : Below w.heap.size w w') : CdZ w' lo hi x1 x2 n m N L := by
  obtain ⟨g1, g2, e1, e2, h1, h2, r⟩ := h
  exact ⟨g1, g2, e1, e2, h1.below hb (Nat.le_refl _), h2.below hb (Nat.le_refl _), r⟩

theorem markCd_z (lo hi : Nat) (x1 x2 : Addr) (n m : Nat) (s : Int) (N : List Vl) (L : List Is1) (w : World) (h : CdZ w lo hi x1 x2 n m N L) (hs : smallC n m N) :
    Calls Tryz.prog 13 #[.agg #[.slice (some x1) n n, .int .i64 s, .slice (some x2) m m], .int .i64 1] w fun e w' => (∃ y : Nat, e = .returned (.int .i64 y) ∧ y ≤ 8796093022208) ∧ Touch lo hi w w' := by
  obtain ⟨g1, g2, rfl, rfl, h1, h2, hl, hm, b1, b2⟩ := h
  refine (markCode_z g1 g2 n m s N L w h1 h2 hl hm hs).mono ?_
  rintro e w1 ⟨hy, T⟩
  exact ⟨hy, T.mono2 b1 b2⟩

/-- what both sides say -/
def IsRn (N : List Vl) (s : Int) (L : List Is1) (R : Rq) (o1 o2 : Int) (ss : List ByteArray) (p1 p2 : Int) : Prop := (rnX N s L R).out = (o1, o2, ss) ∧ ((rnX N s L R).steps : Int) = p1 ∧ ((rnX N s L R).peak : Int) = p2

/-- a trace of the call's own, by its parts -/
def TrA (B : Nat) (o1 o2 : Int) (ss : List ByteArray) (p1 p2 : Int) (w : World) (r : Ending) (w' : World) : Prop := (∃ x cx, r = .returned (.agg #[.int .i64 o1, .int .i64 o2, .slice x ss.length cx, .int .i64 p1, .int .i64 p2]) ∧ w'.ownsRow B 9 1 (.slice x ss.length cx) ss.length (ss.map Value.string)) ∧ Below B w w'

section
variable {a b : Option Addr} {n c m d : Nat} {s : Int} {N : List Vl} {L : List Is1} {R : Rq} {a1 : Option Addr} {n1 c1 : Nat} {a2 : Option Addr} {n2 c2 : Nat} {aT aS aO aZ aW : Addr}

theorem toC_any {w : World} (h : EnvN w a b n c m d N L R a1 n1 c1 a2 n2 c2 aT aS aO aZ aW) (hs : smallC n m N) :
    Calls Tryz.prog 7 #[.agg #[.slice a n c, .int .i64 s, .slice b m d]] w fun e w' => ∃ x1 x2, e = .returned (.agg #[.slice (some x1) n n, .int .i64 s, .slice (some x2) m m]) ∧ CpC w' x1 x2 n m N L ∧ Below w.heap.size w w' ∧ CdZ w' w.heap.size w'.heap.size x1 x2 n m N L := by
  refine (toCode_any a b n c m d s N L w h.vl h.is hs).mono ?_
  rintro e w1 ⟨g1, g2, rfl, k1, k2, h1, h2, hb⟩
  have hg2 : g2 < w1.heap.size := by obtain ⟨cs, R, _⟩ := h2; exact R.lt
  exact ⟨_, _, rfl, ⟨h1.hiV.vls h.vl.len hs.1.1 hs.1.2.1, h2.iss h.is.len hs.2, NmV.of_hi h1.hiV⟩, hb, ⟨g1, g2, rfl, rfl, h1, h2, h.vl.len, h.is.len, k1, hg2⟩⟩

theorem toR_any {w : World} (h : EnvN w a b n c m d N L R a1 n1 c1 a2 n2 c2 aT aS aO aZ aW) (k1 : n1 ≤ 1048576) (k2 : n2 ≤ 1048576) :
    Calls Tryz.prog 8 #[.agg #[.string R.cl, .string R.us, .int .i64 R.lv, .int .i64 R.nw, .slice a1 n1 c1, .slice a2 n2 c2]] w fun e w' => ∃ z1 z2, e = .returned (.agg #[.string R.cl, .string R.us, .int .i64 R.lv, .int .i64 R.nw, .slice (some z1) n1 n1, .slice (some z2) n2 n2]) ∧ CpR w' z1 z2 n1 n2 R ∧ Below w.heap.size w w' ∧ (w.heap.size ≤ z1.block ∧ z1.block < w'.heap.size) ∧ w.heap.size ≤ z2.block ∧ z2.block < w'.heap.size := by
  refine (toRequest_any _ _ _ _ _ _ _ _ _ _ _ _ w h.q1 h.q2 k1 k2).mono ?_
  rintro e w1 ⟨z1, z2, rfl, h1, h2, hb, v1, v2, g1, g2⟩
  have l1 : z1.block < w1.heap.size := by obtain ⟨q, cs, rfl, r, _⟩ := v1; exact r.lt
  have l2 : z2.block < w1.heap.size := by obtain ⟨q, cs, rfl, r, _⟩ := v2; exact r.lt
  exact ⟨z1, z2, rfl, ⟨⟨h1, h2⟩, v1, v2⟩, hb, ⟨g1, l1⟩, g2, l2⟩

/-- of the arguments, wherever they lie -/
def ArgN (N : List Vl) (R : Rq) : Prop := (∀ x ∈ N, x.names.length ≤ 1048576 ∧ I64 x.num) ∧ (R.s1.length ≤ 1048576 ∧ R.s2.length ≤ 1048576) ∧ (R.cl.size ≤ maxLen ∧ R.us.size ≤ maxLen) ∧ I64 R.lv ∧ I64 R.nw

theorem sRn_any {w : World} (hA : ArgN N R) {x1 x2 : Addr} (hT : CpC w x1 x2 n m N L) {z1 z2 : Addr} (hR : CpR w z1 z2 n1 n2 R) :
    Calls Tryz.prog 6 #[.agg #[.slice (some x1) n n, .int .i64 s, .slice (some x2) m m], .agg #[.string R.cl, .string R.us, .int .i64 R.lv, .int .i64 R.nw, .slice (some z1) n1 n1, .slice (some z2) n2 n2]] w fun r w' => ∃ o1 o2 ss p1 p2, IsRn N s L R o1 o2 ss p1 p2 ∧ TrA w.heap.size o1 o2 ss p1 p2 w r w' ∧ ss.length ≤ 1048576 ∧ ∀ j, j < ss.length → (nth ss j).size ≤ maxLen := by
  refine (sRun_any _ _ _ _ _ _ s N L R _ _ _ _ _ _ w hT.2.1 (fun h => ⟨hT.1, hT.2.2, fun x hx => ⟨h x hx, hA.1 x hx⟩, hR.1.1, hR.1.2, ZS.of_wd hR.2.1, ZS.of_wd hR.2.2, hA.2.2.2.1, hA.2.2.2.2, hA.2.1⟩) hT.1 hR.1.1 hR.1.2 hA.2.2.1.1 hA.2.2.1.2).mono ?_
  rintro r w1 ⟨h1, h2⟩
  exact ⟨_, _, _, _, _, ⟨rfl, rfl, rfl⟩, h1, h2⟩

theorem iRn_any {w : World} (hA : ArgN N R) (hE : EnvN w a b n c m d N L R a1 n1 c1 a2 n2 c2 aT aS aO aZ aW) {x1 x2 : Addr} (hT : CpC w x1 x2 n m N L) {z1 z2 : Addr} (hR : CpR w z1 z2 n1 n2 R) {o1 o2 : Int} {ss : List ByteArray} {p1 p2 : Int} (ho : IsRn N s L R o1 o2 ss p1 p2) :
    Calls Tryz.prog 9 #[.agg #[.slice (some x1) n n, .int .i64 s, .slice (some x2) m m], .agg #[.string R.cl, .string R.us, .int .i64 R.lv, .int .i64 R.nw, .slice (some z1) n1 n1, .slice (some z2) n2 n2]] w (TrA w.heap.size o1 o2 ss p1 p2 w) := by
  refine (iRun_any _ _ _ _ _ _ s N L R _ _ _ _ _ _ aT w hT.1 hT.2.1 hE.vo hE.se hE.tab hR.1.1 hR.1.2 hA.2.1.1 hA.2.1.2 hA.2.2.1.1 hA.2.2.1.2 hA.2.2.2.1 hA.2.2.2.2 hA.1).mono ?_
  rintro r w1 h
  obtain ⟨e1, e2, e3⟩ := ho
  unfold RnA at h
  rw [e1, e2, e3] at h
  exact h

theorem retC {P : Program} {f : FuncId} {args : Array Value} {w : World} (h : Calls P f args w fun e w' => ∃ x1 x2, e = .returned (.agg #[.slice (some x1) n n, .int .i64 s, .slice (some x2) m m]) ∧ CpC w' x1 x2 n m N L ∧ Below w.heap.size w w' ∧ CdZ w' w.heap.size w'.heap.size x1 x2 n m N L) : Calls P f args w fun e w' => ∃ v, e = .returned v ∧ (∃ x1 x2, Ending.returned v = .returned (.agg #[.slice (some x1) n n, .int .i64 s, .slice (some x2) m m]) ∧ CpC w' x1 x2 n m N L ∧ Below w.heap.size w w' ∧ CdZ w' w.heap.size w'.heap.size x1 x2 n m N L) := h.mono fun e w' q => by
  have q' := q
  obtain ⟨x1, x2, he, _⟩ := q'
  subst he
  exact ⟨_, rfl, q⟩

theorem retR {P : Program} {f : FuncId} {args : Array Value} {w : World} (h : Calls P f args w fun e w' => ∃ z1 z2, e = .returned (.agg #[.string R.cl, .string R.us, .int .i64 R.lv, .int .i64 R.nw, .slice (some z1) n1 n1, .slice (some z2) n2 n2]) ∧ CpR w' z1 z2 n1 n2 R ∧ Below w.heap.size w w' ∧ (w.heap.size ≤ z1.block ∧ z1.block < w'.heap.size) ∧ w.heap.size ≤ z2.block ∧ z2.block < w'.heap.size) : Calls P f args w fun e w' => ∃ v, e = .returned v ∧ (∃ z1 z2, Ending.returned v = .returned (.agg #[.string R.cl, .string R.us, .int .i64 R.lv, .int .i64 R.nw, .slice (some z1) n1 n1, .slice (some z2) n2 n2]) ∧ CpR w' z1 z2 n1 n2 R ∧ Below w.heap.size w w' ∧ (w.heap.size ≤ z1.block ∧ z1.block < w'.heap.size) ∧ w.heap.size ≤ z2.block ∧ z2.block < w'.heap.size) := h.mono fun e w' q => by
  have q' := q
  obtain ⟨z1, z2, he, _⟩ := q'
  subst he
  exact ⟨_, rfl, q⟩

theorem retS {P : Program} {f : FuncId} {args : Array Value} {w : World} (h : Calls P f args w fun e w' => ∃ o1 o2 ss p1 p2, IsRn N s L R o1 o2 ss p1 p2 ∧ TrA w.heap.size o1 o2 ss p1 p2 w e w' ∧ ss.length ≤ 1048576 ∧ ∀ j, j < ss.length → (nth ss j).size ≤ maxLen) : Calls P f args w fun e w' => ∃ v, e = .returned v ∧ (∃ o1 o2 ss p1 p2, IsRn N s L R o1 o2 ss p1 p2 ∧ TrA w.heap.size o1 o2 ss p1 p2 w (.returned v) w' ∧ ss.length ≤ 1048576 ∧ ∀ j, j < ss.length → (nth ss j).size ≤ maxLen) := h.mono fun e w' q => by
  have q' := q
  obtain ⟨o1, o2, ss, p1, p2, _, ⟨⟨x, cx, he, _⟩, _⟩, _⟩ := q'
  subst he
  exact ⟨_, rfl, q⟩

theorem retI {P : Program} {f : FuncId} {args : Array Value} {w : World} {o1 o2 : Int} {ss : List ByteArray} {p1 p2 : Int} (h : Calls P f args w fun e w' => TrA w.heap.size o1 o2 ss p1 p2 w e w') : Calls P f args w fun e w' => ∃ v, e = .returned v ∧ (TrA w.heap.size o1 o2 ss p1 p2 w (.returned v) w') := h.mono fun e w' q => by
  have q' := q
  obtain ⟨⟨x, cx, he, _⟩, _⟩ := q'
  subst he
  exact ⟨_, rfl, q⟩

end

end Go.Proofs.YtogenboibgddaaaGreatDoor

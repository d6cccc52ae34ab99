/-
  HB, HC. Own work.
-/
import Derived.Test.YtcehablmloleaaaGreatDoorMXAV
import Derived.Test.YtcehablmloleaaaGreatDoorMXAJ
import Derived.Test.YtcehablmloleaaaGreatDoorMXAE
namespace Go.Proofs.YtcehablmloleaaaGreatDoor
open Go.RowKit
set_option linter.unusedVariables false
variable {a1 a2 a3 a4 a5 a6 : Addr}

/-- the sentinels and the table -/
structure EvP (w : World) (a1 a2 a3 a4 a5 a6 : Addr) : Prop where
  s6 : S6 w a1 a2 a3 a4 a5 a6
  tab : ∀ k, w.cell? ⟨13, k, none⟩ = binV[k]?

theorem EvP.below {w w' : World} (h : EvP w a1 a2 a3 a4 a5 a6) (hb : Below w.heap.size w w') : EvP w' a1 a2 a3 a4 a5 a6 :=
  ⟨h.s6.below hb (Nat.le_refl _), fun k => (hb.cell (p := ⟨13, k, none⟩) (by have := h.s6.big; show 13 < _; omega)).trans (h.tab k)⟩

theorem EvP.gy {w : World} (h : EvP w a1 a2 a3 a4 a5 a6) : Gy w a4 := ⟨h.s6.g4, h.s6.big, h.tab⟩

/-- what parse answers -/
def PqA (a1 a2 a3 a4 a5 a6 : Addr) (R : List Nd × List St × List Int × Int × Int) (w : World) (r : Ending) (w' : World) : Prop :=
  ((R.2.2.2.1 = 0 ∧ R.2.2.2.2 = 0 ∧ ∃ nd pl nv kv sv, r = .returned (.tuple #[.agg #[nd, sv], pl, .nilIface]) ∧ OwnN w' w.heap.size nd R.1 nv kv ∧ w'.ownsRow w.heap.size 51 4 sv R.2.1.length (stmC R.2.1) ∧ w'.ownsRow w.heap.size 3 1 pl R.2.2.1.length (intsV R.2.2.1) ∧ (∀ q, pl.ownBlock = some q → ∀ j, (hj : j < kv.length) → kv[j].ownBlock ≠ some q)) ∨
   (R.1 = [] ∧ R.2.1 = [] ∧ R.2.2.1 = [] ∧ 1 ≤ R.2.2.2.1 ∧ R.2.2.2.1 ≤ 3 ∧ ∃ b, r = .returned (.tuple #[.agg #[.slice none 0 0, .slice none 0 0], .slice none 0 0, errP b]) ∧ Row w' b #[.int .i64 R.2.2.2.2, causeV a1 a2 a3 R.2.2.2.1] 88) ∨
   (R.1 = [] ∧ R.2.1 = [] ∧ R.2.2.1 = [] ∧ 4 ≤ R.2.2.2.1 ∧ R.2.2.2.1 ≤ 6 ∧ ∃ b, r = .returned (.tuple #[.agg #[.slice none 0 0, .slice none 0 0], .slice none 0 0, errP b]) ∧ ErP a4 a5 a6 R.2.2.2.1 R.2.2.2.2 b w')) ∧ Below w.heap.size w w'

theorem row_ne {w : World} {b b' : Nat} {cs cs' : Array Value} {t t' : TypeId} (R : Row w b cs t) (R' : Row w b' cs' t') (h : t ≠ t') : b ≠ b' := fun e => by
  have r1 := R.out
  have r2 := R'.out
  rw [e, r2] at r1
  injection r1 with r1
  injection r1 with _ r1
  exact h r1.symm

theorem OwnN.low {w : World} {lo lo' : Nat} {v : Value} {N : List Nd} {nv kv : List Value} (h : OwnN w lo v N nv kv) (hl : lo' ≤ lo) : OwnN w lo' v N nv kv :=
  ⟨h.len, h.lenk, owns_low h.own hl, fun j hj hj' => owns_low (h.names j hj hj') hl, fun j hj hj' => owns_low (h.kids j hj hj') hl, h.apart, h.apartk⟩

/-- a policy out of its block, and two more -/
theorem res_pl {fn : Func} {a u v : Tmp} (h : fn.results = #[.cell a 25, .tmp u, .tmp v]) {tmps : Array Value} {w : World} {b : Nat} {v0 v1 e f : Value} (ha : tmps.getD a undef = .pointer (some ⟨b, 0, none⟩)) (hu : tmps.getD u undef = e) (hv : tmps.getD v undef = f)
    (R : Row w b #[v0, v1] 25) : (results fn tmps).run Tryz.prog w = .ok (.tuple #[.agg #[v0, v1], e, f]) w := by
  rw [Array.getD_eq_getD_getElem?] at ha hu hv
  have g0 : w.cell? ⟨b, 0, none⟩ = some v0 := R.cell 0
  have g1 : w.cell? ⟨b, 1, none⟩ = some v1 := R.cell 1
  simp [results, h, ha, hu, hv, go_sem, g0, g1]

set_option maxRecDepth 100000 in
set_option maxHeartbeats 6400000 in
theorem parse_any (t : ByteArray) (x : QR) (d : DP (scanR t).toks x) (w : World) (ht : t.size ≤ 1048576) (E : EvP w a1 a2 a3 a4 a5 a6) :
    Calls Tryz.prog 19 #[.string t] w (PqA a1 a2 a3 a4 a5 a6 (psR t x) w) := by
  have B0 := (Below.refl w.heap.size w).alloc (Nat.le_refl _) (.cells #[.slice none 0 0, .slice none 0 0] 25)
  have R0 := Row.new w #[.slice none 0 0, .slice none 0 0] 25
  have HE := hide (E.below B0)
  have HD := hide d
  have HL := hide (scan_len t)
  clear E d
  go_enter Tryz.func19, Tryz.ntmps19
  go_wp2_with fail
  generalize hWW : w.alloc (.cells #[.slice none 0 0, .slice none 0 0] 25) = W at *
  have zW : w.heap.size < W.heap.size := by rw [← hWW]; simp
  clear hWW
  refine (scan_any t W ht (unhide HE).s6.snt).mono ?_
  rintro e w1 (⟨hc, ha, xt, ct, rfl, hown, hok, hb1⟩ | ⟨hn, h1, h3, b, rfl, R1, hb1⟩)
  · have F1 := R0.after hb1 (Nat.le_refl _)
    have B1 := B0.trans (hb1.mono B0.size)
    have HC := hide hc
    have HE1 := hide ((unhide HE).below hb1)
    have hT := unhide HL
    have HOK := hide hok
    generalize hTT : (scanR t).toks = T at *
    clear hc ha hok hTT
    obtain ⟨i, hi, hz0, hz1, hz2⟩ := info_parts infoT
    have hb2 := hb1.alloc hb1.size (.cells #[.int .i64 0, .int .i64 0, .string ⟨#[]⟩, .int .i64 (t.size : Int)] 42)
    have hown2 := hown.alloc (.cells #[.int .i64 0, .int .i64 0, .string ⟨#[]⟩, .int .i64 (t.size : Int)] 42)
    have RV := Row.new w1 #[.int .i64 0, .int .i64 0, .string ⟨#[]⟩, .int .i64 (t.size : Int)] 42
    dsimp only
    go_wp2_with (at_builtin; refine wpList_append_own _ rfl _ _ 37 rfl W.heap.size 42 i (.agg #[.int .i64 0, .int .i64 0, .string ByteArray.empty, .int .i64 0]) 4 40 Tryz.underlying37 hi hz0 hz1 hz2 rfl (by decide) _ _ _ rfl hown2 ⟨w1.heap.size, 0, none⟩ 1 1 (tok4 (eT t.size)) rfl rfl ?c1 ?c2 ?c3 ?c4 ?c5 ?_)
    case c1 => exact tok_cells (x := eT t.size) RV
    case c2 => exact tok_one _
    case c3 => unfold maxLen; omega
    case c4 => omega
    case c5 => have := hb1.size; simp; omega
    intro v' w3 hown' hgrow _
    have B3 : Below W.heap.size W w3 := hb2.grown hgrow (by simp; have := hb1.size; omega) (fun q hq => (hown.lt q hq).1)
    rw [← tokC_snoc] at hown'
    obtain ⟨xv, cv, hfv, hcv⟩ := owns_form2 hown'
    obtain ⟨gv, hgv, hlv, _⟩ := hcv (by omega)
    subst hgv
    subst hfv
    clear hgrow hown hown2 RV hb2 hcv
    have B4 := B3.alloc B3.size (.cells #[.slice (some ⟨gv, 0, none⟩) (T.length + 1) cv, .int .i64 0] 75)
    have P4 : Pp (w3.alloc (.cells #[.slice (some ⟨gv, 0, none⟩) (T.length + 1) cv, .int .i64 0] 75)) w3.heap.size gv cv T t.size T 0 := ⟨Row.new w3 _ _, owns_low (hown'.alloc _) (Nat.zero_le _), by simp, by simp, hT⟩
    have E4 := (unhide HE).below B4
    have hbig : 17 ≤ w3.heap.size := Nat.le_trans (unhide HE).s6.big B3.size
    have HPL := hide (policy_any hbig T x (unhide HD) _ 0 P4 E4.gy)
    have HE4 := hide E4
    clear P4 E4 hown'
    go_wp2_with fail
    generalize hW4 : w3.alloc (.cells #[.slice (some ⟨gv, 0, none⟩) (T.length + 1) cv, .int .i64 0] 75) = W4 at *
    have zW4 : w3.heap.size < W4.heap.size := by rw [← hW4]; simp
    clear hW4
    have zW3 := B3.size
    refine (unhide HPL).mono ?_
    intro rr w5 hr
    cases x with
    | bad q =>
      obtain ⟨⟨b, rfl, RE⟩, T5⟩ := hr
      have B5 : Below W.heap.size W w5 := below_touch B4 T5 zW3 B4.size
      have F5 := R0.after B5 (Nat.le_refl _)
      have BB := B0.trans (B5.mono B0.size)
      have HR := hide (psR_bad (t := t) (q := q) (unhide HC))
      have q0 := F5.cell 0
      have q1 := F5.cell 1
      have qf := fun j => F5.frozen j
      simp only [List.getElem?_toArray, List.getElem?_cons_zero, List.getElem?_cons_succ] at q0 q1
      have RE' : Row w5 b #[.int .i64 ((hdE t.size q).at_ : Int), .iface 207 (.pointer (some a4))] 88 := RE
      dsimp only [errP]
      go_wp2_with fail
      have RF := (F5.set 0 (.slice none 0 0)).set 1 (.slice none 0 0)
      have BF := (BB.setCell (p := ⟨w.heap.size, 0, none⟩) (Nat.le_refl _) (.slice none 0 0)).setCell (p := ⟨w.heap.size, 1, none⟩) (Nat.le_refl _) (.slice none 0 0)
      have hne : b ≠ w.heap.size := row_ne RE' F5 (by decide)
      have R1F := (RE'.setFar (p := ⟨w.heap.size, 0, none⟩) hne (.slice none 0 0)).setFar (p := ⟨w.heap.size, 1, none⟩) hne (.slice none 0 0)
      rw [unhide HR]
      exact bodyPost_ret (res_pl Tryz.results19 rfl rfl rfl RF) rfl ⟨.inr (.inr ⟨rfl, rfl, rfl, by show (4 : Int) ≤ 4; omega, by show (4 : Int) ≤ 6; omega, b, rfl, R1F⟩), BF⟩
    | ok S =>
      obtain ⟨⟨X, a, cx, rfl, hownX, hXS, hX4⟩, T5⟩ := hr
      have B5 : Below W.heap.size W w5 := below_touch B4 T5 zW3 B4.size
      have pc := (unhide HD).cut S rfl
      have hcnt := pc.cnt
      obtain ⟨sN, sT, sP, sC, sS⟩ := SxsP.same X S hXS
      have hXl := SxsP.len X S hXS
      have hX0 : X.length ≠ 0 := fun e => (unhide HD).ne S rfl (List.eq_nil_of_length_eq_zero (by omega))
      have hsok := SxsP.sok X S hXS (fun q hq => by rw [← pc.sets] at hq; exact setsT_ok T (unhide HOK) (by omega) q hq)
      rcases hownX.2 with ⟨_, h0⟩ | ⟨g, cap, cur, hv, hlo, hg, hcap, hmax, hsz, htake⟩
      · exact absurd h0 hX0
      simp only [Value.slice.injEq, true_and] at hv
      obtain ⟨rfl, rfl⟩ := hv
      have RX : Row w5 g cur 111 := ⟨hg⟩
      have hcur : ∀ (r : Nat) (u : Value), (sxC X)[r]? = some u → cur[r]? = some u := fun r u hu => by
        rw [← htake, List.getElem?_take] at hu
        split at hu
        · simpa using hu
        · cases hu
      have HNU := hide (number_any X g X.length cx cur w5 rfl RX hcur hsok (by rw [sC]; omega) (by omega))
      have HSA := hide (And.intro sN (And.intro sT (And.intro sP (And.intro sC sS))))
      have HCN := hide (show ∀ x ∈ X, cntO x.cond ≤ 65535 ∧ cntO x.grant ≤ 65535 from fun x hx => by have := cntX_mem hx; rw [sC] at this; omega)
      have HCX := hide (show cntX X ≤ 65535 by rw [sC]; omega)
      have HOX := hide hownX
      have HE5 := hide ((unhide HE).below B5)
      clear hg hcur htake hsz hmax hcap hsok pc hcnt sN sT sP sC sS hXS RX T5 hownX HPL hXl hX0 hlo
      dsimp only
      go_wp2_with fail
      refine (unhide HNU).mono ?_
      rintro rr w6 ⟨⟨nd, pl, nv, kv, sv, rfl, ON, OS, OP, hap⟩, hb6⟩
      obtain ⟨xn, cn, rfl, _⟩ := owns_form2 ON.own
      obtain ⟨xp, cp, rfl, _⟩ := owns_form2 OP
      obtain ⟨xs, cs, rfl, _⟩ := owns_form2 OS
      have B6 := B5.trans (hb6.mono B5.size)
      have hb7 := (Below.refl w6.heap.size w6).alloc (Nat.le_refl _) (.cells #[.slice xn (numN 0 X).length cn, .slice xs X.length cs] 25)
      have R7 := Row.new w6 #[.slice xn (numN 0 X).length cn, .slice xs X.length cs] 25
      have B7 := B6.alloc B6.size (.cells #[.slice xn (numN 0 X).length cn, .slice xs X.length cs] 25)
      have ON7 := ON.blocks (fun k _ hk => hb7.block k hk)
      have OP7 := owns_blocksN OP (fun q hq => hb7.block q (OP.lt q hq).2)
      have OS7 := owns_blocksN OS (fun q hq => hb7.block q (OS.lt q hq).2)
      have HNA := hide (narrow_any (numN 0 X) (numP X) _ _ nv kv _ _ ON7 OP7 (by rw [numN_len, numP_len]) (by rw [numN_len]; exact unhide HCX) ((unhide HE).below B7).s6)
      have HON := hide ON7
      have HOP := hide OP7
      have HOS := hide OS7
      have HAP := hide hap
      have HOX7 := hide (owns_blocksN (unhide HOX) (fun q hq => by rw [hb7.block q (Nat.lt_of_lt_of_le ((unhide HOX).lt q hq).2 hb6.size), hb6.block q ((unhide HOX).lt q hq).2]) : World.ownsRow _ W4.heap.size 111 5 (.slice (some ⟨g, 0, none⟩) X.length cx) X.length (sxC X))
      have h65 := B5.size
      clear ON OP OS ON7 OP7 OS7 hap HNU HOX
      dsimp only
      go_wp2_with fail
      generalize hW7 : w6.alloc (.cells #[.slice xn (numN 0 X).length cn, .slice xs X.length cs] 25) = W7 at *
      clear hW7
      refine (unhide HNA).mono ?_
      rintro rr w8 ⟨hE8, hb8⟩
      have B8 := B7.trans (hb8.mono B7.size)
      have R8 := R7.after hb8 (Nat.le_refl _)
      cases hwl : (wlX (numN 0 X) (numP X)).head? with
      | some i =>
        rw [hwl] at hE8
        obtain ⟨b, rfl, RE⟩ := hE8
        have HR := hide (psR_wide (t := t) (S := S) (i := i) (unhide HC) (by rw [← wide_all S 0, ← (unhide HSA).1 0, ← (unhide HSA).2.2.1]; exact hwl))
        clear hwl
        have F9 := R0.after B8 (Nat.le_refl _)
        have BB := B0.trans (B8.mono B0.size)
        have q0 := F9.cell 0
        have q1 := F9.cell 1
        have qf := fun j => F9.frozen j
        simp only [List.getElem?_toArray, List.getElem?_cons_zero, List.getElem?_cons_succ] at q0 q1
        have RE' : Row w8 b _ 88 := RE
        dsimp only [errP]
        go_wp2_with fail
        have RF := (F9.set 0 (.slice none 0 0)).set 1 (.slice none 0 0)
        have BF := (BB.setCell (p := ⟨w.heap.size, 0, none⟩) (Nat.le_refl _) (.slice none 0 0)).setCell (p := ⟨w.heap.size, 1, none⟩) (Nat.le_refl _) (.slice none 0 0)
        have hne : b ≠ w.heap.size := row_ne RE' F9 (by decide)
        have R1F := (RE'.setFar (p := ⟨w.heap.size, 0, none⟩) hne (.slice none 0 0)).setFar (p := ⟨w.heap.size, 1, none⟩) hne (.slice none 0 0)
        rw [unhide HR]
        exact bodyPost_ret (res_pl Tryz.results19 rfl rfl rfl RF) rfl ⟨.inr (.inr ⟨rfl, rfl, rfl, by show (4 : Int) ≤ 5; omega, by show (5 : Int) ≤ 6; omega, b, rfl, R1F⟩), BF⟩
      | none =>
        rw [hwl] at hE8
        subst hE8
        have HOX8 := hide (owns_blocksN (unhide HOX7) (fun q hq => hb8.block q ((unhide HOX7).lt q hq).2) : w8.ownsRow W4.heap.size 111 5 (.slice (some ⟨g, 0, none⟩) X.length cx) X.length (sxC X))
        have HWL := hide hwl
        have HSHA := hide (shallow_any X (.nilIface) w8 _ _ cx (unhide HOX8) (unhide HCN) hX4 ((unhide HE).below B8).s6)
        clear hwl
        dsimp only
        go_wp2_with fail
        refine (unhide HSHA).mono ?_
        rintro rr w9 ⟨hE9, hb9⟩
        have B9 := B8.trans (hb9.mono B8.size)
        have R9 := R8.after hb9 (Nat.le_refl _)
        cases hsh : shX X with
        | some i =>
          rw [hsh] at hE9
          obtain ⟨b, rfl, RE⟩ := hE9
          have HR := hide (psR_deep (t := t) (S := S) (i := i) (unhide HC) (by rw [← wide_all S 0, ← (unhide HSA).1 0, ← (unhide HSA).2.2.1]; exact unhide HWL) (by rw [← (unhide HSA).2.2.2.2]; exact hsh))
          clear hsh
          have F9 := R0.after B9 (Nat.le_refl _)
          have BB := B0.trans (B9.mono B0.size)
          have q0 := F9.cell 0
          have q1 := F9.cell 1
          have qf := fun j => F9.frozen j
          simp only [List.getElem?_toArray, List.getElem?_cons_zero, List.getElem?_cons_succ] at q0 q1
          have RE' : Row w9 b _ 88 := RE
          dsimp only [errP]
          go_wp2_with fail
          have RF := (F9.set 0 (.slice none 0 0)).set 1 (.slice none 0 0)
          have BF := (BB.setCell (p := ⟨w.heap.size, 0, none⟩) (Nat.le_refl _) (.slice none 0 0)).setCell (p := ⟨w.heap.size, 1, none⟩) (Nat.le_refl _) (.slice none 0 0)
          have hne : b ≠ w.heap.size := row_ne RE' F9 (by decide)
          have R1F := (RE'.setFar (p := ⟨w.heap.size, 0, none⟩) hne (.slice none 0 0)).setFar (p := ⟨w.heap.size, 1, none⟩) hne (.slice none 0 0)
          rw [unhide HR]
          exact bodyPost_ret (res_pl Tryz.results19 rfl rfl rfl RF) rfl ⟨.inr (.inr ⟨rfl, rfl, rfl, by show (4 : Int) ≤ 6; omega, by show (6 : Int) ≤ 6; omega, b, rfl, R1F⟩), BF⟩
        | none =>
          rw [hsh] at hE9
          subst hE9
          have HR := hide (psR_ok (t := t) (S := S) (unhide HC) (by rw [← wide_all S 0, ← (unhide HSA).1 0, ← (unhide HSA).2.2.1]; exact unhide HWL) (by rw [← (unhide HSA).2.2.2.2]; exact hsh))
          clear hsh
          have F9 := R0.after B9 (Nat.le_refl _)
          have BB := B0.trans (B9.mono B0.size)
          have q0 := F9.cell 0
          have q1 := F9.cell 1
          have qf := fun j => F9.frozen j
          have s0 := R9.cell 0
          have s1 := R9.cell 1
          simp only [List.getElem?_toArray, List.getElem?_cons_zero, List.getElem?_cons_succ] at q0 q1 s0 s1
          have nz : w6.heap.size ≠ w.heap.size := by have := B6.size; omega
          have nz' : w.heap.size ≠ w6.heap.size := fun e => nz e.symm
          dsimp only
          go_wp2_with fail
          have hb89 := hb8.trans (hb9.mono hb8.size)
          have ON9 := (unhide HON).blocks (fun k _ hk => hb89.block k hk)
          have OP9 := owns_blocksN (unhide HOP) (fun q hq => hb89.block q ((unhide HOP).lt q hq).2)
          have OS9 := owns_blocksN (unhide HOS) (fun q hq => hb89.block q ((unhide HOS).lt q hq).2)
          have hz : ∀ q, q ≠ w.heap.size → ((w9.setCell ⟨w.heap.size, 0, none⟩ (.slice xn (numN 0 X).length cn)).setCell ⟨w.heap.size, 1, none⟩ (.slice xs X.length cs)).heap[q]? = w9.heap[q]? := fun q hq => (heap_setCell_other _ ⟨w.heap.size, 1, none⟩ q _ hq).trans (heap_setCell_other w9 ⟨w.heap.size, 0, none⟩ q _ hq)
          have RF := (F9.set 0 (.slice xn (numN 0 X).length cn)).set 1 (.slice xs X.length cs)
          have BF := (BB.setCell (p := ⟨w.heap.size, 0, none⟩) (Nat.le_refl _) (.slice xn (numN 0 X).length cn)).setCell (p := ⟨w.heap.size, 1, none⟩) (Nat.le_refl _) (.slice xs X.length cs)
          have ONF := ON9.upto (fun q hq => hz q (fun e => own_ne_row F9 ON9.own (by decide) (by rw [hq, e]))) (fun j hj q hq => hz q (fun e => own_ne_row F9 (ON9.names j (by rw [← ON9.len]; exact hj) hj) (by decide) (by rw [hq, e]))) (fun j hj q hq => hz q (fun e => own_ne_row F9 (ON9.kids j (by rw [← ON9.lenk]; exact hj) hj) (by decide) (by rw [hq, e])))
          have OPF := owns_blocksN OP9 (fun q hq => hz q (fun e => own_ne_row F9 OP9 (by decide) (by rw [hq, e])))
          have OSF := owns_blocksN OS9 (fun q hq => hz q (fun e => own_ne_row F9 OS9 (by decide) (by rw [hq, e])))
          have hlow : w.heap.size ≤ w5.heap.size := by omega
          rw [unhide HR, ← (unhide HSA).1 0, ← (unhide HSA).2.1 0, ← (unhide HSA).2.2.1]
          refine bodyPost_ret (res_pl Tryz.results19 rfl rfl rfl RF) rfl ⟨.inl ⟨rfl, rfl, _, _, nv, kv, _, rfl, ONF.low hlow, ?_, owns_low OPF hlow, unhide HAP⟩, BF⟩
          show World.ownsRow _ _ _ _ _ (numT 0 X).length _
          rw [numT_len]
          exact owns_low OSF hlow
  · have F1 := R0.after hb1 (Nat.le_refl _)
    have B1 := B0.trans (hb1.mono B0.size)
    have HR := hide (show psR t x = ([], [], [], (scanR t).code, ((scanR t).at_ : Int)) from psR_scan (by omega))
    have Hc := hide (And.intro h1 h3)
    have q0 := F1.cell 0
    have q1 := F1.cell 1
    have qf := fun j => F1.frozen j
    simp only [List.getElem?_toArray, List.getElem?_cons_zero, List.getElem?_cons_succ] at q0 q1
    clear hn h1 h3
    dsimp only
    go_wp2_with fail
    have RF := (F1.set 0 (.slice none 0 0)).set 1 (.slice none 0 0)
    have BF := (B1.setCell (p := ⟨w.heap.size, 0, none⟩) (Nat.le_refl _) (.slice none 0 0)).setCell (p := ⟨w.heap.size, 1, none⟩) (Nat.le_refl _) (.slice none 0 0)
    have hne : b ≠ w.heap.size := row_ne R1 F1 (by decide)
    have R1F := (R1.setFar (p := ⟨w.heap.size, 0, none⟩) hne (.slice none 0 0)).setFar (p := ⟨w.heap.size, 1, none⟩) hne (.slice none 0 0)
    rw [unhide HR]
    exact bodyPost_ret (res_pl Tryz.results19 rfl rfl rfl RF) rfl ⟨.inr (.inl ⟨rfl, rfl, rfl, (unhide Hc).1, (unhide Hc).2, b, rfl, R1F⟩), BF⟩

end Go.Proofs.YtcehablmloleaaaGreatDoor

namespace Go.Proofs.YtcehablmloleaaaGreatDoor
open Go.RowKit
set_option linter.unusedVariables false
variable {a1 a2 a3 a4 a5 a6 : Addr}

/-- what Parse answers -/
def IpA (R : List Nd × List St × List Int × Int × Int) (w : World) (r : Ending) (w' : World) : Prop :=
  (∃ nd pl nv kv sv, r = .returned (.tuple #[.agg #[nd, sv], pl, .agg #[.int .i64 R.2.2.2.1, .int .i64 R.2.2.2.2]]) ∧ OwnN w' w.heap.size nd R.1 nv kv ∧ w'.ownsRow w.heap.size 51 4 sv R.2.1.length (stmC R.2.1) ∧ w'.ownsRow w.heap.size 3 1 pl R.2.2.1.length (intsV R.2.2.1) ∧ (∀ q, pl.ownBlock = some q → ∀ j, (hj : j < kv.length) → kv[j].ownBlock ≠ some q)) ∧ Below w.heap.size w w'

/-- a policy and a fault out of their blocks -/
theorem res_pf {fn : Func} {a u v : Tmp} (h : fn.results = #[.cell a 25, .tmp u, .cell v 28]) {tmps : Array Value} {w : World} {b b' : Nat} {v0 v1 e f0 f1 : Value} (ha : tmps.getD a undef = .pointer (some ⟨b, 0, none⟩)) (hu : tmps.getD u undef = e) (hv : tmps.getD v undef = .pointer (some ⟨b', 0, none⟩))
    (R : Row w b #[v0, v1] 25) (F : Row w b' #[f0, f1] 28) : (results fn tmps).run Tryz.prog w = .ok (.tuple #[.agg #[v0, v1], e, .agg #[f0, f1]]) w := by
  rw [Array.getD_eq_getD_getElem?] at ha hu hv
  have g0 : w.cell? ⟨b, 0, none⟩ = some v0 := R.cell 0
  have g1 : w.cell? ⟨b, 1, none⟩ = some v1 := R.cell 1
  have g2 : w.cell? ⟨b', 0, none⟩ = some f0 := F.cell 0
  have g3 : w.cell? ⟨b', 1, none⟩ = some f1 := F.cell 1
  simp [results, h, ha, hu, hv, go_sem, g0, g1, g2, g3]

theorem PqA.uni {R : List Nd × List St × List Int × Int × Int} {w w1 : World} {r : Ending} (h : PqA a1 a2 a3 a4 a5 a6 R w r w1) (E : EvP w1 a1 a2 a3 a4 a5 a6) :
    ∃ nd pl nv kv sv ev, r = .returned (.tuple #[.agg #[nd, sv], pl, ev]) ∧ isIf ev ∧ OwnN w1 w.heap.size nd R.1 nv kv ∧ w1.ownsRow w.heap.size 51 4 sv R.2.1.length (stmC R.2.1) ∧ w1.ownsRow w.heap.size 3 1 pl R.2.2.1.length (intsV R.2.2.1) ∧ (∀ q, pl.ownBlock = some q → ∀ j, (hj : j < kv.length) → kv[j].ownBlock ≠ some q) ∧
      (∀ w', Below w1.heap.size w1 w' → Calls Tryz.prog 20 #[ev] w' fun e w'' => e = .returned (.agg #[.int .i64 R.2.2.2.1, .int .i64 R.2.2.2.2]) ∧ Below w'.heap.size w' w'') := by
  obtain ⟨N, L, O, cd, at_⟩ := R
  rcases h with ⟨⟨h1, h2, nd, pl, nv, kv, sv, rfl, g1, g2, g3, g4⟩ | ⟨h1, h2, h3, h4, h5, b, rfl, RE⟩ | ⟨h1, h2, h3, h4, h5, b, rfl, RE⟩, hb⟩
  · dsimp only at h1 h2
    subst h1 h2
    exact ⟨nd, pl, nv, kv, sv, .nilIface, rfl, .inl rfl, g1, g2, g3, g4, fun w' _ => faultOf_nil w'⟩
  · dsimp only at h1 h2 h3 h4 h5 RE
    subst h1 h2 h3
    exact ⟨_, _, [], [], _, _, rfl, .inr ⟨_, _, rfl⟩, OwnN.nil _ _, World.ownsRow_nil _ _ _ _, World.ownsRow_nil _ _ _ _, (fun q hq => by cases hq), fun w' hb' => faultOf_any b at_ cd w' (E.below hb').s6.snt (RE.after hb' (Nat.le_refl _)) ⟨h4, h5⟩⟩
  · dsimp only at h1 h2 h3 h4 h5 RE
    subst h1 h2 h3
    exact ⟨_, _, [], [], _, _, rfl, .inr ⟨_, _, rfl⟩, OwnN.nil _ _, World.ownsRow_nil _ _ _ _, World.ownsRow_nil _ _ _ _, (fun q hq => by cases hq), fun w' hb' => faultOf6 b cd at_ w' (E.below hb').s6 (Row.after RE hb' (Nat.le_refl _)) ⟨h4, h5⟩⟩

set_option maxRecDepth 100000 in
set_option maxHeartbeats 3200000 in
theorem iParse_any (t : ByteArray) (x : QR) (d : DP (scanR t).toks x) (w : World) (ht : t.size ≤ 1048576) (E : EvP w a1 a2 a3 a4 a5 a6) :
    Calls Tryz.prog 5 #[.string t] w (IpA (psR t x) w) := by
  have B0 := ((Below.refl w.heap.size w).alloc (Nat.le_refl _) (.cells #[.slice none 0 0, .slice none 0 0] 25)).alloc (by simp) (.cells #[.int .i64 0, .int .i64 0] 28)
  have R0 := (Row.new w #[.slice none 0 0, .slice none 0 0] 25).alloc (.cells #[.int .i64 0, .int .i64 0] 28)
  have F0 := Row.new (w.alloc (.cells #[.slice none 0 0, .slice none 0 0] 25)) #[.int .i64 0, .int .i64 0] 28
  simp only [World.size_alloc] at F0
  have HE := hide (E.below B0)
  have HP := hide (parse_any t x d _ ht (E.below B0))
  generalize psR t x = R at HP ⊢
  obtain ⟨N, L, O, cd, at_⟩ := R
  clear E d
  go_enter Tryz.func5, Tryz.ntmps5
  go_wp2_with fail
  generalize hWW : (w.alloc (.cells #[.slice none 0 0, .slice none 0 0] 25)).alloc (.cells #[.int .i64 0, .int .i64 0] 28) = W at *
  have zW : W.heap.size = w.heap.size + 2 := by rw [← hWW]; simp
  have HZW := hide zW
  clear hWW zW
  refine (unhide HP).mono ?_
  intro rr w1 hr
  have hb1 := hr.2
  obtain ⟨nd, pl, nv, kv, sv, ev, rfl, hev, ON, OS, OP, hap, hf⟩ := hr.uni ((unhide HE).below hb1)
  clear hr HP
  obtain ⟨xn, cn, rfl, _⟩ := owns_form2 ON.own
  obtain ⟨xp, cp, rfl, _⟩ := owns_form2 OP
  obtain ⟨xs, cs, rfl, _⟩ := owns_form2 OS
  dsimp only at ON OS OP hf ⊢
  have R1 := R0.after hb1 (Nat.le_refl _)
  have F1 := F0.after hb1 (Nat.le_refl _)
  have HF := hide hf
  have HON := hide ON
  have HOS := hide OS
  have HOP := hide OP
  have hb2 := (Below.refl w1.heap.size w1).alloc (Nat.le_refl _) (.cells #[.slice xn N.length cn, .slice xs L.length cs] 25)
  have RQ := Row.new w1 #[.slice xn N.length cn, .slice xs L.length cs] 25
  clear hf ON OS OP
  have hz1 : w.heap.size + 2 ≤ w1.heap.size := by have := hb1.size; have := unhide HZW; omega
  have hnm : (Tryz.f20.name == "runtime.NumGoroutine") = false := by kernel_rfl
  have hbd : Tryz.f20.body.isNone = false := by kernel_rfl
  have R2 := R1.alloc (.cells #[.slice xn N.length cn, .slice xs L.length cs] 25)
  have F2 := F1.alloc (.cells #[.slice xn N.length cn, .slice xs L.length cs] 25)
  have n1 : w.heap.size ≠ w.heap.size + 1 := by omega
  have n2 : w.heap.size + 1 ≠ w.heap.size := by omega
  have n3 : w1.heap.size ≠ w.heap.size := by omega
  have n4 : w1.heap.size ≠ w.heap.size + 1 := by omega
  rcases hev with rfl | ⟨tev, uev, rfl⟩
  · go_wp2_with fail
    generalize hW3 : w1.alloc (.cells #[.slice xn N.length cn, .slice xs L.length cs] 25) = W3 at *
    clear hW3
    have r0 : W3.cell? ⟨w1.heap.size, 0, none⟩ = some (.slice xn N.length cn) := RQ.cell 0
    have r1 : W3.cell? ⟨w1.heap.size, 1, none⟩ = some (.slice xs L.length cs) := RQ.cell 1
    have D3 : Below W3.heap.size W3 W3.drew := (Below.refl _ _).drew
    go_region_law (refine step_callR rfl 20 _ Tryz.func20 hnm hbd _ _ rfl (.nilIface) rfl (fun v' w' => v' = .agg #[.int .i64 cd, .int .i64 at_] ∧ Below W3.heap.size W3 w') ((unhide HF W3.drew hb2.drew).mono (fun r w' h => ⟨_, h.1, rfl, D3.trans h.2⟩)) ?_; rintro v4 w4 ⟨rfl, hb4⟩; have A4 := RQ.after hb4 (Nat.le_refl _); have RT4 := R2.after hb4 (Nat.le_refl _); have RF4 := F2.after hb4 (Nat.le_refl _); have s0 : w4.cell? ⟨w1.heap.size, 0, none⟩ = some (.slice xn N.length cn) := A4.cell 0; have s1 : w4.cell? ⟨w1.heap.size, 1, none⟩ = some (.slice xs L.length cs) := A4.cell 1; have t0 : w4.cell? ⟨w.heap.size, 0, none⟩ = some (.slice none 0 0) := RT4.cell 0; have t1 : w4.cell? ⟨w.heap.size, 1, none⟩ = some (.slice none 0 0) := RT4.cell 1; have tf := fun j => RT4.frozen j; have u0 : w4.cell? ⟨w.heap.size + 1, 0, none⟩ = some (.int .i64 0) := RF4.cell 0; have u1 : w4.cell? ⟨w.heap.size + 1, 1, none⟩ = some (.int .i64 0) := RF4.cell 1; have uf := fun j => RF4.frozen j)
    all_goals
      have RT5 := (((RT4.set 0 (.slice xn N.length cn)).set 1 (.slice xs L.length cs)).setFar (p := ⟨w.heap.size + 1, 0, none⟩) n1 (.int .i64 cd)).setFar (p := ⟨w.heap.size + 1, 1, none⟩) n1 (.int .i64 at_)
      have RF5 := (((RF4.setFar (p := ⟨w.heap.size, 0, none⟩) n2 (.slice xn N.length cn)).setFar (p := ⟨w.heap.size, 1, none⟩) n2 (.slice xs L.length cs)).set 0 (.int .i64 cd)).set 1 (.int .i64 at_)
      have B3 := (B0.trans (hb1.mono B0.size)).trans (hb2.mono (Nat.le_trans B0.size hb1.size))
      have B4 := B3.trans (hb4.mono B3.size)
      have B5 := (((B4.setCell (p := ⟨w.heap.size, 0, none⟩) (Nat.le_refl _) (.slice xn N.length cn)).setCell (p := ⟨w.heap.size, 1, none⟩) (Nat.le_refl _) (.slice xs L.length cs)).setCell (p := ⟨w.heap.size + 1, 0, none⟩) (Nat.le_succ _) (.int .i64 cd)).setCell (p := ⟨w.heap.size + 1, 1, none⟩) (Nat.le_succ _) (.int .i64 at_)
      have kp : ∀ q, W.heap.size ≤ q → q < w1.heap.size → ((((w4.setCell ⟨w.heap.size, 0, none⟩ (.slice xn N.length cn)).setCell ⟨w.heap.size, 1, none⟩ (.slice xs L.length cs)).setCell ⟨w.heap.size + 1, 0, none⟩ (.int .i64 cd)).setCell ⟨w.heap.size + 1, 1, none⟩ (.int .i64 at_)).heap[q]? = w1.heap[q]? := fun q h1 h2 => by
        have hz := unhide HZW
        have m1 : q ≠ w.heap.size := by omega
        have m2 : q ≠ w.heap.size + 1 := by omega
        rw [heap_setCell_other _ _ q _ m2, heap_setCell_other _ _ q _ m2, heap_setCell_other _ _ q _ m1, heap_setCell_other _ _ q _ m1, hb4.block q (Nat.lt_of_lt_of_le h2 hb2.size), hb2.block q h2]
      have ON5 := (unhide HON).blocks kp
      have OS5 := owns_blocksN (unhide HOS) (fun q hq => kp q ((unhide HOS).lt q hq).1 ((unhide HOS).lt q hq).2)
      have OP5 := owns_blocksN (unhide HOP) (fun q hq => kp q ((unhide HOP).lt q hq).1 ((unhide HOP).lt q hq).2)
      clear s0 s1 t0 t1 tf u0 u1 uf r0 r1 kp
      generalize (((w4.setCell ⟨w.heap.size, 0, none⟩ (.slice xn N.length cn)).setCell ⟨w.heap.size, 1, none⟩ (.slice xs L.length cs)).setCell ⟨w.heap.size + 1, 0, none⟩ (.int .i64 cd)).setCell ⟨w.heap.size + 1, 1, none⟩ (.int .i64 at_) = W5 at *
      go_wp2_with fail
      have hl : w.heap.size ≤ W.heap.size := B0.size
      exact bodyPost_ret (res_pf Tryz.results5 rfl rfl rfl RT5 RF5) rfl ⟨⟨_, _, nv, kv, _, rfl, ON5.low hl, owns_low OS5 hl, owns_low OP5 hl, hap⟩, B5⟩
  · go_wp2_with fail
    generalize hW3 : w1.alloc (.cells #[.slice xn N.length cn, .slice xs L.length cs] 25) = W3 at *
    clear hW3
    have r0 : W3.cell? ⟨w1.heap.size, 0, none⟩ = some (.slice xn N.length cn) := RQ.cell 0
    have r1 : W3.cell? ⟨w1.heap.size, 1, none⟩ = some (.slice xs L.length cs) := RQ.cell 1
    have D3 : Below W3.heap.size W3 W3.drew := (Below.refl _ _).drew
    go_region_law (refine step_callR rfl 20 _ Tryz.func20 hnm hbd _ _ rfl (.iface tev uev) rfl (fun v' w' => v' = .agg #[.int .i64 cd, .int .i64 at_] ∧ Below W3.heap.size W3 w') ((unhide HF W3.drew hb2.drew).mono (fun r w' h => ⟨_, h.1, rfl, D3.trans h.2⟩)) ?_; rintro v4 w4 ⟨rfl, hb4⟩; have A4 := RQ.after hb4 (Nat.le_refl _); have RT4 := R2.after hb4 (Nat.le_refl _); have RF4 := F2.after hb4 (Nat.le_refl _); have s0 : w4.cell? ⟨w1.heap.size, 0, none⟩ = some (.slice xn N.length cn) := A4.cell 0; have s1 : w4.cell? ⟨w1.heap.size, 1, none⟩ = some (.slice xs L.length cs) := A4.cell 1; have t0 : w4.cell? ⟨w.heap.size, 0, none⟩ = some (.slice none 0 0) := RT4.cell 0; have t1 : w4.cell? ⟨w.heap.size, 1, none⟩ = some (.slice none 0 0) := RT4.cell 1; have tf := fun j => RT4.frozen j; have u0 : w4.cell? ⟨w.heap.size + 1, 0, none⟩ = some (.int .i64 0) := RF4.cell 0; have u1 : w4.cell? ⟨w.heap.size + 1, 1, none⟩ = some (.int .i64 0) := RF4.cell 1; have uf := fun j => RF4.frozen j)
    all_goals
      have RT5 := (((RT4.set 0 (.slice xn N.length cn)).set 1 (.slice xs L.length cs)).setFar (p := ⟨w.heap.size + 1, 0, none⟩) n1 (.int .i64 cd)).setFar (p := ⟨w.heap.size + 1, 1, none⟩) n1 (.int .i64 at_)
      have RF5 := (((RF4.setFar (p := ⟨w.heap.size, 0, none⟩) n2 (.slice xn N.length cn)).setFar (p := ⟨w.heap.size, 1, none⟩) n2 (.slice xs L.length cs)).set 0 (.int .i64 cd)).set 1 (.int .i64 at_)
      have B3 := (B0.trans (hb1.mono B0.size)).trans (hb2.mono (Nat.le_trans B0.size hb1.size))
      have B4 := B3.trans (hb4.mono B3.size)
      have B5 := (((B4.setCell (p := ⟨w.heap.size, 0, none⟩) (Nat.le_refl _) (.slice xn N.length cn)).setCell (p := ⟨w.heap.size, 1, none⟩) (Nat.le_refl _) (.slice xs L.length cs)).setCell (p := ⟨w.heap.size + 1, 0, none⟩) (Nat.le_succ _) (.int .i64 cd)).setCell (p := ⟨w.heap.size + 1, 1, none⟩) (Nat.le_succ _) (.int .i64 at_)
      have kp : ∀ q, W.heap.size ≤ q → q < w1.heap.size → ((((w4.setCell ⟨w.heap.size, 0, none⟩ (.slice xn N.length cn)).setCell ⟨w.heap.size, 1, none⟩ (.slice xs L.length cs)).setCell ⟨w.heap.size + 1, 0, none⟩ (.int .i64 cd)).setCell ⟨w.heap.size + 1, 1, none⟩ (.int .i64 at_)).heap[q]? = w1.heap[q]? := fun q h1 h2 => by
        have hz := unhide HZW
        have m1 : q ≠ w.heap.size := by omega
        have m2 : q ≠ w.heap.size + 1 := by omega
        rw [heap_setCell_other _ _ q _ m2, heap_setCell_other _ _ q _ m2, heap_setCell_other _ _ q _ m1, heap_setCell_other _ _ q _ m1, hb4.block q (Nat.lt_of_lt_of_le h2 hb2.size), hb2.block q h2]
      have ON5 := (unhide HON).blocks kp
      have OS5 := owns_blocksN (unhide HOS) (fun q hq => kp q ((unhide HOS).lt q hq).1 ((unhide HOS).lt q hq).2)
      have OP5 := owns_blocksN (unhide HOP) (fun q hq => kp q ((unhide HOP).lt q hq).1 ((unhide HOP).lt q hq).2)
      clear s0 s1 t0 t1 tf u0 u1 uf r0 r1 kp
      generalize (((w4.setCell ⟨w.heap.size, 0, none⟩ (.slice xn N.length cn)).setCell ⟨w.heap.size, 1, none⟩ (.slice xs L.length cs)).setCell ⟨w.heap.size + 1, 0, none⟩ (.int .i64 cd)).setCell ⟨w.heap.size + 1, 1, none⟩ (.int .i64 at_) = W5 at *
      go_wp2_with fail
      have hl : w.heap.size ≤ W.heap.size := B0.size
      exact bodyPost_ret (res_pf Tryz.results5 rfl rfl rfl RT5 RF5) rfl ⟨⟨_, _, nv, kv, _, rfl, ON5.low hl, owns_low OS5 hl, owns_low OP5 hl, hap⟩, B5⟩

end Go.Proofs.YtcehablmloleaaaGreatDoor

/-
  The model's Run. Own work.
-/
import Derived.Test.YtogenboibgddaaaGreatDoorMXAN
import Derived.Test.YtogenboibgddaaaGreatDoorRVO
import Derived.Test.YtogenboibgddaaaGreatDoorYT
namespace Go.Proofs.YtogenboibgddaaaGreatDoor
open Go.RowKit
set_option linter.unusedVariables false

theorem made_at4 (z0 z1 z2 z3 : Value) (n j : Nat) (h : j < n) : (madeCells #[z0, z1, z2, z3] (n * 4))[j * 4]? = some z0 ∧ (madeCells #[z0, z1, z2, z3] (n * 4))[j * 4 + 1]? = some z1 ∧ (madeCells #[z0, z1, z2, z3] (n * 4))[j * 4 + 2]? = some z2 ∧ (madeCells #[z0, z1, z2, z3] (n * 4))[j * 4 + 3]? = some z3 := by
  have e0 : j * 4 % 4 = 0 := by omega
  have e1 : (j * 4 + 1) % 4 = 1 := by omega
  have e2 : (j * 4 + 2) % 4 = 2 := by omega
  have e3 : (j * 4 + 3) % 4 = 3 := by omega
  have q : ∀ k, k < n * 4 → (madeCells #[z0, z1, z2, z3] (n * 4))[k]? = some (#[z0, z1, z2, z3][k % 4]!) := fun k hk => by
    rw [madeCells, Array.getElem?_map, Array.getElem?_range, if_pos hk]
    rfl
  rw [q _ (by omega), q _ (by omega), q _ (by omega), q _ (by omega), e0, e1, e2, e3]
  exact ⟨rfl, rfl, rfl, rfl⟩

theorem step_callR6 {P : Program} {ops : Array Oper} {o : Oper} {a : Act} {w : World} {K : Act → World → Prop} {Q : Exit → Act → World → Prop} {E : Prop} (hgd : o.guard = none) (f : FuncId) (fn : Func) (hf : P.funcs[f]? = some fn) (hname : (fn.name == "runtime.NumGoroutine") = false) (hb : fn.body.isNone = false) (x0 x1 x2 x3 x4 x5 : Operand) (tys : Array TypeId)
    (ho : o.op = .call { callee := .value (.func f), args := #[x0, x1, x2, x3, x4, x5], argTypes := tys }) (v0 v1 v2 v3 v4 v5 : Value) (h0 : a.eval x0 = v0) (h1 : a.eval x1 = v1) (h2 : a.eval x2 = v2) (h3 : a.eval x3 = v3) (h4 : a.eval x4 = v4) (h5 : a.eval x5 = v5)
    (R : Value → World → Prop) (hc : Calls P f #[v0, v1, v2, v3, v4, v5] w fun e w' => ∃ v, e = .returned v ∧ R v w') (h : ∀ v w', R v w' → K (a.put o.dst v) w') :
    if Region.wanted o (yielded ops a.tmps) = true then Oper.wp P o a w K Q else E := by
  have hw : Region.wanted o (yielded ops a.tmps) = true := by simp [Region.wanted, hgd]
  rw [if_pos hw]
  unfold Oper.wp
  have hrun : (execOp a.eval o).run P w = .ok (.enter f #[v0, v1, v2, v3, v4, v5]) w := by
    subst h0 h1 h2 h3 h4 h5
    have q1 : fn.name ≠ "runtime.NumGoroutine" := by simpa using hname
    have q2 : (callFunc f #[a.eval x0, a.eval x1, a.eval x2, a.eval x3, a.eval x4, a.eval x5]).run P w = .ok (.enter f #[a.eval x0, a.eval x1, a.eval x2, a.eval x3, a.eval x4, a.eval x5]) w := by
      have q3 : fn.body ≠ none := fun e => by rw [e] at hb; cases hb
      simp [callFunc, hf, q1, q3]
    simpa [execOp, ho, resolve, invoke, Act.eval, Result.andThen, go_sem] using q2
  rw [hrun, Oper.upon_enter]
  refine hc.mono ?_
  rintro e w' ⟨v, rfl, hr⟩
  exact h v w' hr

/-- new slots -/
theorem slo_new {w : World} {lb S : Nat} (h : Row w lb (madeCells #[.int .i64 0, .int .i64 0, .string ⟨#[]⟩, .slice none 0 0] (S * 4)) 90) : SlO w lb S (List.replicate S none) (madeCells #[.int .i64 0, .int .i64 0, .string ⟨#[]⟩, .slice none 0 0] (S * 4)) := by
  refine ⟨h, ⟨size_madeCells _ _, by simp⟩, fun j hj => ?_⟩
  obtain ⟨e0, e1, e2, e3⟩ := made_at4 (.int .i64 0) (.int .i64 0) (.string ⟨#[]⟩) (.slice none 0 0) S j hj
  exact ⟨0, ⟨#[]⟩, none, 0, 0, e0, e1, e2, e3, fun v hv => by simp [hj] at hv⟩

/-- it runs -/
theorem l6run_start {w0 w : World} {ap : Option Addr} {np cp : Nat} {ai : Option Addr} {ni ci : Nat} {P : List Vl} {I : List Is1} {R : Rq} {a1 : Option Addr} {n1 c1 : Nat} {a2 : Option Addr} {n2 c2 : Nat} (lb S : Nat) (K : List (Option Vs)) (hen : (∀ x ∈ P, valB x = true) → EnvM w0 ap np cp a1 n1 c1 a2 n2 c2 P R) (hI : Iss w0 ai ni ci I)
    (hk : shapB P S I = true ∧ I ≠ [] ∧ K.getD 0 none = some ⟨[], List.replicate (S : Int).toNat 0⟩ ∧ Kst (P.map Vl.kind) (S : Int).toNat I 0 K) (hz : (verR P S I).2 = 0) (hq : reqB R.cl R.us R.s1 R.s2 = true)
    (hl : Row w lb (madeCells #[.int .i64 0, .int .i64 0, .string ⟨#[]⟩, .slice none 0 0] (S * 4)) 90) (h2 : w0.heap.size ≤ lb) (hb : Below w0.heap.size w0 w) :
    Calls Tryz.prog 22 #[.agg #[.slice ap np cp, .int .i64 S, .slice ai ni ci], .agg #[.string R.cl, .string R.us, .int .i64 R.lv, .int .i64 R.nw, .slice a1 n1 c1, .slice a2 n2 c2], .int .i64 0, .slice none 0 0, .slice (some ⟨lb, 0, none⟩) S S, .agg #[.int .i64 0, .int .i64 0, .slice none 0 0, .int .i64 0, .int .i64 0]] w (RnG w.heap.size lb (rnX P S I R) w) := by
  obtain ⟨hsh, hne, hk0, hks⟩ := hk
  rw [Int.toNat_natCast] at hk0 hks
  have hs2 := hsh
  rw [shapB, Bool.and_eq_true, Bool.and_eq_true, decide_eq_true_eq, List.all_eq_true, List.all_eq_true] at hs2
  have hX : rnX P S I R = runR R P I I.length 0 [] (List.replicate S none) 0 0 := by rw [rnX, if_pos ⟨hz, hq⟩, Int.toNat_natCast]
  have hpos := List.length_pos_iff.2 hne
  obtain ⟨ib, io, rfl, _⟩ := hI.cells 0 hpos
  rw [hX]
  exact l6run_any ⟨hen hs2.1.2, hI, hs2.2, ⟨hs2.1.1.1, hs2.1.1.2.1, by have := hs2.1.1.2.2.2; omega⟩, hks⟩ S lb h2 I.length 0 [] (List.replicate S none) 0 0 ⟨[], List.replicate S 0⟩ none 0 [] _ w (by omega) hpos hk0 ⟨rfl, by simp, fun j hj => .inl (by simp)⟩ (Nat.le_refl _) (by omega) (by simp) hb ⟨World.ownsRow_nil _ _ _ _, fun j hj => absurd hj (by simp)⟩ (slo_new hl)

theorem run_make4 (S : Nat) (h : S ≤ 600) (w' : World) : (Instr.makeSlice 57 (.int .i64 (S : Int)) (.int .i64 (S : Int))).run Tryz.prog w' = .ok (.slice (some ⟨w'.heap.size, 0, none⟩) S S) (w'.alloc (.cells (madeCells #[.int .i64 0, .int .i64 0, .string ⟨#[]⟩, .slice none 0 0] (S * 4)) 90)) := by
  obtain ⟨i, hi, hz0, hz1, hz2⟩ := info_parts infoM
  have q := run_makeSlice (P := Tryz.prog) w' 57 90 i _ Tryz.underlying57 hi hz0 .i64 .i64 (S : Int) (S : Int) (by omega) (Int.le_refl _) (by rw [hz1, Int.toNat_natCast]; omega) (by rw [hz2]; omega) (by omega)
  rw [Int.toNat_natCast, hz1] at q
  exact q

set_option maxRecDepth 100000 in
set_option maxHeartbeats 6400000 in
theorem sRun_any (ap : Option Addr) (np cp : Nat) (ai : Option Addr) (ni ci : Nat) (s : Int) (P : List Vl) (I : List Is1) (R : Rq) (a1 : Option Addr) (n1 c1 : Nat) (a2 : Option Addr) (n2 c2 : Nat) (w : World) (hI : Iss w ai ni ci I) (hen : (∀ x ∈ P, valB x = true) → EnvM w ap np cp a1 n1 c1 a2 n2 c2 P R) (hP : Vls w ap np cp P)
    (hq1 : Strs w a1 n1 c1 R.s1) (hq2 : Strs w a2 n2 c2 R.s2) (hcl : R.cl.size ≤ maxLen) (hus : R.us.size ≤ maxLen) :
    Calls Tryz.prog 6 #[.agg #[.slice ap np cp, .int .i64 s, .slice ai ni ci], .agg #[.string R.cl, .string R.us, .int .i64 R.lv, .int .i64 R.nw, .slice a1 n1 c1, .slice a2 n2 c2]] w fun r w' => RnA w.heap.size (rnX P s I R) w r w' ∧ (rnX P s I R).out.2.2.length ≤ 1048576 ∧ ∀ j, j < (rnX P s I R).out.2.2.length → (nth (rnX P s I R).out.2.2 j).size ≤ maxLen := by
  have B2 := (((Below.refl w.heap.size w).alloc (Nat.le_refl _) (.cells #[.slice ap np cp, .int .i64 s, .slice ai ni ci] 39)).alloc (by simp) (.cells #[.string R.cl, .string R.us, .int .i64 R.lv, .int .i64 R.nw, .slice a1 n1 c1, .slice a2 n2 c2] 41)).alloc (by simp; omega) (.cells #[.int .i64 0, .int .i64 0, .slice none 0 0, .int .i64 0, .int .i64 0] 34)
  have RC := ((Row.new w #[.slice ap np cp, .int .i64 s, .slice ai ni ci] 39).alloc (.cells #[.string R.cl, .string R.us, .int .i64 R.lv, .int .i64 R.nw, .slice a1 n1 c1, .slice a2 n2 c2] 41)).alloc (.cells #[.int .i64 0, .int .i64 0, .slice none 0 0, .int .i64 0, .int .i64 0] 34)
  have RR := (Row.new (w.alloc (.cells #[.slice ap np cp, .int .i64 s, .slice ai ni ci] 39)) #[.string R.cl, .string R.us, .int .i64 R.lv, .int .i64 R.nw, .slice a1 n1 c1, .slice a2 n2 c2] 41).alloc (.cells #[.int .i64 0, .int .i64 0, .slice none 0 0, .int .i64 0, .int .i64 0] 34)
  have RO := Row.new ((w.alloc (.cells #[.slice ap np cp, .int .i64 s, .slice ai ni ci] 39)).alloc (.cells #[.string R.cl, .string R.us, .int .i64 R.lv, .int .i64 R.nw, .slice a1 n1 c1, .slice a2 n2 c2] 41)) #[.int .i64 0, .int .i64 0, .slice none 0 0, .int .i64 0, .int .i64 0] 34
  simp only [World.size_alloc] at RR RO
  have HV := hide (sVerify_any ap ai np cp ni ci s P I _ (hP.below B2 (Nat.le_refl _)) (hI.below B2 (Nat.le_refl _)))
  have HQ := hide (And.intro hq1 hq2)
  have HEN := hide hen
  have HI := hide hI
  clear hP hI hen hq1 hq2
  go_enter Tryz.func6, Tryz.ntmps6
  go_wp2_with fail
  refine (unhide HV).mono ?_
  rintro r w1 ⟨rfl, hb1⟩
  have RC1 := RC.after hb1 (Nat.le_refl _)
  have RR1 := RR.after hb1 (Nat.le_refl _)
  have RO1 := RO.after hb1 (Nat.le_refl _)
  have B3 := B2.trans (hb1.mono B2.size)
  obtain ⟨m0, m1, m2⟩ := rowR3 RC1
  obtain ⟨r0, r1, r2, r3, r4, r5⟩ := rowR6 RR1
  clear RC RR RO B2 hb1 HV
  by_cases hz : (verR P s I).2 = 0
  · obtain ⟨hsh, hne, K, hk0, hkst⟩ := verR_sound hz
    have HZ := hide hz
    have ez : ((verR P s I).2 != 0) = false := by simp [hz]
    rw [hz]
    have HK := hide (And.intro hsh (And.intro hne (And.intro hk0 hkst)))
    clear hz hsh hne hk0 hkst ez
    dsimp only
    go_wp2_with fail
    refine (sValidRequest_any R.cl R.us R.lv R.nw a1 n1 c1 R.s1 a2 n2 c2 R.s2 _ hcl hus ((unhide HQ).1.below B3 (Nat.le_refl _)) ((unhide HQ).2.below B3 (Nat.le_refl _))).mono ?_
    rintro r w2 ⟨rfl, hb2⟩
    have RC2 := RC1.after hb2 (Nat.le_refl _)
    have RR2 := RR1.after hb2 (Nat.le_refl _)
    have RO2 := RO1.after hb2 (Nat.le_refl _)
    have B4 := B3.trans (hb2.mono B3.size)
    clear m0 m1 m2 r0 r1 r2 r3 r4 r5 RC1 RR1 RO1 B3 hb2
    obtain ⟨m0, m1, m2⟩ := rowR3 RC2
    obtain ⟨r0, r1, r2, r3, r4, r5⟩ := rowR6 RR2
    generalize hq : reqB R.cl R.us R.s1 R.s2 = q
    have HRQ := hide hq
    clear hq
    cases q with
    | false =>
      have HX := hide (show rnX P s I R = ⟨(4, 0, []), 0, 0⟩ by rw [rnX, if_neg (fun h => by rw [unhide HRQ] at h; cases h.2)])
      clear m0 m1 m2 r0 r1 r2 r3 r4 r5
      obtain ⟨o0, o1, o2, o3, o4⟩ := row5T RO2
      have of := fun j => RO2.frozen j
      obtain ⟨p0, p1, p2, p3, p4⟩ := row5T (set5 RO2 (.int .i64 4) (.int .i64 0) (.slice none 0 0) (.int .i64 0) (.int .i64 0))
      have HBE := hide (((((B4.setCell (p := ⟨w.heap.size + 1 + 1, 0, none⟩) (by simp; omega) (.int .i64 4)).setCell (p := ⟨w.heap.size + 1 + 1, 1, none⟩) (by simp; omega) (.int .i64 0)).setCell (p := ⟨w.heap.size + 1 + 1, 2, none⟩) (by simp; omega) (.slice none 0 0)).setCell (p := ⟨w.heap.size + 1 + 1, 3, none⟩) (by simp; omega) (.int .i64 0)).setCell (p := ⟨w.heap.size + 1 + 1, 4, none⟩) (by simp; omega) (.int .i64 0))
      dsimp only
      go_wp2_with fail
      refine bodyPost_ret (v := .agg #[.int .i64 4, .int .i64 0, .slice none 0 0, .int .i64 0, .int .i64 0]) (by simp [results, Tryz.results6, go_sem, p0, p1, p2, p3, p4]) rfl ?_
      rw [unhide HX]
      exact ⟨⟨⟨none, 0, rfl, World.ownsRow_nil _ _ _ _⟩, unhide HBE⟩, Nat.zero_le _, fun j h => absurd h (Nat.not_lt_zero _)⟩
    | true =>
      have hsb : 0 ≤ s ∧ s ≤ 600 := by
        have h := (unhide HK).1
        rw [shapB, Bool.and_eq_true, Bool.and_eq_true, decide_eq_true_eq] at h
        omega
      obtain ⟨S, rfl⟩ : ∃ S : Nat, s = S := ⟨s.toNat, by omega⟩
      have HS := hide (show S ≤ 600 by omega)
      have HM := run_make4 S (by omega)
      clear hsb
      have BD := ((Below.refl w2.heap.size w2).alloc (Nat.le_refl _) (.cells (madeCells #[.int .i64 0, .int .i64 0, .string ⟨#[]⟩, .slice none 0 0] (S * 4)) 90)).drew
      have h2 := RO2.lt
      have Bw := B4.trans (BD.mono B4.size)
      have RCm := RC2.after BD (Nat.le_refl _)
      have RRm := RR2.after BD (Nat.le_refl _)
      have ROm := RO2.after BD (Nat.le_refl _)
      have RL := (Row.new w2 (madeCells #[.int .i64 0, .int .i64 0, .string ⟨#[]⟩, .slice none 0 0] (S * 4)) 90).after (Below.refl _ _).drew (Nat.le_refl _)
      have HC := hide (l6run_start (w0 := w) (w := (w2.alloc (.cells (madeCells #[.int .i64 0, .int .i64 0, .string ⟨#[]⟩, .slice none 0 0] (S * 4)) 90)).drew) w2.heap.size S K (unhide HEN) (unhide HI) (unhide HK) (unhide HZ) (unhide HRQ) RL (by omega) Bw)
      generalize hX : rnX P S I R = X at HC
      have HX := hide hX
      clear hX
      have hnm : (Tryz.f22.name == "runtime.NumGoroutine") = false := by kernel_rfl
      have hbd : Tryz.f22.body.isNone = false := by kernel_rfl
      have HT := hide ((unhide HC).mono (fun r w' h => show ∃ v, r = .returned v ∧ RnG ((w2.alloc (.cells (madeCells #[.int .i64 0, .int .i64 0, .string ⟨#[]⟩, .slice none 0 0] (S * 4)) 90)).drew).heap.size w2.heap.size X ((w2.alloc (.cells (madeCells #[.int .i64 0, .int .i64 0, .string ⟨#[]⟩, .slice none 0 0] (S * 4)) 90)).drew) (.returned v) w' from by
        have h' := h
        obtain ⟨⟨x, cx, e, _⟩, _⟩ := h'
        subst e
        exact ⟨_, rfl, h⟩))
      clear HC
      have q0 : (fun w' => (w'.cell? ⟨w.heap.size, 0, none⟩ = some (.slice ap np cp) ∧ w'.cell? ⟨w.heap.size, 1, none⟩ = some (.int .i64 S) ∧ w'.cell? ⟨w.heap.size, 2, none⟩ = some (.slice ai ni ci)) ∧ w'.cell? ⟨w.heap.size + 1, 0, none⟩ = some (.string R.cl) ∧ w'.cell? ⟨w.heap.size + 1, 1, none⟩ = some (.string R.us) ∧ w'.cell? ⟨w.heap.size + 1, 2, none⟩ = some (.int .i64 R.lv) ∧ w'.cell? ⟨w.heap.size + 1, 3, none⟩ = some (.int .i64 R.nw) ∧ w'.cell? ⟨w.heap.size + 1, 4, none⟩ = some (.slice a1 n1 c1) ∧ w'.cell? ⟨w.heap.size + 1, 5, none⟩ = some (.slice a2 n2 c2)) w2.drew := ⟨rowR3 (RC2.after (Below.refl w2.heap.size w2).drew (Nat.le_refl _)), rowR6 (RR2.after (Below.refl w2.heap.size w2).drew (Nat.le_refl _))⟩
      have qm : (fun w' => (w'.cell? ⟨w.heap.size, 0, none⟩ = some (.slice ap np cp) ∧ w'.cell? ⟨w.heap.size, 1, none⟩ = some (.int .i64 S) ∧ w'.cell? ⟨w.heap.size, 2, none⟩ = some (.slice ai ni ci)) ∧ w'.cell? ⟨w.heap.size + 1, 0, none⟩ = some (.string R.cl) ∧ w'.cell? ⟨w.heap.size + 1, 1, none⟩ = some (.string R.us) ∧ w'.cell? ⟨w.heap.size + 1, 2, none⟩ = some (.int .i64 R.lv) ∧ w'.cell? ⟨w.heap.size + 1, 3, none⟩ = some (.int .i64 R.nw) ∧ w'.cell? ⟨w.heap.size + 1, 4, none⟩ = some (.slice a1 n1 c1) ∧ w'.cell? ⟨w.heap.size + 1, 5, none⟩ = some (.slice a2 n2 c2)) ((w2.alloc (.cells (madeCells #[.int .i64 0, .int .i64 0, .string ⟨#[]⟩, .slice none 0 0] (S * 4)) 90)).drew) := ⟨rowR3 RCm, rowR6 RRm⟩
      clear RL m0 m1 m2 r0 r1 r2 r3 r4 r5
      dsimp only
      go_wp2_with fail
      go_region_law (first
        | (refine step_callR6 rfl 22 _ Tryz.func22 hnm hbd _ _ _ _ _ _ _ rfl (.agg #[.slice ap np cp, .int .i64 S, .slice ai ni ci]) (.agg #[.string R.cl, .string R.us, .int .i64 R.lv, .int .i64 R.nw, .slice a1 n1 c1, .slice a2 n2 c2]) (.int .i64 0) (.slice none 0 0) (.slice (some ⟨w2.heap.size, 0, none⟩) S S) (.agg #[.int .i64 0, .int .i64 0, .slice none 0 0, .int .i64 0, .int .i64 0]) rfl rfl rfl rfl rfl rfl _ (unhide HT) ?_; rintro v4 w4 ⟨⟨x, cx, e4, OO⟩, k4, hsz⟩; obtain rfl := ret_inj e4; have RO4 := ROm.kpt k4 (by omega); obtain ⟨o0, o1, o2, o3, o4⟩ := row5T RO4; have of := (fun j => RO4.frozen j))
        | fail)
      all_goals
        obtain ⟨p0, p1, p2, p3, p4⟩ := row5T (set5 RO4 (.int .i64 X.out.1) (.int .i64 X.out.2.1) (.slice x X.out.2.2.length cx) (.int .i64 X.steps) (.int .i64 X.peak))
        have B5 := below_kptM Bw k4 (by omega)
        have HBE := hide (((((B5.setCell (p := ⟨w.heap.size + 1 + 1, 0, none⟩) (by simp; omega) (.int .i64 X.out.1)).setCell (p := ⟨w.heap.size + 1 + 1, 1, none⟩) (by simp; omega) (.int .i64 X.out.2.1)).setCell (p := ⟨w.heap.size + 1 + 1, 2, none⟩) (by simp; omega) (.slice x X.out.2.2.length cx)).setCell (p := ⟨w.heap.size + 1 + 1, 3, none⟩) (by simp; omega) (.int .i64 X.steps)).setCell (p := ⟨w.heap.size + 1 + 1, 4, none⟩) (by simp; omega) (.int .i64 X.peak))
        have hfar : ∀ q, (Value.slice x X.out.2.2.length cx).ownBlock = some q → q ≠ w.heap.size + 1 + 1 := fun q hq h => own_ne_row RO4 OO (by decide) (by rw [hq, h])
        have HOE := hide (own5 (own_lowM OO Bw.size) hfar (.int .i64 X.out.1) (.int .i64 X.out.2.1) (.slice x X.out.2.2.length cx) (.int .i64 X.steps) (.int .i64 X.peak))
        have HSZ := hide hsz
        clear RO4 B5 Bw BD hfar OO hsz k4 HT q0 qm RCm RRm ROm RO2 RC2 RR2 B4 HM o0 o1 o2 o3 o4 of
        go_wp2_with fail
        refine bodyPost_ret (v := .agg #[.int .i64 X.out.1, .int .i64 X.out.2.1, .slice x X.out.2.2.length cx, .int .i64 X.steps, .int .i64 X.peak]) (by simp [results, Tryz.results6, go_sem, p0, p1, p2, p3, p4]) rfl ?_
        rw [unhide HX]
        exact ⟨⟨⟨x, cx, rfl, unhide HOE⟩, unhide HBE⟩, unhide HSZ⟩
  · have HX := hide (show rnX P s I R = ⟨(4, 0, []), 0, 0⟩ by rw [rnX, if_neg (fun h => hz h.1)])
    have ez : ((verR P s I).2 != 0) = true := bne_iff_ne.2 hz
    clear m0 m1 m2 r0 r1 r2 r3 r4 r5 hz
    obtain ⟨o0, o1, o2, o3, o4⟩ := row5T RO1
    have of := fun j => RO1.frozen j
    obtain ⟨p0, p1, p2, p3, p4⟩ := row5T (set5 RO1 (.int .i64 4) (.int .i64 0) (.slice none 0 0) (.int .i64 0) (.int .i64 0))
    have HBE := hide (((((B3.setCell (p := ⟨w.heap.size + 1 + 1, 0, none⟩) (by simp; omega) (.int .i64 4)).setCell (p := ⟨w.heap.size + 1 + 1, 1, none⟩) (by simp; omega) (.int .i64 0)).setCell (p := ⟨w.heap.size + 1 + 1, 2, none⟩) (by simp; omega) (.slice none 0 0)).setCell (p := ⟨w.heap.size + 1 + 1, 3, none⟩) (by simp; omega) (.int .i64 0)).setCell (p := ⟨w.heap.size + 1 + 1, 4, none⟩) (by simp; omega) (.int .i64 0))
    dsimp only
    go_wp2_with fail
    refine bodyPost_ret (v := .agg #[.int .i64 4, .int .i64 0, .slice none 0 0, .int .i64 0, .int .i64 0]) (by simp [results, Tryz.results6, go_sem, p0, p1, p2, p3, p4]) rfl ?_
    rw [unhide HX]
    exact ⟨⟨⟨none, 0, rfl, World.ownsRow_nil _ _ _ _⟩, unhide HBE⟩, Nat.zero_le _, fun j h => absurd h (Nat.not_lt_zero _)⟩

end Go.Proofs.YtogenboibgddaaaGreatDoor

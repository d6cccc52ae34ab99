/-
  The program's Run. Own work.
-/
import Derived.Test.YtogenboibgddaaaGreatDoorRVN
import Derived.Test.YtogenboibgddaaaGreatDoorYN
import Derived.Test.YtogenboibgddaaaGreatDoorMXAK
namespace Go.Proofs.YtogenboibgddaaaGreatDoor
open Go.RowKit
set_option linter.unusedVariables false

variable {aS aO aZ aW : Addr}

/-- what a run gives -/
noncomputable def rnX (P : List Vl) (s : Int) (I : List Is1) (R : Rq) : Rn := if (verR P s I).2 = 0 ∧ reqB R.cl R.us R.s1 R.s2 = true then runR R P I I.length 0 [] (List.replicate s.toNat none) 0 0 else ⟨(4, 0, []), 0, 0⟩

/-- a trace of the call's own -/
def RnA (B : Nat) (X : Rn) (w : World) (r : Ending) (w' : World) : Prop := (∃ x cx, r = .returned (.agg #[.int .i64 X.out.1, .int .i64 X.out.2.1, .slice x X.out.2.2.length cx, .int .i64 X.steps, .int .i64 X.peak]) ∧ w'.ownsRow B 9 1 (.slice x X.out.2.2.length cx) X.out.2.2.length (X.out.2.2.map Value.string)) ∧ Below B w w'

theorem rowR3 {w : World} {b : Nat} {v0 v1 v2 : Value} {t : TypeId} (R : Row w b #[v0, v1, v2] t) : w.cell? ⟨b, 0, none⟩ = some v0 ∧ w.cell? ⟨b, 1, none⟩ = some v1 ∧ w.cell? ⟨b, 2, none⟩ = some v2 := ⟨R.cell 0, R.cell 1, R.cell 2⟩

theorem rowR6 {w : World} {b : Nat} {v0 v1 v2 v3 v4 v5 : Value} {t : TypeId} (R : Row w b #[v0, v1, v2, v3, v4, v5] t) : w.cell? ⟨b, 0, none⟩ = some v0 ∧ w.cell? ⟨b, 1, none⟩ = some v1 ∧ w.cell? ⟨b, 2, none⟩ = some v2 ∧ w.cell? ⟨b, 3, none⟩ = some v3 ∧ w.cell? ⟨b, 4, none⟩ = some v4 ∧ w.cell? ⟨b, 5, none⟩ = some v5 := ⟨R.cell 0, R.cell 1, R.cell 2, R.cell 3, R.cell 4, R.cell 5⟩

theorem own_lowR {w : World} {base base' : Nat} {e : TypeId} {size : Nat} {v : Value} {n : Nat} {xs : List Value} (h : w.ownsRow base e size v n xs) (hb : base' ≤ base) : w.ownsRow base' e size v n xs := by
  refine ⟨h.1, ?_⟩
  rcases h.2 with h2 | ⟨g, cap, cur, hv, h3, h4⟩
  · exact .inl h2
  · exact .inr ⟨g, cap, cur, hv, Nat.le_trans hb h3, h4⟩

/-- a new machine -/
theorem mcO_new {B mb lb : Nat} {pv iv q1 q2 : Value} {s : Int} {R : Rq} {S : Nat} {w : World} (hm : Row w mb (mcV pv s iv R q1 q2 (.slice none 0 0) (.slice (some ⟨lb, 0, none⟩) S S) 0 0 0 (.slice none 0 0)) 63) (hl : Row w lb (madeCells #[.nilIface] S) 138) (h1 : B ≤ mb) (h2 : B ≤ lb) :
    McO B mb lb pv iv q1 q2 s R S ((0 : Nat) : Int) [] (List.replicate S none) none 0 [] (List.replicate S .nilIface) w :=
  ⟨hm, World.ownsRow_nil _ _ _ _, by rw [← made_list]; exact hl, by simp, fun j hj => absurd hj (by simp), fun j hj => ⟨.nilIface, by simp [hj], fun v hv => by simp [hj] at hv⟩, ⟨h1, h2⟩, by simp [Value.ownBlock]⟩

/-- it runs -/
theorem run_start {ap : Option Addr} {np cp : Nat} {ai : Option Addr} {ni ci : Nat} {P : List Vl} {I : List Is1} {R : Rq} {a1 : Option Addr} {n1 c1 : Nat} {a2 : Option Addr} {n2 c2 : Nat} (w0 w : World) (mb lb S : Nat) (K : List (Option Vs)) (hen : (∀ x ∈ P, valB x = true) → EnvR w0 ap np cp a1 n1 c1 a2 n2 c2 P R aS aO aZ aW) (hI : Iss w0 ai ni ci I)
    (hk : shapB P S I = true ∧ I ≠ [] ∧ K.getD 0 none = some ⟨[], List.replicate (S : Int).toNat 0⟩ ∧ Kst (P.map Vl.kind) (S : Int).toNat I 0 K) (hz : (verR P S I).2 = 0) (hq : reqB R.cl R.us R.s1 R.s2 = true)
    (hm : Row w mb #[.slice ap np cp, .int .i64 S, .slice ai ni ci, .string R.cl, .string R.us, .int .i64 R.lv, .int .i64 R.nw, .slice a1 n1 c1, .slice a2 n2 c2, .slice none 0 0, .slice (some ⟨lb, 0, none⟩) S S, .int .i64 0, .int .i64 0, .int .i64 0, .slice none 0 0] 63) (hl : Row w lb (madeCells #[.nilIface] S) 138) (h1 : w0.heap.size ≤ mb) (h2 : w0.heap.size ≤ lb) (hb : Below w0.heap.size w0 w) :
    Calls Tryz.prog 28 #[.pointer (some ⟨mb, 0, none⟩)] w fun r w' => ∃ x cx, r = .returned (.agg #[.int .i64 (rnX P S I R).out.1, .int .i64 (rnX P S I R).out.2.1, .slice x (rnX P S I R).out.2.2.length cx, .int .i64 (rnX P S I R).steps, .int .i64 (rnX P S I R).peak]) ∧ w'.ownsRow w.heap.size 9 1 (.slice x (rnX P S I R).out.2.2.length cx) (rnX P S I R).out.2.2.length ((rnX P S I R).out.2.2.map Value.string) ∧ Kpt (fun k => k = mb ∨ k = lb) w w' := by
  obtain ⟨hsh, hne, hk0, hks⟩ := hk
  rw [Int.toNat_natCast] at hk0 hks
  have hs2 := hsh
  rw [shapB, Bool.and_eq_true, Bool.and_eq_true, decide_eq_true_eq, List.all_eq_true, List.all_eq_true] at hs2
  have hX : rnX P S I R = runR R P I I.length 0 [] (List.replicate S none) 0 0 := by rw [rnX, if_pos ⟨hz, hq⟩, Int.toNat_natCast]
  have M := mcO_new (B := w0.heap.size) (pv := .slice ap np cp) (iv := .slice ai ni ci) (q1 := .slice a1 n1 c1) (q2 := .slice a2 n2 c2) (s := (S : Int)) (R := R) hm hl h1 h2
  refine (run_any w0 w0.heap.size mb lb ap np cp ai ni ci a1 n1 c1 a2 n2 c2 P I S R S K w _ ⟨hen hs2.1.2, hI, hs2.2, Nat.le_refl _, hs2.1.1.2.1, hks⟩ (List.length_pos_iff.2 hne) hk0 M hb).mono ?_
  rintro r w' ⟨o, n, pk, x, cx, ho, rfl, hO, hK⟩
  rw [hX, ho]
  exact ⟨x, cx, rfl, hO, hK⟩

set_option maxRecDepth 100000 in
set_option maxHeartbeats 6400000 in
theorem iRun_any (ap : Option Addr) (np cp : Nat) (ai : Option Addr) (ni ci : Nat) (s : Int) (P : List Vl) (I : List Is1) (R : Rq) (a1 : Option Addr) (n1 c1 : Nat) (a2 : Option Addr) (n2 c2 : Nat) (aT : Addr) (w : World) (hP : Vls w ap np cp P) (hI : Iss w ai ni ci I) (hv : Vok w aT) (hs : Sent w aS aO aZ aW) (htab : 7 < w.heap.size ∧ ∀ k, w.cell? ⟨7, k, none⟩ = binV[k]?)
    (hq1 : Strs w a1 n1 c1 R.s1) (hq2 : Strs w a2 n2 c2 R.s2) (hl1 : R.s1.length ≤ 1048576) (hl2 : R.s2.length ≤ 1048576) (hcl : R.cl.size ≤ maxLen) (hus : R.us.size ≤ maxLen) (hlv : I64 R.lv) (hnw : I64 R.nw) (hsm : ∀ x ∈ P, x.names.length ≤ 1048576 ∧ I64 x.num) :
    Calls Tryz.prog 9 #[.agg #[.slice ap np cp, .int .i64 s, .slice ai ni ci], .agg #[.string R.cl, .string R.us, .int .i64 R.lv, .int .i64 R.nw, .slice a1 n1 c1, .slice a2 n2 c2]] w (RnA w.heap.size (rnX P s I R) w) := by
  have B2 := (((Below.refl w.heap.size w).alloc (Nat.le_refl _) (.cells #[.slice ap np cp, .int .i64 s, .slice ai ni ci] 39)).alloc (by simp) (.cells #[.string R.cl, .string R.us, .int .i64 R.lv, .int .i64 R.nw, .slice a1 n1 c1, .slice a2 n2 c2] 41)).alloc (by simp; omega) (.cells #[.int .i64 0, .int .i64 0, .slice none 0 0, .int .i64 0, .int .i64 0] 34)
  have RC := ((Row.new w #[.slice ap np cp, .int .i64 s, .slice ai ni ci] 39).alloc (.cells #[.string R.cl, .string R.us, .int .i64 R.lv, .int .i64 R.nw, .slice a1 n1 c1, .slice a2 n2 c2] 41)).alloc (.cells #[.int .i64 0, .int .i64 0, .slice none 0 0, .int .i64 0, .int .i64 0] 34)
  have RR := (Row.new (w.alloc (.cells #[.slice ap np cp, .int .i64 s, .slice ai ni ci] 39)) #[.string R.cl, .string R.us, .int .i64 R.lv, .int .i64 R.nw, .slice a1 n1 c1, .slice a2 n2 c2] 41).alloc (.cells #[.int .i64 0, .int .i64 0, .slice none 0 0, .int .i64 0, .int .i64 0] 34)
  have RO := Row.new ((w.alloc (.cells #[.slice ap np cp, .int .i64 s, .slice ai ni ci] 39)).alloc (.cells #[.string R.cl, .string R.us, .int .i64 R.lv, .int .i64 R.nw, .slice a1 n1 c1, .slice a2 n2 c2] 41)) #[.int .i64 0, .int .i64 0, .slice none 0 0, .int .i64 0, .int .i64 0] 34
  simp only [World.size_alloc] at RR RO
  have HV := hide (iVerify_any ap ai np cp ni ci s P I aT _ (hP.below B2 (Nat.le_refl _)) (hI.below B2 (Nat.le_refl _)) (hv.below B2 (Nat.le_refl _)))
  have HQ := hide (And.intro hq1 hq2)
  have HEN := hide (show (∀ x ∈ P, valB x = true) → EnvR w ap np cp a1 n1 c1 a2 n2 c2 P R aS aO aZ aW from fun h => ⟨hP, fun x hx => ⟨h x hx, hsm x hx⟩, hq1, hq2, ⟨hlv, hnw, hl1, hl2⟩, hs, htab⟩)
  have HI := hide hI
  clear hP hI hv hs htab hq1 hq2 hsm
  go_enter Tryz.func9, Tryz.ntmps9
  go_wp2_with fail
  refine (unhide HV).mono ?_
  rintro r w1 ⟨rfl, hb1⟩
  have RC1 := RC.after hb1 (Nat.le_refl _)
  have RR1 := RR.after hb1 (Nat.le_refl _)
  have RO1 := RO.after hb1 (Nat.le_refl _)
  have B3 := B2.trans (hb1.mono B2.size)
  obtain ⟨m0, m1, m2⟩ := rowR3 RC1
  obtain ⟨r0, r1, r2, r3, r4, r5⟩ := rowR6 RR1
  clear RC RR RO B2 hb1 HV
  by_cases hz : (verR P s I).2 = 0
  · obtain ⟨hsh, hne, K, hk0, hkst⟩ := verR_sound hz
    have HZ := hide hz
    have ez : ((verR P s I).2 != 0) = false := by simp [hz]
    rw [hz]
    have HK := hide (And.intro hsh (And.intro hne (And.intro hk0 hkst)))
    clear hz hsh hne hk0 hkst ez
    dsimp only
    go_wp2_with fail
    refine (iValidRequest_any R.cl R.us R.lv R.nw a1 n1 c1 R.s1 a2 n2 c2 R.s2 _ hcl hus ((unhide HQ).1.below B3 (Nat.le_refl _)) ((unhide HQ).2.below B3 (Nat.le_refl _))).mono ?_
    rintro r w2 ⟨rfl, hb2⟩
    have RC2 := RC1.after hb2 (Nat.le_refl _)
    have RR2 := RR1.after hb2 (Nat.le_refl _)
    have RO2 := RO1.after hb2 (Nat.le_refl _)
    have B4 := B3.trans (hb2.mono B3.size)
    clear m0 m1 m2 r0 r1 r2 r3 r4 r5 RC1 RR1 RO1 B3 hb2
    obtain ⟨m0, m1, m2⟩ := rowR3 RC2
    obtain ⟨r0, r1, r2, r3, r4, r5⟩ := rowR6 RR2
    generalize hq : reqB R.cl R.us R.s1 R.s2 = q
    have HRQ := hide hq
    clear hq
    cases q with
    | false =>
      have HX := hide (show rnX P s I R = ⟨(4, 0, []), 0, 0⟩ by rw [rnX, if_neg (fun h => by rw [unhide HRQ] at h; cases h.2)])
      clear m0 m1 m2 r0 r1 r2 r3 r4 r5
      obtain ⟨o0, o1, o2, o3, o4⟩ := row5T RO2
      have Q1 := RO2.set 0 (.int .i64 4)
      have Q2 := Q1.set 1 (.int .i64 0)
      have Q3 := Q2.set 2 (.slice none 0 0)
      have Q4 := Q3.set 3 (.int .i64 0)
      have Q5 := Q4.set 4 (.int .i64 0)
      have f0 := fun j => RO2.frozen j
      have f1 := fun j => Q1.frozen j
      have f2 := fun j => Q2.frozen j
      have f3 := fun j => Q3.frozen j
      have f4 := fun j => Q4.frozen j
      obtain ⟨p0, p1, p2, p3, p4⟩ := row5T Q5
      have HBE := hide (((((B4.setCell (p := ⟨w.heap.size + 1 + 1, 0, none⟩) (by simp; omega) (.int .i64 4)).setCell (p := ⟨w.heap.size + 1 + 1, 1, none⟩) (by simp; omega) (.int .i64 0)).setCell (p := ⟨w.heap.size + 1 + 1, 2, none⟩) (by simp; omega) (.slice none 0 0)).setCell (p := ⟨w.heap.size + 1 + 1, 3, none⟩) (by simp; omega) (.int .i64 0)).setCell (p := ⟨w.heap.size + 1 + 1, 4, none⟩) (by simp; omega) (.int .i64 0))
      clear Q1 Q2 Q3 Q4 Q5
      dsimp only
      go_wp2_with fail
      refine bodyPost_ret (v := .agg #[.int .i64 4, .int .i64 0, .slice none 0 0, .int .i64 0, .int .i64 0]) (by simp [results, Tryz.results9, go_sem, p0, p1, p2, p3, p4]) rfl ?_
      rw [unhide HX]
      exact ⟨⟨none, 0, rfl, World.ownsRow_nil _ _ _ _⟩, unhide HBE⟩
    | true =>
      have hsb : 0 ≤ s ∧ s ≤ 600 := by
        have h := (unhide HK).1
        rw [shapB, Bool.and_eq_true, Bool.and_eq_true, decide_eq_true_eq] at h
        omega
      obtain ⟨S, rfl⟩ : ∃ S : Nat, s = S := ⟨s.toNat, by omega⟩
      have HS := hide (show S ≤ 600 by omega)
      clear hsb
      have HM : ∀ w', (Instr.makeSlice 61 (.int .i64 (S : Int)) (.int .i64 (S : Int))).run Tryz.prog w' = .ok (.slice (some ⟨w'.heap.size, 0, none⟩) S S) (w'.alloc (.cells (madeCells #[.nilIface] S) 138)) := fun w' => run_make_row' 61 138 .nilIface 16 Tryz.underlying61 infoVal rfl .i64 .i64 S (by have := unhide HS; omega) (by have := unhide HS; omega) w'
      dsimp only
      go_wp2_with fail
      go_region_held3 (fun w' => w'.cell? ⟨w.heap.size, 0, none⟩ = some (.slice ap np cp) ∧ w'.cell? ⟨w.heap.size, 1, none⟩ = some (.int .i64 S) ∧ w'.cell? ⟨w.heap.size, 2, none⟩ = some (.slice ai ni ci) ∧ w'.cell? ⟨w.heap.size + 1, 0, none⟩ = some (.string R.cl) ∧ w'.cell? ⟨w.heap.size + 1, 1, none⟩ = some (.string R.us) ∧ w'.cell? ⟨w.heap.size + 1, 2, none⟩ = some (.int .i64 R.lv) ∧ w'.cell? ⟨w.heap.size + 1, 3, none⟩ = some (.int .i64 R.nw) ∧ w'.cell? ⟨w.heap.size + 1, 4, none⟩ = some (.slice a1 n1 c1) ∧ w'.cell? ⟨w.heap.size + 1, 5, none⟩ = some (.slice a2 n2 c2)) (first | assumption | go_keep) (fail)
      · rename_i hHeld
        clear hHeld m0 m1 m2 r0 r1 r2 r3 r4 r5 HM
        have RL := (Row.new w2 (madeCells #[.nilIface] S) 138).alloc (.cells #[.slice ap np cp, .int .i64 S, .slice ai ni ci, .string R.cl, .string R.us, .int .i64 R.lv, .int .i64 R.nw, .slice a1 n1 c1, .slice a2 n2 c2, .slice none 0 0, .slice (some ⟨w2.heap.size, 0, none⟩) S S, .int .i64 0, .int .i64 0, .int .i64 0, .slice none 0 0] 63)
        have RM := Row.new (w2.alloc (.cells (madeCells #[.nilIface] S) 138)) #[.slice ap np cp, .int .i64 S, .slice ai ni ci, .string R.cl, .string R.us, .int .i64 R.lv, .int .i64 R.nw, .slice a1 n1 c1, .slice a2 n2 c2, .slice none 0 0, .slice (some ⟨w2.heap.size, 0, none⟩) S S, .int .i64 0, .int .i64 0, .int .i64 0, .slice none 0 0] 63
        rw [World.size_alloc] at RM
        have BD := (((Below.refl w2.heap.size w2).alloc (Nat.le_refl _) (.cells (madeCells #[.nilIface] S) 138)).alloc (by simp) (.cells #[.slice ap np cp, .int .i64 S, .slice ai ni ci, .string R.cl, .string R.us, .int .i64 R.lv, .int .i64 R.nw, .slice a1 n1 c1, .slice a2 n2 c2, .slice none 0 0, .slice (some ⟨w2.heap.size, 0, none⟩) S S, .int .i64 0, .int .i64 0, .int .i64 0, .slice none 0 0] 63)).drew
        have h2 := RO2.lt
        have Bw := B4.trans (BD.mono B4.size)
        have RO3 := RO2.after BD (Nat.le_refl _)
        have HC := hide (run_start w (((w2.alloc (.cells (madeCells #[.nilIface] S) 138)).alloc (.cells #[.slice ap np cp, .int .i64 S, .slice ai ni ci, .string R.cl, .string R.us, .int .i64 R.lv, .int .i64 R.nw, .slice a1 n1 c1, .slice a2 n2 c2, .slice none 0 0, .slice (some ⟨w2.heap.size, 0, none⟩) S S, .int .i64 0, .int .i64 0, .int .i64 0, .slice none 0 0] 63)).drew) (w2.heap.size + 1) (w2.heap.size) S K (unhide HEN) (unhide HI) (unhide HK) (unhide HZ) (unhide HRQ) ⟨RM.out⟩ ⟨RL.out⟩ (by omega) (by omega) Bw)
        clear RL RM
        go_wp2_with fail
        refine (unhide HC).mono ?_
        rintro r w4 ⟨x, cx, rfl, hO, hK⟩
        clear HC
        generalize hX : rnX P S I R = X at hO ⊢
        have HX := hide hX
        clear hX
        have RO4 : Row w4 (w.heap.size + 1 + 1) #[.int .i64 0, .int .i64 0, .slice none 0 0, .int .i64 0, .int .i64 0] 34 := ⟨(hK.block _ RO3.lt (by omega)).trans RO3.out⟩
        have B5 : Below w.heap.size w w4 := below_kpt Bw hK (fun b hb e => by omega)
        have hlo : w.heap.size ≤ (((w2.alloc (.cells (madeCells #[.nilIface] S) 138)).alloc (.cells #[.slice ap np cp, .int .i64 S, .slice ai ni ci, .string R.cl, .string R.us, .int .i64 R.lv, .int .i64 R.nw, .slice a1 n1 c1, .slice a2 n2 c2, .slice none 0 0, .slice (some ⟨w2.heap.size, 0, none⟩) S S, .int .i64 0, .int .i64 0, .int .i64 0, .slice none 0 0] 63)).drew).heap.size := Bw.size
        have hfar : ∀ q, (Value.slice x X.out.2.2.length cx).ownBlock = some q → q ≠ w.heap.size + 1 + 1 := fun q hq e => by
          have := (hO.lt q hq).1
          have := RO3.lt
          omega
        have HOE := hide (own_set3 (own_set3 (own_set3 (own_set3 (own_set3 (own_lowR hO hlo) ⟨w.heap.size + 1 + 1, 0, none⟩ (.int .i64 X.out.1) hfar) ⟨w.heap.size + 1 + 1, 1, none⟩ (.int .i64 X.out.2.1) hfar) ⟨w.heap.size + 1 + 1, 2, none⟩ (.slice x X.out.2.2.length cx) hfar) ⟨w.heap.size + 1 + 1, 3, none⟩ (.int .i64 X.steps) hfar) ⟨w.heap.size + 1 + 1, 4, none⟩ (.int .i64 X.peak) hfar)
        have HBE := hide (((((B5.setCell (p := ⟨w.heap.size + 1 + 1, 0, none⟩) (by simp; omega) (.int .i64 X.out.1)).setCell (p := ⟨w.heap.size + 1 + 1, 1, none⟩) (by simp; omega) (.int .i64 X.out.2.1)).setCell (p := ⟨w.heap.size + 1 + 1, 2, none⟩) (by simp; omega) (.slice x X.out.2.2.length cx)).setCell (p := ⟨w.heap.size + 1 + 1, 3, none⟩) (by simp; omega) (.int .i64 X.steps)).setCell (p := ⟨w.heap.size + 1 + 1, 4, none⟩) (by simp; omega) (.int .i64 X.peak))
        clear hO hK RO3 RO2 BD Bw hlo hfar B4 B5
        obtain ⟨o0, o1, o2, o3, o4⟩ := row5T RO4
        have Q1 := RO4.set 0 (.int .i64 X.out.1)
        have Q2 := Q1.set 1 (.int .i64 X.out.2.1)
        have Q3 := Q2.set 2 (.slice x X.out.2.2.length cx)
        have Q4 := Q3.set 3 (.int .i64 X.steps)
        have Q5 := Q4.set 4 (.int .i64 X.peak)
        have f0 := fun j => RO4.frozen j
        have f1 := fun j => Q1.frozen j
        have f2 := fun j => Q2.frozen j
        have f3 := fun j => Q3.frozen j
        have f4 := fun j => Q4.frozen j
        obtain ⟨p0, p1, p2, p3, p4⟩ := row5T Q5
        clear Q1 Q2 Q3 Q4 Q5
        dsimp only
        go_wp2_with fail
        refine bodyPost_ret (v := .agg #[.int .i64 X.out.1, .int .i64 X.out.2.1, .slice x X.out.2.2.length cx, .int .i64 X.steps, .int .i64 X.peak]) (by simp [results, Tryz.results9, go_sem, p0, p1, p2, p3, p4]) rfl ?_
        rw [unhide HX]
        exact ⟨⟨x, cx, rfl, unhide HOE⟩, unhide HBE⟩
      · rename_i hHeld
        clear hHeld m0 m1 m2 r0 r1 r2 r3 r4 r5 HM
        have RL := Row.new (w2.alloc (.cells #[.slice ap np cp, .int .i64 S, .slice ai ni ci, .string R.cl, .string R.us, .int .i64 R.lv, .int .i64 R.nw, .slice a1 n1 c1, .slice a2 n2 c2, .slice none 0 0, .slice (some ⟨w2.heap.size + 1, 0, none⟩) S S, .int .i64 0, .int .i64 0, .int .i64 0, .slice none 0 0] 63)) (madeCells #[.nilIface] S) 138
        have RM := (Row.new w2 #[.slice ap np cp, .int .i64 S, .slice ai ni ci, .string R.cl, .string R.us, .int .i64 R.lv, .int .i64 R.nw, .slice a1 n1 c1, .slice a2 n2 c2, .slice none 0 0, .slice (some ⟨w2.heap.size + 1, 0, none⟩) S S, .int .i64 0, .int .i64 0, .int .i64 0, .slice none 0 0] 63).alloc (.cells (madeCells #[.nilIface] S) 138)
        rw [World.size_alloc] at RL
        have BD := (((Below.refl w2.heap.size w2).alloc (Nat.le_refl _) (.cells #[.slice ap np cp, .int .i64 S, .slice ai ni ci, .string R.cl, .string R.us, .int .i64 R.lv, .int .i64 R.nw, .slice a1 n1 c1, .slice a2 n2 c2, .slice none 0 0, .slice (some ⟨w2.heap.size + 1, 0, none⟩) S S, .int .i64 0, .int .i64 0, .int .i64 0, .slice none 0 0] 63)).alloc (by simp) (.cells (madeCells #[.nilIface] S) 138)).drew
        have h2 := RO2.lt
        have Bw := B4.trans (BD.mono B4.size)
        have RO3 := RO2.after BD (Nat.le_refl _)
        have HC := hide (run_start w (((w2.alloc (.cells #[.slice ap np cp, .int .i64 S, .slice ai ni ci, .string R.cl, .string R.us, .int .i64 R.lv, .int .i64 R.nw, .slice a1 n1 c1, .slice a2 n2 c2, .slice none 0 0, .slice (some ⟨w2.heap.size + 1, 0, none⟩) S S, .int .i64 0, .int .i64 0, .int .i64 0, .slice none 0 0] 63)).alloc (.cells (madeCells #[.nilIface] S) 138)).drew) (w2.heap.size) (w2.heap.size + 1) S K (unhide HEN) (unhide HI) (unhide HK) (unhide HZ) (unhide HRQ) ⟨RM.out⟩ ⟨RL.out⟩ (by omega) (by omega) Bw)
        clear RL RM
        go_wp2_with fail
        refine (unhide HC).mono ?_
        rintro r w4 ⟨x, cx, rfl, hO, hK⟩
        clear HC
        generalize hX : rnX P S I R = X at hO ⊢
        have HX := hide hX
        clear hX
        have RO4 : Row w4 (w.heap.size + 1 + 1) #[.int .i64 0, .int .i64 0, .slice none 0 0, .int .i64 0, .int .i64 0] 34 := ⟨(hK.block _ RO3.lt (by omega)).trans RO3.out⟩
        have B5 : Below w.heap.size w w4 := below_kpt Bw hK (fun b hb e => by omega)
        have hlo : w.heap.size ≤ (((w2.alloc (.cells #[.slice ap np cp, .int .i64 S, .slice ai ni ci, .string R.cl, .string R.us, .int .i64 R.lv, .int .i64 R.nw, .slice a1 n1 c1, .slice a2 n2 c2, .slice none 0 0, .slice (some ⟨w2.heap.size + 1, 0, none⟩) S S, .int .i64 0, .int .i64 0, .int .i64 0, .slice none 0 0] 63)).alloc (.cells (madeCells #[.nilIface] S) 138)).drew).heap.size := Bw.size
        have hfar : ∀ q, (Value.slice x X.out.2.2.length cx).ownBlock = some q → q ≠ w.heap.size + 1 + 1 := fun q hq e => by
          have := (hO.lt q hq).1
          have := RO3.lt
          omega
        have HOE := hide (own_set3 (own_set3 (own_set3 (own_set3 (own_set3 (own_lowR hO hlo) ⟨w.heap.size + 1 + 1, 0, none⟩ (.int .i64 X.out.1) hfar) ⟨w.heap.size + 1 + 1, 1, none⟩ (.int .i64 X.out.2.1) hfar) ⟨w.heap.size + 1 + 1, 2, none⟩ (.slice x X.out.2.2.length cx) hfar) ⟨w.heap.size + 1 + 1, 3, none⟩ (.int .i64 X.steps) hfar) ⟨w.heap.size + 1 + 1, 4, none⟩ (.int .i64 X.peak) hfar)
        have HBE := hide (((((B5.setCell (p := ⟨w.heap.size + 1 + 1, 0, none⟩) (by simp; omega) (.int .i64 X.out.1)).setCell (p := ⟨w.heap.size + 1 + 1, 1, none⟩) (by simp; omega) (.int .i64 X.out.2.1)).setCell (p := ⟨w.heap.size + 1 + 1, 2, none⟩) (by simp; omega) (.slice x X.out.2.2.length cx)).setCell (p := ⟨w.heap.size + 1 + 1, 3, none⟩) (by simp; omega) (.int .i64 X.steps)).setCell (p := ⟨w.heap.size + 1 + 1, 4, none⟩) (by simp; omega) (.int .i64 X.peak))
        clear hO hK RO3 RO2 BD Bw hlo hfar B4 B5
        obtain ⟨o0, o1, o2, o3, o4⟩ := row5T RO4
        have Q1 := RO4.set 0 (.int .i64 X.out.1)
        have Q2 := Q1.set 1 (.int .i64 X.out.2.1)
        have Q3 := Q2.set 2 (.slice x X.out.2.2.length cx)
        have Q4 := Q3.set 3 (.int .i64 X.steps)
        have Q5 := Q4.set 4 (.int .i64 X.peak)
        have f0 := fun j => RO4.frozen j
        have f1 := fun j => Q1.frozen j
        have f2 := fun j => Q2.frozen j
        have f3 := fun j => Q3.frozen j
        have f4 := fun j => Q4.frozen j
        obtain ⟨p0, p1, p2, p3, p4⟩ := row5T Q5
        clear Q1 Q2 Q3 Q4 Q5
        dsimp only
        go_wp2_with fail
        refine bodyPost_ret (v := .agg #[.int .i64 X.out.1, .int .i64 X.out.2.1, .slice x X.out.2.2.length cx, .int .i64 X.steps, .int .i64 X.peak]) (by simp [results, Tryz.results9, go_sem, p0, p1, p2, p3, p4]) rfl ?_
        rw [unhide HX]
        exact ⟨⟨x, cx, rfl, unhide HOE⟩, unhide HBE⟩
  · have HX := hide (show rnX P s I R = ⟨(4, 0, []), 0, 0⟩ by rw [rnX, if_neg (fun h => hz h.1)])
    have ez : ((verR P s I).2 != 0) = true := by simp [hz]
    clear hz m0 m1 m2 r0 r1 r2 r3 r4 r5
    generalize (verR P s I).2 = vc at *
    obtain ⟨o0, o1, o2, o3, o4⟩ := row5T RO1
    have Q1 := RO1.set 0 (.int .i64 4)
    have Q2 := Q1.set 1 (.int .i64 0)
    have Q3 := Q2.set 2 (.slice none 0 0)
    have Q4 := Q3.set 3 (.int .i64 0)
    have Q5 := Q4.set 4 (.int .i64 0)
    have f0 := fun j => RO1.frozen j
    have f1 := fun j => Q1.frozen j
    have f2 := fun j => Q2.frozen j
    have f3 := fun j => Q3.frozen j
    have f4 := fun j => Q4.frozen j
    obtain ⟨p0, p1, p2, p3, p4⟩ := row5T Q5
    have HBE := hide (((((B3.setCell (p := ⟨w.heap.size + 1 + 1, 0, none⟩) (by simp; omega) (.int .i64 4)).setCell (p := ⟨w.heap.size + 1 + 1, 1, none⟩) (by simp; omega) (.int .i64 0)).setCell (p := ⟨w.heap.size + 1 + 1, 2, none⟩) (by simp; omega) (.slice none 0 0)).setCell (p := ⟨w.heap.size + 1 + 1, 3, none⟩) (by simp; omega) (.int .i64 0)).setCell (p := ⟨w.heap.size + 1 + 1, 4, none⟩) (by simp; omega) (.int .i64 0))
    clear Q1 Q2 Q3 Q4 Q5
    dsimp only
    go_wp2_with fail
    refine bodyPost_ret (v := .agg #[.int .i64 4, .int .i64 0, .slice none 0 0, .int .i64 0, .int .i64 0]) (by simp [results, Tryz.results9, go_sem, p0, p1, p2, p3, p4]) rfl ?_
    rw [unhide HX]
    exact ⟨⟨none, 0, rfl, World.ownsRow_nil _ _ _ _⟩, unhide HBE⟩

end Go.Proofs.YtogenboibgddaaaGreatDoor

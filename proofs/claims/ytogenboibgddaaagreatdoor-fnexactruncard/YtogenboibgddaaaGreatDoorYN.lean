/-
  The program's verifier, whole. Own work.
-/
import Derived.Test.YtogenboibgddaaaGreatDoorYM
namespace Go.Proofs.YtogenboibgddaaaGreatDoor
open Go.RowKit Go.Lib
set_option linter.unusedVariables false

/-- what holds of all states that are known holds behind -/
theorem goV_all (Q : Vs → Prop) (t : Vs) (ht : Q t) : ∀ (ns : List Nat) (K : List (Option Vs)), (∀ j s, K.getD j none = some s → Q s) → ∀ j s, (goV t ns K).2.getD j none = some s → Q s
  | [], K, h => h
  | n :: ns, K, h => by
    rw [goV]
    split
    · exact h
    split
    · refine goV_all Q t ht ns _ (fun j s hj => ?_)
      by_cases e : n = j
      · subst e
        by_cases hn : n < K.length
        · rw [List.getD, List.getElem?_set_self hn] at hj
          simp only [Option.getD_some, Option.some.injEq] at hj
          exact hj ▸ ht
        · rw [List.getD, List.getElem?_eq_none (by simp; omega)] at hj
          cases hj
      · rw [List.getD, List.getElem?_set_ne e] at hj
        exact h j s hj
    split
    · exact goV_all Q t ht ns K h
    · exact h

theorem shapB_ins {P : List Vl} {s : Int} {I : List Is1} (h : shapB P s I = true) (k : Nat) (hk : k < I.length) : (1 ≤ (I.getD k ⟨0, 0⟩).op ∧ (I.getD k ⟨0, 0⟩).op ≤ 25) ∧ 0 ≤ (I.getD k ⟨0, 0⟩).arg := by
  unfold shapB at h
  simp only [Bool.and_eq_true, List.all_eq_true] at h
  have h1 := h.2 (I[k]) (List.getElem_mem hk)
  rw [List.getD, List.getElem?_eq_getElem hk]
  simp only [Option.getD_some]
  unfold insB at h1
  simp only [Bool.and_eq_true, decide_eq_true_eq] at h1
  refine ⟨h1.1, ?_⟩
  have h2 := h1.2
  split at h2
  · simp at h2; omega
  · simp at h2; omega

theorem shapB_nums {P : List Vl} {s : Int} {I : List Is1} (h : shapB P s I = true) : P.length ≤ 4000 ∧ I.length ≤ 20000 ∧ 0 ≤ s ∧ s ≤ 600 := by
  unfold shapB at h
  simp only [Bool.and_eq_true, decide_eq_true_eq] at h
  exact h.1.1

theorem runV_dead (PK : List Int) (S : Nat) (I : List Is1) (r at_ : Nat) (K : List (Option Vs)) (b : Nat) (h : K.getD at_ none = none) : runV PK S I (r + 1) at_ K b = (0, 2) := by rw [runV, h]

theorem runV_step (PK : List Int) (S : Nat) (I : List Is1) (r at_ : Nat) (K : List (Option Vs)) (b : Nat) (s : Vs) (h : K.getD at_ none = some s) : runV PK S I (r + 1) at_ K b =
      if (stepV PK S I.length at_ (I.getD at_ ⟨0, 0⟩) s).1 ≠ 0 then (0, (stepV PK S I.length at_ (I.getD at_ ⟨0, 0⟩) s).1)
      else if (goV (stepV PK S I.length at_ (I.getD at_ ⟨0, 0⟩) s).2 (nextV at_ (I.getD at_ ⟨0, 0⟩)) K).1 ≠ 0 then (0, (goV (stepV PK S I.length at_ (I.getD at_ ⟨0, 0⟩) s).2 (nextV at_ (I.getD at_ ⟨0, 0⟩)) K).1)
      else runV PK S I r (at_ + 1) (goV (stepV PK S I.length at_ (I.getD at_ ⟨0, 0⟩) s).2 (nextV at_ (I.getD at_ ⟨0, 0⟩)) K).2 (max b (max s.stack.length (stepV PK S I.length at_ (I.getD at_ ⟨0, 0⟩) s).2.stack.length)) := by rw [runV, h]

def VfA (w : World) (r : Int × Int) (e : Ending) (w' : World) : Prop := e = .returned (.tuple #[.int .i64 r.1, .int .i64 r.2]) ∧ Below w.heap.size w w'

/-- the loop's state -/
def VfI (w : World) (vb kb lo : Nat) (a b : Option Addr) (n c m d S : Nat) (PK : List Int) (I : List Is1) (R : Int × Int) (j : Nat) (wr : World) : Prop :=
  ∃ (K : List (Option Vs)) (pt : List (Option Nat)) (bd : Nat), j ≤ m ∧ runV PK S I (m - j) j K bd = R ∧ Kn wr lo kb K pt ∧ K.length = m ∧ (∀ i s, K.getD i none = some s → s.stack.length ≤ 100 ∧ s.slots.length = S) ∧ bd ≤ 100 ∧ Row wr vb #[.slice a n c, .int .i64 S, .slice b m d, .slice (some ⟨kb, 0, none⟩) m m, .int .i64 bd] 101 ∧ Below w.heap.size w wr ∧ lo ≤ wr.heap.size

theorem start_all (m S : Nat) (hm : 0 < m) : ∀ (i : Nat) (s : Vs), ((List.replicate m (none : Option Vs)).set 0 (some (vs0 S))).getD i none = some s → s.stack.length ≤ 100 ∧ s.slots.length = S := by
  intro i st hj
  by_cases ei : i = 0
  · subst ei
    rw [List.getD, List.getElem?_set_self (by simpa using hm)] at hj
    simp only [Option.getD_some, Option.some.injEq] at hj
    subst hj
    simp [vs0]
  · rw [List.getD, List.getElem?_set_ne (fun e => ei e.symm), List.getElem?_replicate] at hj
    split at hj <;> cases hj

/-- behind an instruction: it was wrong, or the loop goes on -/
theorem round_all {w w' : World} {vb kb lo : Nat} {a b : Option Addr} {n c m d S bd j r : Nat} {PK : List Int} {I : List Is1} {K : List (Option Vs)} {R : Int × Int} {rr : Int} (hrun : runV PK S I (r + 1) j K bd = R) (hr : m - j = r + 1) (hI : I.length = m) (hKl : K.length = m) (hKs : ∀ i s, K.getD i none = some s → s.stack.length ≤ 100 ∧ s.slots.length = S) (hbd : bd ≤ 100) (hB : Below w.heap.size w w') (hlo : lo ≤ w'.heap.size)
    (hc : (K.getD j none = none ∧ rr = 2) ∨ ∃ s, K.getD j none = some s ∧ (((stepV PK S m j (I.getD j ⟨0, 0⟩) s).1 ≠ 0 ∧ rr = (stepV PK S m j (I.getD j ⟨0, 0⟩) s).1) ∨ ((stepV PK S m j (I.getD j ⟨0, 0⟩) s).1 = 0 ∧ rr = (goV (stepV PK S m j (I.getD j ⟨0, 0⟩) s).2 (nextV j (I.getD j ⟨0, 0⟩)) K).1 ∧ ∃ pt, Kn w' lo kb (goV (stepV PK S m j (I.getD j ⟨0, 0⟩) s).2 (nextV j (I.getD j ⟨0, 0⟩)) K).2 pt ∧ Row w' vb #[.slice a n c, .int .i64 S, .slice b m d, .slice (some ⟨kb, 0, none⟩) m m, .int .i64 ((max bd (max s.stack.length (stepV PK S m j (I.getD j ⟨0, 0⟩) s).2.stack.length) : Nat) : Int)] 101))) :
    (rr ≠ 0 ∧ R = (0, rr)) ∨ (rr = 0 ∧ VfI w vb kb lo a b n c m d S PK I R (j + 1) w') := by
  rcases hc with ⟨h1, rfl⟩ | ⟨s, h1, h2⟩
  · rw [runV_dead _ _ _ _ _ _ _ h1] at hrun
    exact .inl ⟨by decide, hrun.symm⟩
  · rw [runV_step _ _ _ _ _ _ _ s h1, hI] at hrun
    rcases h2 with ⟨h3, rfl⟩ | ⟨h3, rfl, pt, h4, h5⟩
    · rw [if_pos h3] at hrun
      exact .inl ⟨h3, hrun.symm⟩
    · rw [if_neg (by simpa using h3)] at hrun
      by_cases h6 : (goV (stepV PK S m j (I.getD j ⟨0, 0⟩) s).2 (nextV j (I.getD j ⟨0, 0⟩)) K).1 = 0
      · rw [if_neg (by simpa using h6)] at hrun
        have hh := stepV_height h3
        have hs := hKs j s h1
        refine .inr ⟨h6, _, pt, _, by omega, ?_, h4, by rw [goV_len, hKl], goV_all (fun s => s.stack.length ≤ 100 ∧ s.slots.length = S) _ ⟨hh, by rw [stepV_slots]; exact hs.2⟩ _ K hKs, by omega, h5, hB, hlo⟩
        rw [show m - (j + 1) = r by omega]
        exact hrun
      · rw [if_pos h6] at hrun
        exact .inl ⟨h6, hrun.symm⟩

set_option maxRecDepth 100000 in
set_option maxHeartbeats 6400000 in
theorem iVerify_any (a b : Option Addr) (n c m d : Nat) (s : Int) (P : List Vl) (I : List Is1) (aT : Addr) (w : World) (hP : Vls w a n c P) (hI : Iss w b m d I) (hv : Vok w aT) :
    Calls Tryz.prog 26 #[.agg #[.slice a n c, .int .i64 s, .slice b m d]] w fun e w' => VfA w (verR P s I) e w' := by
  have hms := hI.small
  have hml := hI.len
  have B0 := (Below.refl w.heap.size w).alloc (Nat.le_refl _) (.cells #[.slice a n c, .int .i64 s, .slice b m d] 39)
  have HS := hide (rightShape_any a b n c m d s P I _ (hP.below B0 (Nat.le_refl _)) (hI.below B0 (Nat.le_refl _)))
  have RC := Row.new w #[.slice a n c, .int .i64 s, .slice b m d] 39
  obtain ⟨q0, q1, q2⟩ := rowC RC
  have hwl := RC.lt
  cases hsh : shapB P s I with
  | false =>
    have HX := hide (show verR P s I = (0, 1) by unfold verR; rw [if_pos hsh])
    rw [hsh] at HS
    clear hsh hml
    go_enter Tryz.func26, Tryz.ntmps26
    go_wp2_with fail
    refine (unhide HS).mono ?_
    rintro e w1 ⟨rfl, hb1⟩
    go_wp2_with fail
    exact bodyPost_ret (v := .tuple #[.int .i64 0, .int .i64 1]) (by simp [results, Tryz.results26, go_sem]) rfl ⟨by rw [unhide HX], B0.trans (hb1.mono B0.size)⟩
  | true =>
    have HN := hide (shapB_nums hsh)
    have HSh := hide hsh
    rw [hsh] at HS
    by_cases hm0 : m = 0
    · have hI0 : I = [] := List.eq_nil_of_length_eq_zero (by omega)
      have HX := hide (show verR P s I = (0, 8) by unfold verR; rw [if_neg (by rw [hsh]; decide), if_pos hI0])
      subst hm0
      clear hsh hml hI0
      go_enter Tryz.func26, Tryz.ntmps26
      go_wp2_with fail
      refine (unhide HS).mono ?_
      rintro e w1 ⟨rfl, hb1⟩
      have t2 := (hb1.cell (p := ⟨w.heap.size, 2, none⟩) hwl).trans q2
      go_wp2_with fail
      exact bodyPost_ret (v := .tuple #[.int .i64 0, .int .i64 8]) (by simp [results, Tryz.results26, go_sem]) rfl ⟨by rw [unhide HX], B0.trans (hb1.mono B0.size)⟩
    · have hm1 : 0 < m := by omega
      have hs0 : 0 ≤ s := (unhide HN).2.2.1
      obtain ⟨S, rfl⟩ := Int.eq_ofNat_of_zero_le hs0
      have em0 : ((m : Int) == 0) = false := beq_eq_false_iff_ne.2 (by omega)
      have HX := hide (show verR P S I = runV (P.map Vl.kind) S I m 0 ((List.replicate m none).set 0 (some (vs0 S))) 0 by
        unfold verR
        rw [if_neg (by rw [hsh]; decide), if_neg (by intro e; rw [e] at hml; simp at hml; omega), Int.toNat_natCast, hml]
        rfl)
      have HNV := hide (fun W => newVerifier_any a b n c m d S W hm1 hms (by have := (unhide HN).2.2.2; omega))
      have Hml := hide hml
      clear hsh hml hm0
      go_enter Tryz.func26, Tryz.ntmps26
      go_wp2_with fail
      refine (unhide HS).mono ?_
      rintro e w1 ⟨rfl, hb1⟩
      obtain ⟨t0, t1, t2⟩ := rowC (RC.after hb1 (Nat.le_refl _))
      have B1 := B0.trans (hb1.mono B0.size)
      go_wp2_with fail
      refine (unhide HNV w1).mono ?_
      rintro e w2 ⟨pt, rfl, RV, KN, hb2⟩
      have B2 := B1.trans (hb2.mono B1.size)
      obtain ⟨_, _, t2'⟩ := rowC ((RC.after hb1 (Nat.le_refl _)).after hb2 (Nat.le_refl _))
      have hlo1 : w.heap.size ≤ w1.heap.size := B1.size
      have Hst : Hid (VfI w (w1.heap.size + 2) (w1.heap.size + 1) (w1.heap.size + 3) a b n c m d S (P.map Vl.kind) I (verR P S I) 0 w2) := hide ⟨_, pt, 0, Nat.zero_le _, by rw [Nat.sub_zero]; exact (unhide HX).symm, KN, by simp, start_all m S hm1, by omega, RV, B2, by have := RV.lt; omega⟩
      have Hlo1 := hide hlo1
      have Hvm := hide (fun j => fun (h : j < m) => shapB_ins (unhide HSh) j (by rw [unhide Hml]; exact h))
      clear KN RV hb2 B1 hb1 t0 t1 t2 hlo1 q0 q1 q2
      generalize w1.heap.size = h1 at Hst Hlo1 ⊢
      go_wp2_with fail
      go_loopw [19] (fun i wr => ∃ j : Nat, i = .int .i64 j ∧ Hid (VfI w (h1 + 2) (h1 + 1) (h1 + 3) a b n c m d S (P.map Vl.kind) I (verR P S I) j wr)) (fun i _ => m - (RowKit.intOf i).toNat)
      case atStart => exact ⟨0, rfl, Hst⟩
      case round =>
        obtain ⟨j, rfl, HV⟩ := hrel
        obtain ⟨K, pt, bd, hj, hrun, hK, hKl, hKs, hbd, hR, hB, hlo⟩ := unhide HV
        by_cases hjm : j < m
        · have ij : (j : Int) < (m : Int) := by omega
          obtain ⟨hop, harg⟩ := unhide Hvm j hjm
          have HIN := hide (instruction_any w (h1 + 2) (h1 + 1) (h1 + 3) j a b n c m d S bd P I K pt aT wr hR hB hP hI hjm hop harg hK hKl hv hKs (by have := (unhide HN).2.2.2; omega) hP.small hbd (by have := unhide Hlo1; omega) (by have := unhide Hlo1; omega) (by omega) hlo (by omega))
          obtain ⟨r, hr⟩ : ∃ r, m - j = r + 1 := ⟨m - j - 1, by omega⟩
          rw [hr] at hrun
          have Hrun := hide hrun
          have Hr := hide hr
          have HKs := hide hKs
          have HKl := hide hKl
          have Hjm := hide hjm
          have HBw := hide hB
          have Hlo := hide hlo
          have Hbd := hide hbd
          clear hrun hr hKs hKl hj hjm hB hlo hR hK HV hbd
          go_wp2_with fail
          refine (unhide HIN).mono ?_
          rintro e w3 ⟨rr, rfl, hb3, hcase⟩
          have B3 := (unhide HBw).trans hb3
          have hnext := round_all (unhide Hrun) (unhide Hr) (unhide Hml) (unhide HKl) (unhide HKs) (unhide Hbd) B3 (Nat.le_trans (unhide Hlo) hb3.size) hcase
          clear hcase hb3
          rcases hnext with ⟨hne, hR⟩ | ⟨rfl, hV⟩
          · have hnb : (rr != 0) = true := bne_iff_ne.2 hne
            have HR := hide hR
            clear hne hR
            go_wp2_with fail
            exact bodyPost_ret (v := .tuple #[.int .i64 0, .int .i64 rr]) (by simp [results, Tryz.results26, go_sem]) rfl ⟨by rw [unhide HR], B3⟩
          · have HV := hide hV
            clear hV
            go_wp2_with fail
            go_roundw
            case rel => exact ⟨j + 1, by have := unhide Hjm; go_num, HV⟩
            case measure => have := unhide Hjm; simp [RowKit.intOf]; omega
        · have e : j = m := by omega
          subst e
          rw [Nat.sub_self, runV] at hrun
          obtain ⟨_, _, _, _, y4⟩ := rowR hR
          have Hrun := hide hrun
          have nij : ¬ ((j : Int) < (j : Int)) := by omega
          clear hrun hjm hj
          go_wp2_with fail
          exact bodyPost_ret (v := .tuple #[.int .i64 (bd : Int), .int .i64 0]) (by simp [results, Tryz.results26, go_sem]) rfl ⟨by rw [← unhide Hrun], hB⟩

end Go.Proofs.YtogenboibgddaaaGreatDoor

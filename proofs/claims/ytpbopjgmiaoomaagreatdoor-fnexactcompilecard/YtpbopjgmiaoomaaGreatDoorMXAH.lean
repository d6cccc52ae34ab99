/-
  VPE, VPF. Own work.
-/
import Derived.Test.YtpbopjgmiaoomaaGreatDoorVPC
namespace Go.Proofs.YtpbopjgmiaoomaaGreatDoor
open Go.RowKit
set_option linter.unusedVariables false

theorem row4' {w : World} {b : Nat} {v0 v1 v2 v3 : Value} {t : TypeId} (R : Row w b #[v0, v1, v2, v3] t) : w.cell? ⟨b, 0, none⟩ = some v0 ∧ w.cell? ⟨b, 1, none⟩ = some v1 ∧ w.cell? ⟨b, 2, none⟩ = some v2 ∧ w.cell? ⟨b, 3, none⟩ = some v3 ∧ ∀ j, w.frozen? ⟨b, j, none⟩ = false :=
  ⟨by simpa using R.cell 0, by simpa using R.cell 1, by simpa using R.cell 2, by simpa using R.cell 3, fun j => R.frozen j⟩

/-- a statement by its value -/
def stV (s : St) : Value := .agg #[.int .i64 s.kind, .string s.name, .int .i64 s.cond, .int .i64 s.grant]

set_option maxRecDepth 100000 in
set_option maxHeartbeats 3200000 in
theorem validStmt_any (s : St) (w : World) (hs : s.name.size ≤ 1048576) :
    Calls Tryz.prog 97 #[stV s] w fun e w' => e = .returned (.bool (stmtI s)) ∧ Below w.heap.size w w' := by
  obtain ⟨kind, name, cond, grant⟩ := s
  simp only at hs
  have B0 := (Below.refl w.heap.size w).alloc (Nat.le_refl _) (.cells #[.int .i64 kind, .string name, .int .i64 cond, .int .i64 grant] 49)
  have HF := hide (show stmtI ⟨kind, name, cond, grant⟩ = (if kind = 1 then identB name && decide (grant = -1) else if kind = 2 then decide (name.size = 0) else if kind = 3 then decide (name.size = 0) && decide (cond = -1) else false) from rfl)
  generalize stmtI ⟨kind, name, cond, grant⟩ = FB at HF ⊢
  unfold stV
  have tl := tl_nil name
  by_cases k1 : kind = 1
  · subst k1
    cases hq : identB name
    · have Hq := hide hq
      clear hq
      go_enter Tryz.func97, Tryz.ntmps97
      go_wp2_with (go_at_call 100; refine (couldBeName_any _ _ hs).mono ?_; rintro e w2 ⟨rfl, hw⟩; rw [unhide Hq, hw]; clear hw)
      all_goals
        go_ret
        refine ⟨ret_bool ?_, (Below.refl w.heap.size w).alloc (Nat.le_refl _) _⟩
        rw [unhide HF, unhide Hq]
        simp
    · have Hq := hide hq
      clear hq
      go_enter Tryz.func97, Tryz.ntmps97
      go_wp2_with (go_at_call 100; refine (couldBeName_any _ _ hs).mono ?_; rintro e w2 ⟨rfl, hw⟩; rw [unhide Hq, hw]; clear hw)
      all_goals
        go_ret
        refine ⟨ret_bool ?_, (Below.refl w.heap.size w).alloc (Nat.le_refl _) _⟩
        rw [unhide HF, unhide Hq]
        simp
        try rfl
  by_cases k2 : kind = 2
  · subst k2
    go_enter Tryz.func97, Tryz.ntmps97
    go_wp2
    all_goals
      go_ret
      refine ⟨ret_bool ?_, (Below.refl w.heap.size w).alloc (Nat.le_refl _) _⟩
      rw [unhide HF]
      have ti : name.toList.isEmpty = decide (name.size = 0) := by rw [Bool.eq_iff_iff, List.isEmpty_iff, decide_eq_true_iff]; exact tl_nil name
      clear HF B0
      simp_all
  by_cases k3 : kind = 3
  · subst k3
    go_enter Tryz.func97, Tryz.ntmps97
    go_wp2
    all_goals
      go_ret
      refine ⟨ret_bool ?_, (Below.refl w.heap.size w).alloc (Nat.le_refl _) _⟩
      rw [unhide HF]
      have ti : name.toList.isEmpty = decide (name.size = 0) := by rw [Bool.eq_iff_iff, List.isEmpty_iff, decide_eq_true_iff]; exact tl_nil name
      have cb : (cond == -1) = decide (cond = -1) := rfl
      clear HF B0
      simp_all
  have e1 := beq_eq_false_iff_ne.2 k1
  have e2 := beq_eq_false_iff_ne.2 k2
  have e3 := beq_eq_false_iff_ne.2 k3
  go_enter Tryz.func97, Tryz.ntmps97
  go_wp2
  go_ret
  exact ⟨ret_bool (by rw [unhide HF, if_neg k1, if_neg k2, if_neg k3]), B0⟩

end Go.Proofs.YtpbopjgmiaoomaaGreatDoor

namespace Go.Proofs.YtpbopjgmiaoomaaGreatDoor
open Go.RowKit
set_option linter.unusedVariables false

/-- A slice of statements. -/
structure Sts (w : World) (a : Option Addr) (n c : Nat) (L : List St) : Prop where
  len : L.length = n
  small : n ≤ 1048576
  sizes : ∀ s ∈ L, s.name.size ≤ 1048576
  cells : ∀ j, (h : j < L.length) → ∃ b off, a = some ⟨b, off, none⟩ ∧ b < w.heap.size ∧ w.cell? ⟨b, off + j * 4, none⟩ = some (.int .i64 L[j].kind) ∧ w.cell? ⟨b, off + j * 4 + 1, none⟩ = some (.string L[j].name) ∧ w.cell? ⟨b, off + j * 4 + 2, none⟩ = some (.int .i64 L[j].cond) ∧ w.cell? ⟨b, off + j * 4 + 3, none⟩ = some (.int .i64 L[j].grant)

theorem Sts.below {w w' : World} {B : Nat} {a : Option Addr} {n c : Nat} {L : List St} (h : Sts w a n c L) (hb : Below B w w') (hB : w.heap.size ≤ B) : Sts w' a n c L :=
  ⟨h.len, h.small, h.sizes, fun j hj => by
    obtain ⟨b, off, ha, hl, c0, c1, c2, c3⟩ := h.cells j hj
    have hl' : b < B := by omega
    exact ⟨b, off, ha, Nat.lt_of_lt_of_le hl hb.size, (hb.cell (p := ⟨b, off + j * 4, none⟩) hl').trans c0, (hb.cell (p := ⟨b, off + j * 4 + 1, none⟩) hl').trans c1, (hb.cell (p := ⟨b, off + j * 4 + 2, none⟩) hl').trans c2, (hb.cell (p := ⟨b, off + j * 4 + 3, none⟩) hl').trans c3⟩⟩

/-- the statement at a place, as the program asks for it -/
def stAt (L : List St) (j : Nat) (h : j < L.length) : Bool := stmtI L[j] && (decide (L[j].kind = 3) == decide (j + 1 = L.length))

theorem stmtsI_iff : ∀ (L : List St), stmtsI L = true ↔ ∀ j, (h : j < L.length) → stAt L j h = true
  | [] => by simp [stmtsI]
  | s :: r => by
    rw [stmtsI, Bool.and_eq_true, stmtsI_iff r]
    have e : r.isEmpty = decide (0 + 1 = (s :: r).length) := by cases r <;> simp
    constructor
    · rintro ⟨h1, h2⟩ j hj
      cases j with
      | zero => rw [e] at h1; exact h1
      | succ j =>
        have := h2 j (by simpa using hj)
        rw [stAt] at this ⊢
        simp only [List.getElem_cons_succ, List.length_cons] at this ⊢
        rw [show decide (j + 1 + 1 = r.length + 1) = decide (j + 1 = r.length) by rw [decide_eq_decide]; omega]
        exact this
    · intro h
      refine ⟨by rw [e]; exact h 0 (by simp), fun j hj => ?_⟩
      have := h (j + 1) (by simpa using hj)
      rw [stAt] at this ⊢
      simp only [List.getElem_cons_succ, List.length_cons] at this
      rw [show decide (j + 1 + 1 = r.length + 1) = decide (j + 1 = r.length) by rw [decide_eq_decide]; omega] at this
      exact this

theorem validStmt_agg (s : St) (w : World) (hs : s.name.size ≤ 1048576) :
    Calls Tryz.prog 97 #[.agg #[.int .i64 s.kind, .string s.name, .int .i64 s.cond, .int .i64 s.grant]] w fun e w' => e = .returned (.bool (stmtI s)) ∧ Below w.heap.size w w' := validStmt_any s w hs

set_option maxRecDepth 100000 in
set_option maxHeartbeats 3200000 in
theorem validStmts_any (a : Option Addr) (n c : Nat) (L : List St) (w : World) (h : Sts w a n c L) :
    Calls Tryz.prog 77 #[.slice a n c] w fun e w' => e = .returned (.bool (decide (1 ≤ n ∧ n ≤ 600) && stmtsI L)) ∧ Below w.heap.size w w' := by
  have hn := h.small
  by_cases h1 : n < 1
  · have i1 : (n : Int) < 1 := by omega
    go_enter Tryz.func77, Tryz.ntmps77
    go_wp2
    go_ret
    exact ⟨ret_bool (by simp; omega), Below.refl _ _⟩
  have i1 : ¬ ((n : Int) < 1) := by omega
  by_cases h6 : 600 < n
  · have i6 : (600 : Int) < (n : Int) := by omega
    go_enter Tryz.func77, Tryz.ntmps77
    go_wp2
    go_ret
    exact ⟨ret_bool (by simp; omega), Below.refl _ _⟩
  have i6 : ¬ ((600 : Int) < (n : Int)) := by omega
  have HD := hide (show decide (1 ≤ n ∧ n ≤ 600) = true from decide_eq_true ⟨by omega, by omega⟩)
  have hl := h.len
  have HL := hide hl
  clear hl
  go_enter Tryz.func77, Tryz.ntmps77
  go_wp2_with fail
  go_loopw [16] (fun i wr => ∃ (k : Nat), k ≤ n ∧ i = .int .i64 k ∧ Below w.heap.size w wr ∧ ∀ j, (hj : j < L.length) → j < k → stAt L j hj = true) (fun i _ => n - (intOf i).toNat)
  case atStart => exact ⟨0, Nat.zero_le _, rfl, Below.refl _ _, fun j hj hk => by omega⟩
  case round =>
    obtain ⟨k, hk, rfl, B1, hal⟩ := hrel
    have Ha := hide hal
    clear hal
    by_cases hlt : k < n
    · have ilt : (k : Int) < (n : Int) := by omega
      have hkl : k < L.length := by rw [unhide HL]; exact hlt
      obtain ⟨b, off, rfl, hb, c0, c1, c2, c3⟩ := (h.below B1 (Nat.le_refl _)).cells k hkl
      have hsz := h.sizes L[k] (List.getElem_mem hkl)
      have HS := hide (show stAt L k hkl = (stmtI L[k] && (decide (L[k].kind = 3) == decide (k + 1 = n))) by rw [stAt, unhide HL])
      generalize L[k] = s at c0 c1 c2 c3 hsz HS
      have R1 := Row.new wr #[.int .i64 s.kind, .string s.name, .int .i64 s.cond, .int .i64 s.grant] 49
      have B2 := B1.alloc B1.size (.cells #[.int .i64 s.kind, .string s.name, .int .i64 s.cond, .int .i64 s.grant] 49)
      have Hno0 := hide (show stAt L k hkl = false → stmtsI L = false from fun e => by
        rw [← Bool.not_eq_true, stmtsI_iff]
        intro k'
        rw [k' k hkl] at e
        cases e)
      have HN := hide (show stAt L k hkl = true → ∀ j, (hj : j < L.length) → j < k + 1 → stAt L j hj = true from fun e j hj h' => by
        by_cases ej : j = k
        · subst ej; exact e
        · exact unhide Ha j hj (by omega))
      clear Ha
      have Hlt := hide hlt
      by_cases kl : k + 1 = n
      · have el : ((k : Int) == (n : Int) - 1) = true := beq_iff_eq.2 (by omega)
        have dl := decide_eq_true kl
        have Hdl := hide dl
        clear kl dl
        by_cases k3 : s.kind = 3
        · have e3 : (s.kind == 3) = true := beq_iff_eq.2 k3
          have d3 := decide_eq_true k3
          have Hd3 := hide d3
          clear k3 d3
          cases hv : stmtI s
          · have Hno := hide (unhide Hno0 (by rw [unhide HS, hv]; rfl))
            have Hv := hide hv
            clear hv
            go_wp2_with (go_at_call 97; refine (validStmt_agg s _ hsz).mono ?_; rintro e w2 ⟨rfl, hb2⟩; rw [unhide Hv]; have R2 := R1.after hb2 (Nat.le_refl _); obtain ⟨q0, q1, q2, q3, qf⟩ := row4' R2)
            go_ret
            exact ⟨ret_bool (by rw [unhide HD, unhide Hno]; rfl), B2.trans (hb2.mono B2.size)⟩
          · have HY := hide (unhide HN (by rw [unhide HS, hv, unhide Hd3, unhide Hdl]; rfl))
            have Hv := hide hv
            clear hv
            go_wp2_with (go_at_call 97; refine (validStmt_agg s _ hsz).mono ?_; rintro e w2 ⟨rfl, hb2⟩; rw [unhide Hv]; have R2 := R1.after hb2 (Nat.le_refl _); obtain ⟨q0, q1, q2, q3, qf⟩ := row4' R2)
            go_roundw
            case rel => exact ⟨k + 1, unhide Hlt, by go_num, B2.trans (hb2.mono B2.size), unhide HY⟩
            case measure => have := unhide Hlt; simp [intOf]; omega
        · have e3 : (s.kind == 3) = false := beq_eq_false_iff_ne.2 k3
          have d3 := decide_eq_false k3
          have Hd3 := hide d3
          clear k3 d3
          cases hv : stmtI s
          · have Hno := hide (unhide Hno0 (by rw [unhide HS, hv]; rfl))
            have Hv := hide hv
            clear hv
            go_wp2_with (go_at_call 97; refine (validStmt_agg s _ hsz).mono ?_; rintro e w2 ⟨rfl, hb2⟩; rw [unhide Hv]; have R2 := R1.after hb2 (Nat.le_refl _); obtain ⟨q0, q1, q2, q3, qf⟩ := row4' R2)
            go_ret
            exact ⟨ret_bool (by rw [unhide HD, unhide Hno]; rfl), B2.trans (hb2.mono B2.size)⟩
          · have Hno := hide (unhide Hno0 (by rw [unhide HS, hv, unhide Hd3, unhide Hdl]; rfl))
            have Hv := hide hv
            clear hv
            go_wp2_with (go_at_call 97; refine (validStmt_agg s _ hsz).mono ?_; rintro e w2 ⟨rfl, hb2⟩; rw [unhide Hv]; have R2 := R1.after hb2 (Nat.le_refl _); obtain ⟨q0, q1, q2, q3, qf⟩ := row4' R2)
            go_ret
            exact ⟨ret_bool (by rw [unhide HD, unhide Hno]; rfl), B2.trans (hb2.mono B2.size)⟩
      · have el : ((k : Int) == (n : Int) - 1) = false := beq_eq_false_iff_ne.2 (by omega)
        have dl := decide_eq_false kl
        have Hdl := hide dl
        clear kl dl
        by_cases k3 : s.kind = 3
        · have e3 : (s.kind == 3) = true := beq_iff_eq.2 k3
          have d3 := decide_eq_true k3
          have Hd3 := hide d3
          clear k3 d3
          cases hv : stmtI s
          · have Hno := hide (unhide Hno0 (by rw [unhide HS, hv]; rfl))
            have Hv := hide hv
            clear hv
            go_wp2_with (go_at_call 97; refine (validStmt_agg s _ hsz).mono ?_; rintro e w2 ⟨rfl, hb2⟩; rw [unhide Hv]; have R2 := R1.after hb2 (Nat.le_refl _); obtain ⟨q0, q1, q2, q3, qf⟩ := row4' R2)
            go_ret
            exact ⟨ret_bool (by rw [unhide HD, unhide Hno]; rfl), B2.trans (hb2.mono B2.size)⟩
          · have Hno := hide (unhide Hno0 (by rw [unhide HS, hv, unhide Hd3, unhide Hdl]; rfl))
            have Hv := hide hv
            clear hv
            go_wp2_with (go_at_call 97; refine (validStmt_agg s _ hsz).mono ?_; rintro e w2 ⟨rfl, hb2⟩; rw [unhide Hv]; have R2 := R1.after hb2 (Nat.le_refl _); obtain ⟨q0, q1, q2, q3, qf⟩ := row4' R2)
            go_ret
            exact ⟨ret_bool (by rw [unhide HD, unhide Hno]; rfl), B2.trans (hb2.mono B2.size)⟩
        · have e3 : (s.kind == 3) = false := beq_eq_false_iff_ne.2 k3
          have d3 := decide_eq_false k3
          have Hd3 := hide d3
          clear k3 d3
          cases hv : stmtI s
          · have Hno := hide (unhide Hno0 (by rw [unhide HS, hv]; rfl))
            have Hv := hide hv
            clear hv
            go_wp2_with (go_at_call 97; refine (validStmt_agg s _ hsz).mono ?_; rintro e w2 ⟨rfl, hb2⟩; rw [unhide Hv]; have R2 := R1.after hb2 (Nat.le_refl _); obtain ⟨q0, q1, q2, q3, qf⟩ := row4' R2)
            go_ret
            exact ⟨ret_bool (by rw [unhide HD, unhide Hno]; rfl), B2.trans (hb2.mono B2.size)⟩
          · have HY := hide (unhide HN (by rw [unhide HS, hv, unhide Hd3, unhide Hdl]; rfl))
            have Hv := hide hv
            clear hv
            go_wp2_with (go_at_call 97; refine (validStmt_agg s _ hsz).mono ?_; rintro e w2 ⟨rfl, hb2⟩; rw [unhide Hv]; have R2 := R1.after hb2 (Nat.le_refl _); obtain ⟨q0, q1, q2, q3, qf⟩ := row4' R2)
            go_roundw
            case rel => exact ⟨k + 1, unhide Hlt, by go_num, B2.trans (hb2.mono B2.size), unhide HY⟩
            case measure => have := unhide Hlt; simp [intOf]; omega
    · have e : k = n := by omega
      subst e
      have Hall := hide (show stmtsI L = true from (stmtsI_iff L).2 (fun j hj => unhide Ha j hj (by have := unhide HL; omega)))
      go_wp2
      go_ret
      exact ⟨ret_bool (by rw [unhide HD, unhide Hall]; rfl), B1⟩

end Go.Proofs.YtpbopjgmiaoomaaGreatDoor

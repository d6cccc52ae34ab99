/-
  The walk over the program's look at a statement. Own work.
-/
import Derived.Test.YtbdplgelkgngmaaGreatDoorVPC
namespace Go.Proofs.YtbdplgelkgngmaaGreatDoor
open Go.RowKit
set_option linter.unusedVariables false

theorem row4' {w : World} {b : Nat} {v0 v1 v2 v3 : Value} {t : TypeId} (R : Row w b #[v0, v1, v2, v3] t) : w.cell? ⟨b, 0, none⟩ = some v0 ∧ w.cell? ⟨b, 1, none⟩ = some v1 ∧ w.cell? ⟨b, 2, none⟩ = some v2 ∧ w.cell? ⟨b, 3, none⟩ = some v3 ∧ ∀ j, w.frozen? ⟨b, j, none⟩ = false :=
  ⟨by simpa using R.cell 0, by simpa using R.cell 1, by simpa using R.cell 2, by simpa using R.cell 3, fun j => R.frozen j⟩

/-- a statement by its value -/
def stV (s : St) : Value := .agg #[.int .i64 s.kind, .string s.name, .int .i64 s.cond, .int .i64 s.grant]

set_option maxRecDepth 100000 in
set_option maxHeartbeats 3200000 in
theorem validStmt_any (s : St) (w : World) (hs : s.name.size ≤ 1048576) :
    Calls Tryz.prog 71 #[stV s] w fun e w' => e = .returned (.bool (stmtI s)) ∧ Below w.heap.size w w' := by
  obtain ⟨kind, name, cond, grant⟩ := s
  simp only at hs
  have B0 := (Below.refl w.heap.size w).alloc (Nat.le_refl _) (.cells #[.int .i64 kind, .string name, .int .i64 cond, .int .i64 grant] 39)
  have HF := hide (show stmtI ⟨kind, name, cond, grant⟩ = (if kind = 1 then identB name && decide (grant = -1) else if kind = 2 then decide (name.size = 0) else if kind = 3 then decide (name.size = 0) && decide (cond = -1) else false) from rfl)
  generalize stmtI ⟨kind, name, cond, grant⟩ = FB at HF ⊢
  unfold stV
  have tl := tl_nil name
  by_cases k1 : kind = 1
  · subst k1
    cases hq : identB name
    · have Hq := hide hq
      clear hq
      go_enter Tryz.func71, Tryz.ntmps71
      go_wp2_with (go_at_call 53; refine (couldBeName_any _ _ hs).mono ?_; rintro e w2 ⟨rfl, hw⟩; rw [unhide Hq, hw]; clear hw)
      all_goals
        go_ret
        refine ⟨ret_bool ?_, (Below.refl w.heap.size w).alloc (Nat.le_refl _) _⟩
        rw [unhide HF, unhide Hq]
        simp
    · have Hq := hide hq
      clear hq
      go_enter Tryz.func71, Tryz.ntmps71
      go_wp2_with (go_at_call 53; refine (couldBeName_any _ _ hs).mono ?_; rintro e w2 ⟨rfl, hw⟩; rw [unhide Hq, hw]; clear hw)
      all_goals
        go_ret
        refine ⟨ret_bool ?_, (Below.refl w.heap.size w).alloc (Nat.le_refl _) _⟩
        rw [unhide HF, unhide Hq]
        simp
        try rfl
  by_cases k2 : kind = 2
  · subst k2
    go_enter Tryz.func71, Tryz.ntmps71
    go_wp2
    all_goals
      go_ret
      refine ⟨ret_bool ?_, (Below.refl w.heap.size w).alloc (Nat.le_refl _) _⟩
      rw [unhide HF]
      have ti : name.toList.isEmpty = decide (name.size = 0) := by rw [Bool.eq_iff_iff, List.isEmpty_iff, decide_eq_true_iff]; exact tl_nil name
      clear HF B0
      simp_all
  by_cases k3 : kind = 3
  · subst k3
    go_enter Tryz.func71, Tryz.ntmps71
    go_wp2
    all_goals
      go_ret
      refine ⟨ret_bool ?_, (Below.refl w.heap.size w).alloc (Nat.le_refl _) _⟩
      rw [unhide HF]
      have ti : name.toList.isEmpty = decide (name.size = 0) := by rw [Bool.eq_iff_iff, List.isEmpty_iff, decide_eq_true_iff]; exact tl_nil name
      have cb : (cond == -1) = decide (cond = -1) := rfl
      clear HF B0
      simp_all
  have e1 := beq_eq_false_iff_ne.2 k1
  have e2 := beq_eq_false_iff_ne.2 k2
  have e3 := beq_eq_false_iff_ne.2 k3
  go_enter Tryz.func71, Tryz.ntmps71
  go_wp2
  go_ret
  exact ⟨ret_bool (by rw [unhide HF, if_neg k1, if_neg k2, if_neg k3]), B0⟩

end Go.Proofs.YtbdplgelkgngmaaGreatDoor

/-
  The program's verifier: states held against each other; where it goes on. Own work.
-/
import Derived.Test.YteefbljehlepjaaDoorYI
import Derived.BigQuiet
import Derived.Deep.QuietTactic
namespace Go.Proofs.YteefbljehlepjaaDoor
open Go.RowKit Go.Lib
set_option linter.unusedVariables false

/-- the state behind an instruction -/
theorem behind_any (vb : Nat) (a : Option Addr) (n c : Nat) (v1 v2 v3 v4 : Value) (P : List Vl) (i : Is1) (q : Nat) (s : Vs) (aT : Addr) (w : World) (hR : Row w vb #[.slice a n c, v1, v2, v3, v4] 54) (hP : Vls w a n c P) (h : StAt w q s) (hv : Vok w aT) (h0 : 1 ≤ i.op) (h1 : i.op ≤ 25) (hp : popV i.op ≤ s.stack.length) (ha : argOk n s.slots.length i) (hS : s.slots.length ≤ 600) (hH : s.stack.length ≤ 200) :
    Calls Tryd.prog 37 #[.pointer (some ⟨vb, 0, none⟩), .agg #[.int .i64 i.op, .int .i64 i.arg], .pointer (some ⟨q, 0, none⟩)] w fun e w' => StA w q (behindV (P.map Vl.kind) i s) e w' := by
  by_cases hl : i.op = 4 ∨ pushV (P.map Vl.kind) i s = 0
  · exact behind_low vb a n c v1 v2 v3 v4 P i q s aT w hR hP h hv h0 h1 hp ha hS hH hl
  · exact behind_up vb a n c v1 v2 v3 v4 P i q s aT w hR hP h hv h0 h1 hp ha hS hH (fun e => hl (.inl e)) (fun e => hl (.inr e))

/-- numbers laid out anew -/
theorem ints_new (w : World) (B : Nat) (hB : w.heap.size = B) (L : List Int) (t : TypeId) (c : Nat) (hs : L.length ≤ 1048576) : Ints (w.alloc (.cells (L.map (Value.int .i64)).toArray t)) (some ⟨B, 0, none⟩) L.length c L := by
  subst hB
  exact ⟨rfl, hs, fun j hj => ⟨w.heap.size, 0, rfl, by simp, by
    have h := (Row.new w (L.map (Value.int .i64)).toArray t).cell j
    rw [Nat.zero_add, h]
    simp [hj]⟩⟩

theorem vs_eq (s t : Vs) : decide (s = t) = (decide (s.stack = t.stack) && decide (s.slots = t.slots)) := by
  obtain ⟨a, b⟩ := s
  obtain ⟨c, d⟩ := t
  simp

set_option maxRecDepth 100000 in
set_option maxHeartbeats 3200000 in
theorem equals_any (q r : Nat) (s t : Vs) (w : World) (h : StAt w q s) (ht : StAt w r t) :
    Calls Tryd.prog 55 #[.pointer (some ⟨q, 0, none⟩), .pointer (some ⟨r, 0, none⟩)] w fun e w' => e = .returned (.bool (decide (s = t))) ∧ Below w.heap.size w w' := by
  obtain ⟨a, n, c, b, m, d, R, h1, h2, _⟩ := h
  obtain ⟨a', n', c', b', m', d', R', h1', h2', _⟩ := ht
  obtain ⟨q0, q1⟩ := rowS R
  obtain ⟨r0, r1⟩ := rowS R'
  have hql := R.lt
  have hrl := R'.lt
  have HX := hide (vs_eq s t)
  have HE1 := hide (fun n0 => equalI_q a a' n c n' c' s.stack t.stack (w.drewN n0) (h1.below (below_drewN w n0) (Nat.le_refl _)) (h1'.below (below_drewN w n0) (Nat.le_refl _)))
  have HE2 := hide (fun n0 => equalI_q b b' m d m' d' s.slots t.slots (w.drewN n0) (h2.below (below_drewN w n0) (Nat.le_refl _)) (h2'.below (below_drewN w n0) (Nat.le_refl _)))
  generalize decide (s.stack = t.stack) = b1 at HX HE1
  generalize decide (s.slots = t.slots) = b2 at HX HE2
  clear h1 h2 h1' h2' R R'
  cases b1
  all_goals
    go_enter Tryd.func55, Tryd.ntmps55
    go_wp2_with fail
    go_quiet (first
      | (go_at_call 62; with_reducible refine Calls.quiet_of (unhide HE1 _))
      | (go_at_call 62; with_reducible refine Calls.quiet_of (unhide HE2 _)))
    go_wp2_with fail
    go_ret
    rw [unhide HX]
    exact ⟨by simp, below_drewN _ _⟩

set_option maxRecDepth 100000 in
set_option maxHeartbeats 3200000 in
theorem nextPlaces_any (vb : Nat) (a b : Option Addr) (n c m d : Nat) (v1 kv bd : Value) (I : List Is1) (k : Nat) (w : World) (hR : Row w vb #[.slice a n c, v1, .slice b m d, kv, bd] 54) (hI : Iss w b m d I) (hk : k < m) (hop : 1 ≤ (I.getD k ⟨0, 0⟩).op ∧ (I.getD k ⟨0, 0⟩).op ≤ 25) (harg : 0 ≤ (I.getD k ⟨0, 0⟩).arg) :
    Calls Tryd.prog 54 #[.pointer (some ⟨vb, 0, none⟩), .int .i64 k] w fun e w' => ∃ x c', e = .returned (.slice x (nextV k (I.getD k ⟨0, 0⟩)).length c') ∧ Ints w' x (nextV k (I.getD k ⟨0, 0⟩)).length c' ((nextV k (I.getD k ⟨0, 0⟩)).map Int.ofNat) ∧ (∀ ad, x = some ad → w.heap.size ≤ ad.block) ∧ Below w.heap.size w w' := by
  obtain ⟨g, off, hb, hgl, i0, i1⟩ := hI.at k hk
  subst hb
  have hsm := hI.small
  obtain ⟨q0, q1, q2, q3, q4⟩ := rowR hR
  generalize I.getD k ⟨0, 0⟩ = i at i0 i1 hop harg
  obtain ⟨op, arg⟩ := i
  simp only at i0 i1 hop harg
  obtain ⟨arg, rfl⟩ := Int.eq_ofNat_of_zero_le harg
  have ik : (k : Int) < (m : Int) := by omega
  have B0 := (Below.refl w.heap.size w).alloc (Nat.le_refl _) (.cells #[.int .i64 op, .int .i64 arg] 64)
  obtain ⟨r0, r1⟩ := rowS (Row.new w #[.int .i64 op, .int .i64 arg] 64)
  clear hR hI
  by_cases h1 : op = 24 ∨ op = 25
  · have HX := hide (show nextV k ⟨op, arg⟩ = [] by unfold nextV; rw [if_pos h1])
    rw [unhide HX]
    rcases h1 with rfl | rfl
    all_goals
      go_enter Tryd.func54, Tryd.ntmps54
      go_wp2_with fail
      go_ret
      exact ⟨none, 0, rfl, ⟨rfl, by decide, fun j hj => absurd hj (by simp)⟩, fun ad e => (by cases e), B0⟩
  by_cases h2 : op = 22
  · have HX := hide (show nextV k ⟨op, arg⟩ = [arg] by unfold nextV; rw [if_neg h1, if_pos h2]; simp)
    rw [unhide HX]
    subst h2
    go_enter Tryd.func54, Tryd.ntmps54
    go_wp2_with fail
    go_ret
    exact ⟨some ⟨_, 0, none⟩, _, rfl, ints_new _ _ (by simp) [(arg : Int)] _ _ (by simp), fun ad e => (by cases e; exact Nat.le_succ _), B0.alloc (by simp) _⟩
  by_cases h3 : op = 23
  · have HX := hide (show nextV k ⟨op, arg⟩ = [k + 1, arg] by unfold nextV; rw [if_neg h1, if_neg h2, if_pos h3]; simp)
    rw [unhide HX]
    subst h3
    go_enter Tryd.func54, Tryd.ntmps54
    go_wp2_with fail
    go_ret
    exact ⟨some ⟨_, 0, none⟩, _, rfl, ints_new _ _ (by simp) [(k : Int) + 1, (arg : Int)] _ _ (by simp), fun ad e => (by cases e; exact Nat.le_succ _), B0.alloc (by simp) _⟩
  · have HX := hide (show nextV k ⟨op, arg⟩ = [k + 1] by unfold nextV; rw [if_neg h1, if_neg h2, if_neg h3])
    rw [unhide HX]
    have e24 : (op == 24) = false := beq_eq_false_iff_ne.2 (fun e => h1 (.inl e))
    have e25 : (op == 25) = false := beq_eq_false_iff_ne.2 (fun e => h1 (.inr e))
    have e22 : (op == 22) = false := beq_eq_false_iff_ne.2 h2
    have e23 : (op == 23) = false := beq_eq_false_iff_ne.2 h3
    go_enter Tryd.func54, Tryd.ntmps54
    go_wp2_with fail
    go_ret
    exact ⟨some ⟨_, 0, none⟩, _, rfl, ints_new _ _ (by simp) [(k : Int) + 1] _ _ (by simp), fun ad e => (by cases e; exact Nat.le_succ _), B0.alloc (by simp) _⟩

end Go.Proofs.YteefbljehlepjaaDoor

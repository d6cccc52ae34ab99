/-
  The program's verifier: places. Own work.
-/
import Derived.Test.YteefbljehlepjaaDoorYE
namespace Go.Proofs.YteefbljehlepjaaDoor
open Go.RowKit Go.Lib
set_option linter.unusedVariables false

theorem rowR {w : World} {b : Nat} {v0 v1 v2 v3 v4 : Value} {t : TypeId} (R : Row w b #[v0, v1, v2, v3, v4] t) : w.cell? ⟨b, 0, none⟩ = some v0 ∧ w.cell? ⟨b, 1, none⟩ = some v1 ∧ w.cell? ⟨b, 2, none⟩ = some v2 ∧ w.cell? ⟨b, 3, none⟩ = some v3 ∧ w.cell? ⟨b, 4, none⟩ = some v4 :=
  ⟨by simpa using R.cell 0, by simpa using R.cell 1, by simpa using R.cell 2, by simpa using R.cell 3, by simpa using R.cell 4⟩

theorem Iss.at {w : World} {a : Option Addr} {n c : Nat} {L : List Is1} (h : Iss w a n c L) (j : Nat) (hj : j < n) : ∃ b off, a = some ⟨b, off, none⟩ ∧ b < w.heap.size ∧ w.cell? ⟨b, off + j * 2, none⟩ = some (.int .i64 (L.getD j ⟨0, 0⟩).op) ∧ w.cell? ⟨b, off + j * 2 + 1, none⟩ = some (.int .i64 (L.getD j ⟨0, 0⟩).arg) := by
  have hjl : j < L.length := by rw [h.len]; exact hj
  obtain ⟨b, off, ha, h1, c0, c1⟩ := h.cells j hjl
  have e : L.getD j ⟨0, 0⟩ = L[j] := by rw [List.getD, List.getElem?_eq_getElem hjl]; rfl
  rw [e]
  exact ⟨b, off, ha, h1, c0, c1⟩

set_option maxRecDepth 100000 in
set_option maxHeartbeats 3200000 in
theorem inRange_any (vb : Nat) (a b : Option Addr) (n c m d : Nat) (s : Int) (kv : Value) (bd : Int) (I : List Is1) (k : Nat) (w : World) (hR : Row w vb #[.slice a n c, .int .i64 s, .slice b m d, kv, .int .i64 bd] 54) (hI : Iss w b m d I) (hk : k < m) (hn : n ≤ 1048576) (hs : 0 ≤ s) (hop : 1 ≤ (I.getD k ⟨0, 0⟩).op ∧ (I.getD k ⟨0, 0⟩).op ≤ 25) :
    Calls Tryd.prog 34 #[.pointer (some ⟨vb, 0, none⟩), .int .i64 k] w fun e w' => e = .returned (.bool (rangeV n s.toNat m k (I.getD k ⟨0, 0⟩))) ∧ Below w.heap.size w w' := by
  obtain ⟨g, off, hb, hgl, i0, i1⟩ := hI.at k hk
  subst hb
  have hsm := hI.small
  obtain ⟨q0, q1, q2, q3, q4⟩ := rowR hR
  generalize I.getD k ⟨0, 0⟩ = i at i0 i1 hop
  obtain ⟨op, arg⟩ := i
  simp only at i0 i1 hop
  have ik : (k : Int) < (m : Int) := by omega
  have B0 := (Below.refl w.heap.size w).alloc (Nat.le_refl _) (.cells #[.int .i64 op, .int .i64 arg] 64)
  obtain ⟨S, rfl⟩ := Int.eq_ofNat_of_zero_le hs
  clear hs hI
  rw [Int.toNat_natCast]
  obtain ⟨p0, p1, p2, p3, p4⟩ := rowR (hR.alloc (.cells #[.int .i64 op, .int .i64 arg] 64))
  obtain ⟨r0, r1⟩ := rowS (Row.new w #[.int .i64 op, .int .i64 arg] 64)
  clear hR
  by_cases h1 : op = 1
  · subst h1
    have HX := hide (show rangeV n S m k ⟨1, arg⟩ = decide (arg < n) from rfl)
    go_enter Tryd.func34, Tryd.ntmps34
    go_wp2_with fail
    go_region
    all_goals
      go_wp2_with fail
      go_ret
      rw [unhide HX]
      exact ⟨rfl, B0.drew⟩
  by_cases h2 : op = 2
  · subst h2
    have HX := hide (show rangeV n S m k ⟨2, arg⟩ = decide (arg < 6) from rfl)
    go_enter Tryd.func34, Tryd.ntmps34
    go_wp2_with fail
    go_ret
    rw [unhide HX]
    exact ⟨rfl, B0⟩
  by_cases h3 : op = 3 ∨ op = 4
  · have HX := hide (show rangeV n S m k ⟨op, arg⟩ = decide (arg < S) by unfold rangeV; rw [if_neg h1, if_neg h2, if_pos h3])
    rcases h3 with rfl | rfl
    all_goals
      go_enter Tryd.func34, Tryd.ntmps34
      go_wp2_with fail
      go_region
      all_goals
        go_wp2_with fail
        go_ret
        rw [unhide HX]
        exact ⟨rfl, B0.drew⟩
  by_cases h22 : op = 22 ∨ op = 23
  · have HX := hide (show rangeV n S m k ⟨op, arg⟩ = decide ((k : Int) < arg ∧ arg < m) by unfold rangeV; rw [if_neg h1, if_neg h2, if_neg h3, if_pos h22])
    by_cases hka : (k : Int) < arg
    · have HY := hide (show rangeV n S m k ⟨op, arg⟩ = decide (arg < m) by rw [unhide HX]; simp [hka])
      clear HX h1 h2 h3
      rcases h22 with rfl | rfl
      all_goals
        go_enter Tryd.func34, Tryd.ntmps34
        go_wp2_with fail
        go_region
        all_goals
          go_wp2_with fail
          go_ret
          rw [unhide HY]
          exact ⟨rfl, B0.drew⟩
    · have HY := hide (show rangeV n S m k ⟨op, arg⟩ = false by rw [unhide HX]; simp [hka])
      have hka2 : decide ((k : Int) < arg) = false := decide_eq_false hka
      clear HX h1 h2 h3
      rcases h22 with rfl | rfl
      all_goals
        go_enter Tryd.func34, Tryd.ntmps34
        go_wp2_with fail
        go_region
        all_goals
          go_wp2_with fail
          go_ret
          rw [unhide HY]
          exact ⟨rfl, B0.drew⟩
  · have HX := hide (show rangeV n S m k ⟨op, arg⟩ = true by unfold rangeV; rw [if_neg h1, if_neg h2, if_neg h3, if_neg h22])
    have e1 : (op == 1) = false := beq_eq_false_iff_ne.2 h1
    have e2 : (op == 2) = false := beq_eq_false_iff_ne.2 h2
    have e3 : (op == 3) = false := beq_eq_false_iff_ne.2 (fun e => h3 (.inl e))
    have e4 : (op == 4) = false := beq_eq_false_iff_ne.2 (fun e => h3 (.inr e))
    have e22 : (op == 22) = false := beq_eq_false_iff_ne.2 (fun e => h22 (.inl e))
    have e23 : (op == 23) = false := beq_eq_false_iff_ne.2 (fun e => h22 (.inr e))
    clear h1 h2 h3 h22
    go_enter Tryd.func34, Tryd.ntmps34
    go_wp2_with fail
    go_ret
    rw [unhide HX]
    exact ⟨rfl, B0⟩

end Go.Proofs.YteefbljehlepjaaDoor

/-
  The laws' helpers over tokens. Own work.
-/
import Derived.Test.YthndlhlafkldjacDoorTZ
import Derived.Test.YthndlhlafkldjacDoorMark
namespace Go.Proofs.YthndlhlafkldjacDoor
open Go.RowKit
set_option linter.unusedVariables false

set_option maxHeartbeats 800000 in
theorem eqToken_same (k m : Int) (x : ByteArray) (a : Int) (w : World) :
    Calls Tryd.prog 29 #[.agg #[.int .i64 k, .int .i64 m, .string x, .int .i64 a], .agg #[.int .i64 k, .int .i64 m, .string x, .int .i64 a]] w fun e w' => e = .returned (.bool true) ∧ Below w.heap.size w w' := by
  have B0 := ((Below.refl w.heap.size w).alloc (Nat.le_refl _) (.cells #[.int .i64 k, .int .i64 m, .string x, .int .i64 a] 49)).alloc (by simp) (.cells #[.int .i64 k, .int .i64 m, .string x, .int .i64 a] 49)
  go_enter Tryd.func29, Tryd.ntmps29
  go_wp2
  go_ret
  exact ⟨rfl, B0⟩

set_option maxHeartbeats 800000 in
theorem eqFault_same (c a : Int) (w : World) :
    Calls Tryd.prog 9 #[.agg #[.int .i64 c, .int .i64 a], .agg #[.int .i64 c, .int .i64 a]] w fun e w' => e = .returned (.bool true) ∧ Below w.heap.size w w' := by
  have B0 := ((Below.refl w.heap.size w).alloc (Nat.le_refl _) (.cells #[.int .i64 c, .int .i64 a] 24)).alloc (by simp) (.cells #[.int .i64 c, .int .i64 a] 24)
  go_enter Tryd.func9, Tryd.ntmps9
  go_wp2
  go_ret
  exact ⟨rfl, B0⟩

set_option maxHeartbeats 1600000 in
theorem eqTokenS_same (lo hi lo' hi' : Nat) (a a' : Option Addr) (n c c' : Nat) (T : List Tok) (w : World) (h : OwnT w lo hi a n c T) (h' : OwnT w lo' hi' a' n c' T) :
    Calls Tryd.prog 8 #[.slice a n c, .slice a' n c'] w fun e w' => e = .returned (.bool true) ∧ Below w.heap.size w w' := by
  have hl := h.len
  have hn := h.small
  have t1 := h.top
  have t2 := h'.top
  go_enter Tryd.func8, Tryd.ntmps8
  go_wp2
  go_loopw [5] (fun i wr => ∃ k : Nat, k ≤ n ∧ i = .int .i64 k ∧ Below w.heap.size w wr) (fun i _ => n - (intOf i).toNat)
  case atStart => exact ⟨0, Nat.zero_le _, rfl, Below.refl _ _⟩
  case round =>
    obtain ⟨k, hk, rfl, hb⟩ := hrel
    by_cases hlt : k < n
    · obtain ⟨g, rfl, _, _, hgw⟩ := h.form (by omega)
      obtain ⟨g', rfl, _, _, hgw'⟩ := h'.form (by omega)
      have hg : g < wr.heap.size := Nat.lt_of_lt_of_le hgw hb.size
      have hg' : g' < wr.heap.size := Nat.lt_of_lt_of_le hgw' hb.size
      obtain ⟨c0, c1, c2, c3⟩ := (h.below hb t1).cells k (by omega)
      obtain ⟨d0, d1, d2, d3⟩ := (h'.below hb t2).cells k (by omega)
      have ilt : (k : Int) < (n : Int) := by omega
      have Hk := hide hlt
      generalize T[k] = tk at c0 c1 c2 c3 d0 d1 d2 d3
      go_wp2_with fail
      go_region_held3 (fun w' => w'.cell? ⟨g, k * 4, none⟩ = some (.int .i64 tk.kind) ∧ w'.cell? ⟨g, k * 4 + 1, none⟩ = some (.int .i64 tk.num) ∧ w'.cell? ⟨g, k * 4 + 2, none⟩ = some (.string tk.text) ∧ w'.cell? ⟨g, k * 4 + 3, none⟩ = some (.int .i64 (tk.at_ : Int)) ∧ w'.cell? ⟨g', k * 4, none⟩ = some (.int .i64 tk.kind) ∧ w'.cell? ⟨g', k * 4 + 1, none⟩ = some (.int .i64 tk.num) ∧ w'.cell? ⟨g', k * 4 + 2, none⟩ = some (.string tk.text) ∧ w'.cell? ⟨g', k * 4 + 3, none⟩ = some (.int .i64 (tk.at_ : Int))) (go_keep)
        ((go_at_call 29; refine (eqToken_same _ _ _ _ _).mono ?_; rintro e w1 ⟨rfl, hb1⟩; have p0' := (hb1.cell (p := ⟨g, k * 4, none⟩) hg).trans c0; have p1' := (hb1.cell (p := ⟨g, k * 4 + 1, none⟩) hg).trans c1; have p2' := (hb1.cell (p := ⟨g, k * 4 + 2, none⟩) hg).trans c2; have p3' := (hb1.cell (p := ⟨g, k * 4 + 3, none⟩) hg).trans c3; have q0' := (hb1.cell (p := ⟨g', k * 4, none⟩) hg').trans d0; have q1' := (hb1.cell (p := ⟨g', k * 4 + 1, none⟩) hg').trans d1; have q2' := (hb1.cell (p := ⟨g', k * 4 + 2, none⟩) hg').trans d2; have q3' := (hb1.cell (p := ⟨g', k * 4 + 3, none⟩) hg').trans d3))
      all_goals
        go_wp2
        go_roundw
        case rel => exact ⟨k + 1, unhide Hk, by go_num, hb.drew.trans (hb1.mono hb.size)⟩
        case measure => have := unhide Hk; simp [intOf]; omega
    · go_wp2
      go_ret
      exact ⟨rfl, hb⟩

end Go.Proofs.YthndlhlafkldjacDoor

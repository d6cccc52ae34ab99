/-
  The laws' helpers over operations. Own work.
-/
import Derived.Test.YthdoakeocaegkaaDoorXH
import Derived.Test.YthdoakeocaegkaaDoorMarkT
namespace Go.Proofs.YthdoakeocaegkaaDoor
open Go.RowKit
set_option linter.unusedVariables false

set_option maxHeartbeats 800000 in
theorem eqOp_same (o : Op1) (w : World) :
    Calls Tryd.prog 13 #[.agg #[.int .i64 o.kind, .string o.name, .string o.other, .string o.text, .int .i64 o.num], .agg #[.int .i64 o.kind, .string o.name, .string o.other, .string o.text, .int .i64 o.num]] w fun e w' => e = .returned (.bool true) ∧ Below w.heap.size w w' := by
  have B0 := ((Below.refl w.heap.size w).alloc (Nat.le_refl _) (.cells #[.int .i64 o.kind, .string o.name, .string o.other, .string o.text, .int .i64 o.num] 31)).alloc (by simp) (.cells #[.int .i64 o.kind, .string o.name, .string o.other, .string o.text, .int .i64 o.num] 31)
  go_enter Tryd.func13, Tryd.ntmps13
  go_wp2
  go_ret
  exact ⟨rfl, B0⟩

set_option maxHeartbeats 1600000 in
theorem eqOpS_same (lo hi lo' hi' : Nat) (a a' : Option Addr) (n c c' : Nat) (T : List Op1) (w : World) (h : OwnO w lo hi a n c T) (h' : OwnO w lo' hi' a' n c' T) :
    Calls Tryd.prog 6 #[.slice a n c, .slice a' n c'] w fun e w' => e = .returned (.bool true) ∧ Below w.heap.size w w' := by
  have hl := h.len
  have hn := h.small
  have t1 := h.top
  have t2 := h'.top
  go_enter Tryd.func6, Tryd.ntmps6
  go_wp2
  go_loopw [5] (fun i wr => ∃ k : Nat, k ≤ n ∧ i = .int .i64 k ∧ Below w.heap.size w wr) (fun i _ => n - (intOf i).toNat)
  case atStart => exact ⟨0, Nat.zero_le _, rfl, Below.refl _ _⟩
  case round =>
    obtain ⟨k, hk, rfl, hb⟩ := hrel
    by_cases hlt : k < n
    · obtain ⟨g, rfl, _, _, hgw⟩ := h.form (by omega)
      obtain ⟨g', rfl, _, _, hgw'⟩ := h'.form (by omega)
      have hg : g < wr.heap.size := Nat.lt_of_lt_of_le hgw hb.size
      have hg' : g' < wr.heap.size := Nat.lt_of_lt_of_le hgw' hb.size
      obtain ⟨c0, c1, c2, c3, c4⟩ := (h.below hb t1).cells k (by omega)
      obtain ⟨d0, d1, d2, d3, d4⟩ := (h'.below hb t2).cells k (by omega)
      have ilt : (k : Int) < (n : Int) := by omega
      have Hk := hide hlt
      generalize T[k] = tk at c0 c1 c2 c3 c4 d0 d1 d2 d3 d4
      go_wp2_with fail
      go_region_held3 (fun w' => w'.cell? ⟨g, k * 5, none⟩ = some (.int .i64 tk.kind) ∧ w'.cell? ⟨g, k * 5 + 1, none⟩ = some (.string tk.name) ∧ w'.cell? ⟨g, k * 5 + 2, none⟩ = some (.string tk.other) ∧ w'.cell? ⟨g, k * 5 + 3, none⟩ = some (.string tk.text) ∧ w'.cell? ⟨g, k * 5 + 4, none⟩ = some (.int .i64 tk.num) ∧ w'.cell? ⟨g', k * 5, none⟩ = some (.int .i64 tk.kind) ∧ w'.cell? ⟨g', k * 5 + 1, none⟩ = some (.string tk.name) ∧ w'.cell? ⟨g', k * 5 + 2, none⟩ = some (.string tk.other) ∧ w'.cell? ⟨g', k * 5 + 3, none⟩ = some (.string tk.text) ∧ w'.cell? ⟨g', k * 5 + 4, none⟩ = some (.int .i64 tk.num)) (go_keep)
        ((go_at_call 13; refine (eqOp_same tk _).mono ?_; rintro e w1 ⟨rfl, hb1⟩; have p0' := (hb1.cell (p := ⟨g, k * 5, none⟩) hg).trans c0; have q0' := (hb1.cell (p := ⟨g', k * 5, none⟩) hg').trans d0; have p1' := (hb1.cell (p := ⟨g, k * 5 + 1, none⟩) hg).trans c1; have q1' := (hb1.cell (p := ⟨g', k * 5 + 1, none⟩) hg').trans d1; have p2' := (hb1.cell (p := ⟨g, k * 5 + 2, none⟩) hg).trans c2; have q2' := (hb1.cell (p := ⟨g', k * 5 + 2, none⟩) hg').trans d2; have p3' := (hb1.cell (p := ⟨g, k * 5 + 3, none⟩) hg).trans c3; have q3' := (hb1.cell (p := ⟨g', k * 5 + 3, none⟩) hg').trans d3; have p4' := (hb1.cell (p := ⟨g, k * 5 + 4, none⟩) hg).trans c4; have q4' := (hb1.cell (p := ⟨g', k * 5 + 4, none⟩) hg').trans d4))
      all_goals
        go_wp2
        go_roundw
        case rel => exact ⟨k + 1, unhide Hk, by go_num, hb.drew.trans (hb1.mono hb.size)⟩
        case measure => have := unhide Hk; simp [intOf]; omega
    · go_wp2
      go_ret
      exact ⟨rfl, hb⟩

end Go.Proofs.YthdoakeocaegkaaDoor

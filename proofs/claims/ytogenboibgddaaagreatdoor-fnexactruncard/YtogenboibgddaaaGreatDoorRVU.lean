/-
  The model's machine: attributes. Own work.
-/
import Derived.Test.YtogenboibgddaaaGreatDoorMXAL
namespace Go.Proofs.YtogenboibgddaaaGreatDoor
open Go.RowKit
set_option linter.unusedVariables false

set_option maxRecDepth 100000 in
set_option maxHeartbeats 1600000 in
theorem l6attr_any (R : Rq) (k : Int) (hk : 0 ≤ k ∧ k ≤ 5) (a1 : Option Addr) (n1 c1 : Nat) (a2 : Option Addr) (n2 c2 : Nat) (w : World) (hS : Strs w a1 n1 c1 R.s1) (hS2 : Strs w a2 n2 c2 R.s2) (hz : ZS w a1 c1) (hz2 : ZS w a2 c2) (hl : I64 R.lv ∧ I64 R.nw ∧ R.s1.length ≤ 1048576 ∧ R.s2.length ≤ 1048576) :
    Calls Tryz.prog 45 #[.agg #[.string R.cl, .string R.us, .int .i64 R.lv, .int .i64 R.nw, .slice a1 n1 c1, .slice a2 n2 c2], .int .i64 k] w (MAns (.ok (attrV R k)) w) := by
  have BB : ∀ cs ds es, Below w.heap.size w (((w.alloc (.cells cs 41)).alloc (.cells ds 90)).alloc (.cells es 90)) := fun cs ds es => (((Below.refl w.heap.size w).alloc (Nat.le_refl _) _).alloc (by simp) _).alloc (by simp; omega) _
  have HS := hide (And.intro hS (And.intro hS2 (And.intro hz hz2)))
  have HL := hide hl
  clear hS hS2 hz hz2 hl
  rcases (show k = 0 ∨ k = 1 ∨ k = 2 ∨ k = 3 ∨ k = 4 ∨ k = 5 by omega) with rfl | rfl | rfl | rfl | rfl | rfl
  all_goals clear hk
  · go_enter Tryz.func45, Tryz.ntmps45
    go_wp2_with fail
    refine bodyPost_ret (v := .agg #[.int .i64 0, .int .i64 0, .string R.cl, .slice none 0 0]) (by simp [results, Tryz.results45, go_sem]) rfl ⟨⟨_, _, _, _, _, _, rfl, rfl, rfl, rfl, rfl, rfl, rfl⟩, BB _ _ _⟩
  · go_enter Tryz.func45, Tryz.ntmps45
    go_wp2_with fail
    refine bodyPost_ret (v := .agg #[.int .i64 0, .int .i64 0, .string R.us, .slice none 0 0]) (by simp [results, Tryz.results45, go_sem]) rfl ⟨⟨_, _, _, _, _, _, rfl, rfl, rfl, rfl, rfl, rfl, rfl⟩, BB _ _ _⟩
  · go_enter Tryz.func45, Tryz.ntmps45
    go_wp2_with fail
    refine bodyPost_ret (v := .agg #[.int .i64 0, .int .i64 R.lv, .string ⟨#[]⟩, .slice none 0 0]) (by simp [results, Tryz.results45, go_sem]) rfl ⟨⟨_, _, _, _, _, _, rfl, rfl, ⟨rfl, (unhide HL).1⟩, rfl, rfl, rfl, rfl⟩, BB _ _ _⟩
  · go_enter Tryz.func45, Tryz.ntmps45
    go_wp2_with fail
    refine bodyPost_ret (v := .agg #[.int .i64 0, .int .i64 R.nw, .string ⟨#[]⟩, .slice none 0 0]) (by simp [results, Tryz.results45, go_sem]) rfl ⟨⟨_, _, _, _, _, _, rfl, rfl, ⟨rfl, (unhide HL).2.1⟩, rfl, rfl, rfl, rfl⟩, BB _ _ _⟩
  · go_enter Tryz.func45, Tryz.ntmps45
    go_wp2_with fail
    refine bodyPost_ret (v := .agg #[.int .i64 0, .int .i64 0, .string ⟨#[]⟩, .slice a1 n1 c1]) (by simp [results, Tryz.results45, go_sem]) rfl ⟨⟨_, _, _, _, _, _, rfl, rfl, rfl, rfl, (unhide HS).1.below (BB _ _ _) (Nat.le_refl _), (unhide HL).2.2.1, (unhide HS).2.2.1.below (BB _ _ _) (Nat.le_refl _)⟩, BB _ _ _⟩
  · go_enter Tryz.func45, Tryz.ntmps45
    go_wp2_with fail
    refine bodyPost_ret (v := .agg #[.int .i64 0, .int .i64 0, .string ⟨#[]⟩, .slice a2 n2 c2]) (by simp [results, Tryz.results45, go_sem]) rfl ⟨⟨_, _, _, _, _, _, rfl, rfl, rfl, rfl, (unhide HS).2.1.below (BB _ _ _) (Nat.le_refl _), (unhide HL).2.2.2, (unhide HS).2.2.2.below (BB _ _ _) (Nat.le_refl _)⟩, BB _ _ _⟩

set_option maxRecDepth 100000 in
theorem l6pops_any (op : Int) (w : World) : Calls Tryz.prog 46 #[.int .i64 op] w fun r w' => r = .returned (.int .i64 (if op ≤ 7 then 1 else 2)) ∧ w' = w := by
  by_cases h : op ≤ 7
  · rw [if_pos h]
    go_enter Tryz.func46, Tryz.ntmps46
    go_wp2_with fail
    go_ret
    exact ⟨rfl, rfl⟩
  · rw [if_neg h]
    go_enter Tryz.func46, Tryz.ntmps46
    go_wp2_with fail
    go_ret
    exact ⟨rfl, rfl⟩

theorem l6pops1 (op : Int) (h : op ≤ 7) (w : World) : Calls Tryz.prog 46 #[.int .i64 op] w fun r w' => r = .returned (.int .i64 1) ∧ w' = w := by
  have q := l6pops_any op w
  rw [if_pos h] at q
  exact q

theorem l6pops2 (op : Int) (h : ¬ op ≤ 7) (w : World) : Calls Tryz.prog 46 #[.int .i64 op] w fun r w' => r = .returned (.int .i64 2) ∧ w' = w := by
  have q := l6pops_any op w
  rw [if_neg h] at q
  exact q

end Go.Proofs.YtogenboibgddaaaGreatDoor

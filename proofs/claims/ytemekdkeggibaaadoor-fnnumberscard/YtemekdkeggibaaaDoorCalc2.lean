/-
  Checked arithmetic: the code of an error, and Calc itself. Own work.
-/
import Derived.Test.YtemekdkeggibaaaDoorCalc1
namespace Go.Proofs.YtemekdkeggibaaaDoor
open Go.RowKit
variable {aS aO aZ aW : Addr}

theorem is_other' {a b : Addr} {w : World} (hne : a ≠ b) (ha : ∃ c t, w.heap[a.block]? = some (.cells c t (0, 0))) (hb : ∃ c t, w.heap[b.block]? = some (.cells c t (0, 0))) :
    Calls Tryd.prog 21 #[.iface 66 (.pointer (some a)), .iface 66 (.pointer (some b))] w fun e w' => e = .returned (.bool false) ∧ w' = w := by
  obtain ⟨c, t, ha⟩ := ha
  obtain ⟨c', t', hb⟩ := hb
  exact is_other a b c c' t t' w hne ha hb

set_option maxHeartbeats 800000 in
theorem evalCode_0 (w : World) :
    Calls Tryd.prog 13 #[.nilIface] w fun e w' => e = .returned (.int .i64 0) ∧ w' = w := by
  go_enter Tryd.func13, Tryd.ntmps13
  go_wp2
  go_ret
  exact ⟨rfl, rfl⟩

set_option maxHeartbeats 800000 in
theorem evalCode_1 (w : World) (hs : Sent w aS aO aZ aW) :
    Calls Tryd.prog 13 #[.iface 66 (.pointer (some aO))] w fun e w' => e = .returned (.int .i64 1) ∧ w' = w := by
  have hg := hs.g1
  go_enter Tryd.func13, Tryd.ntmps13
  go_wp2_with fail
  refine (is_same aO w).mono ?_
  rintro e w' ⟨rfl, rfl⟩
  go_wp2_with fail
  go_ret
  exact ⟨rfl, rfl⟩

set_option maxHeartbeats 800000 in
theorem evalCode_2 (w : World) (hs : Sent w aS aO aZ aW) :
    Calls Tryd.prog 13 #[.iface 66 (.pointer (some aZ))] w fun e w' => e = .returned (.int .i64 2) ∧ w' = w := by
  have hg := hs.g1
  have hg2 := hs.g2
  go_enter Tryd.func13, Tryd.ntmps13
  go_wp2_with fail
  refine (is_other' (fun e => hs.nOZ e.symm) hs.rZ hs.rO).mono ?_
  rintro e w' ⟨rfl, rfl⟩
  go_wp2_with fail
  refine (is_same aZ _).mono ?_
  rintro e w' ⟨rfl, rfl⟩
  go_wp2_with fail
  go_ret
  exact ⟨rfl, rfl⟩

set_option maxHeartbeats 800000 in
theorem evalCode_3 (w : World) (hs : Sent w aS aO aZ aW) :
    Calls Tryd.prog 13 #[.iface 66 (.pointer (some aW))] w fun e w' => e = .returned (.int .i64 3) ∧ w' = w := by
  have hg := hs.g1
  have hg2 := hs.g2
  have hg3 := hs.g3
  go_enter Tryd.func13, Tryd.ntmps13
  go_wp2_with fail
  refine (is_other' (fun e => hs.nOW e.symm) hs.rW hs.rO).mono ?_
  rintro e w' ⟨rfl, rfl⟩
  go_wp2_with fail
  refine (is_other' (fun e => hs.nZW e.symm) hs.rW hs.rZ).mono ?_
  rintro e w' ⟨rfl, rfl⟩
  go_wp2_with fail
  refine (is_same aW _).mono ?_
  rintro e w' ⟨rfl, rfl⟩
  go_wp2_with fail
  go_ret
  exact ⟨rfl, rfl⟩

set_option maxHeartbeats 800000 in
theorem evalCode_4 (w : World) (hs : Sent w aS aO aZ aW) :
    Calls Tryd.prog 13 #[.iface 66 (.pointer (some aS))] w fun e w' => e = .returned (.int .i64 4) ∧ w' = w := by
  have hg := hs.g1
  have hg2 := hs.g2
  have hg3 := hs.g3
  go_enter Tryd.func13, Tryd.ntmps13
  go_wp2_with fail
  refine (is_other' hs.nSO hs.rS hs.rO).mono ?_
  rintro e w' ⟨rfl, rfl⟩
  go_wp2_with fail
  refine (is_other' hs.nSZ hs.rS hs.rZ).mono ?_
  rintro e w' ⟨rfl, rfl⟩
  go_wp2_with fail
  refine (is_other' hs.nSW hs.rS hs.rW).mono ?_
  rintro e w' ⟨rfl, rfl⟩
  go_wp2_with fail
  go_ret
  exact ⟨rfl, rfl⟩

theorem evalCode_any (c : Int) (w : World) (hs : Sent w aS aO aZ aW) (hc : 0 ≤ c ∧ c ≤ 4) :
    Calls Tryd.prog 13 #[errV aS aO aZ aW c] w fun e w' => e = .returned (.int .i64 c) ∧ w' = w := by
  have h : c = 0 ∨ c = 1 ∨ c = 2 ∨ c = 3 ∨ c = 4 := by omega
  rcases h with rfl | rfl | rfl | rfl | rfl
  · exact evalCode_0 w
  · exact evalCode_1 w hs
  · exact evalCode_2 w hs
  · exact evalCode_3 w hs
  · exact evalCode_4 w hs

theorem fit_code (v : Int) : 0 ≤ (fit v).2 ∧ (fit v).2 ≤ 4 := by unfold fit; split <;> simp
theorem calcF_code (op a b : Int) : 0 ≤ (calcF op a b).2 ∧ (calcF op a b).2 ≤ 4 := by
  unfold calcF divF modF
  repeat' split
  all_goals first | exact fit_code _ | simp

set_option maxHeartbeats 800000 in
theorem iCalc_any (op a b : Int) (w : World) (hs : Sent w aS aO aZ aW) (ha : I64 a) (hb : I64 b) :
    Calls Tryd.prog 6 #[.int .i64 op, .int .i64 a, .int .i64 b] w fun e w' => e = .returned (.tuple #[.int .i64 (calcF op a b).1, .int .i64 (calcF op a b).2]) ∧ Below w.heap.size w w' := by
  have hc := calcF_code op a b
  go_enter Tryd.func6, Tryd.ntmps6
  go_wp2_with fail
  refine (calculate_any op a b w hs ha hb).mono ?_
  rintro e w1 ⟨rfl, hb1⟩
  rw [pairV]
  generalize hp : calcF op a b = p at *
  have Hp := hide hp
  clear hp
  go_wp2_with fail
  refine (evalCode_any p.2 w1 (hs.below hb1 (Nat.le_refl _)) hc).mono ?_
  rintro e w' ⟨rfl, rfl⟩
  go_wp2_with fail
  go_ret2
  exact ⟨by first | rfl | (rw [unhide Hp]; rfl), hb1⟩

end Go.Proofs.YtemekdkeggibaaaDoor

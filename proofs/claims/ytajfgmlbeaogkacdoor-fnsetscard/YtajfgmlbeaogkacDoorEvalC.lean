/-
  The code of an error. Own work.
-/
import Derived.Test.YtajfgmlbeaogkacDoorSent
import Derived.Test.YtajfgmlbeaogkacDoorIs
import Derived.WalkSpells
import Derived.WalkLawsBesides
namespace Go.Proofs.YtajfgmlbeaogkacDoor
open Go.RowKit
variable {aS aO aZ aW : Addr}

theorem is_other' {a b : Addr} {w : World} (hne : a ≠ b) (ha : ∃ c t, w.heap[a.block]? = some (.cells c t (0, 0))) (hb : ∃ c t, w.heap[b.block]? = some (.cells c t (0, 0))) :
    Calls Tryd.prog 75 #[.iface 184 (.pointer (some a)), .iface 184 (.pointer (some b))] w fun e w' => e = .returned (.bool false) ∧ w' = w := by
  obtain ⟨c, t, ha⟩ := ha
  obtain ⟨c', t', hb⟩ := hb
  exact is_other a b c c' t t' w hne ha hb

set_option maxHeartbeats 800000 in
theorem evalCode_0 (w : World) :
    Calls Tryd.prog 46 #[.nilIface] w fun e w' => e = .returned (.int .i64 0) ∧ w' = w := by
  go_enter Tryd.func46, Tryd.ntmps46
  go_wp2
  go_ret
  exact ⟨rfl, rfl⟩

set_option maxHeartbeats 800000 in
theorem evalCode_1 (w : World) (hs : Sent w aS aO aZ aW) :
    Calls Tryd.prog 46 #[.iface 184 (.pointer (some aO))] w fun e w' => e = .returned (.int .i64 1) ∧ w' = w := by
  have hg := hs.g1
  go_enter Tryd.func46, Tryd.ntmps46
  go_wp2_with fail
  refine (is_same aO w).mono ?_
  rintro e w' ⟨rfl, rfl⟩
  go_wp2_with fail
  go_ret
  exact ⟨rfl, rfl⟩

set_option maxHeartbeats 800000 in
theorem evalCode_2 (w : World) (hs : Sent w aS aO aZ aW) :
    Calls Tryd.prog 46 #[.iface 184 (.pointer (some aZ))] w fun e w' => e = .returned (.int .i64 2) ∧ w' = w := by
  have hg := hs.g1
  have hg2 := hs.g2
  go_enter Tryd.func46, Tryd.ntmps46
  go_wp2_with fail
  refine (is_other' (fun e => hs.nOZ e.symm) hs.rZ hs.rO).mono ?_
  rintro e w' ⟨rfl, rfl⟩
  go_wp2_with fail
  refine (is_same aZ _).mono ?_
  rintro e w' ⟨rfl, rfl⟩
  go_wp2_with fail
  go_ret
  exact ⟨rfl, rfl⟩

set_option maxHeartbeats 800000 in
theorem evalCode_3 (w : World) (hs : Sent w aS aO aZ aW) :
    Calls Tryd.prog 46 #[.iface 184 (.pointer (some aW))] w fun e w' => e = .returned (.int .i64 3) ∧ w' = w := by
  have hg := hs.g1
  have hg2 := hs.g2
  have hg3 := hs.g3
  go_enter Tryd.func46, Tryd.ntmps46
  go_wp2_with fail
  refine (is_other' (fun e => hs.nOW e.symm) hs.rW hs.rO).mono ?_
  rintro e w' ⟨rfl, rfl⟩
  go_wp2_with fail
  refine (is_other' (fun e => hs.nZW e.symm) hs.rW hs.rZ).mono ?_
  rintro e w' ⟨rfl, rfl⟩
  go_wp2_with fail
  refine (is_same aW _).mono ?_
  rintro e w' ⟨rfl, rfl⟩
  go_wp2_with fail
  go_ret
  exact ⟨rfl, rfl⟩

set_option maxHeartbeats 800000 in
theorem evalCode_4 (w : World) (hs : Sent w aS aO aZ aW) :
    Calls Tryd.prog 46 #[.iface 184 (.pointer (some aS))] w fun e w' => e = .returned (.int .i64 4) ∧ w' = w := by
  have hg := hs.g1
  have hg2 := hs.g2
  have hg3 := hs.g3
  go_enter Tryd.func46, Tryd.ntmps46
  go_wp2_with fail
  refine (is_other' hs.nSO hs.rS hs.rO).mono ?_
  rintro e w' ⟨rfl, rfl⟩
  go_wp2_with fail
  refine (is_other' hs.nSZ hs.rS hs.rZ).mono ?_
  rintro e w' ⟨rfl, rfl⟩
  go_wp2_with fail
  refine (is_other' hs.nSW hs.rS hs.rW).mono ?_
  rintro e w' ⟨rfl, rfl⟩
  go_wp2_with fail
  go_ret
  exact ⟨rfl, rfl⟩

theorem evalCode_any (c : Int) (w : World) (hs : Sent w aS aO aZ aW) (hc : 0 ≤ c ∧ c ≤ 4) :
    Calls Tryd.prog 46 #[errV aS aO aZ aW c] w fun e w' => e = .returned (.int .i64 c) ∧ w' = w := by
  have h : c = 0 ∨ c = 1 ∨ c = 2 ∨ c = 3 ∨ c = 4 := by omega
  rcases h with rfl | rfl | rfl | rfl | rfl
  · exact evalCode_0 w
  · exact evalCode_1 w hs
  · exact evalCode_2 w hs
  · exact evalCode_3 w hs
  · exact evalCode_4 w hs

end Go.Proofs.YtajfgmlbeaogkacDoor

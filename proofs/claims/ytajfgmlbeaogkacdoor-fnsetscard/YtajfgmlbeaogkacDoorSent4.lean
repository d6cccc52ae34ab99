/-
  The row's list of the four sentinels: what it gives a walk; a world that meets it. After the guide's law for two. Own work.
-/
import Derived.Test.YtajfgmlbeaogkacDoorSent
import Derived.RowKitTokens
import Derived.ProofKit
import Derived.LaidMore
import Derived.OpenShut
import Derived.Stop.Joined
import Derived.Stop.LaidErr
import Derived.WalkSmall
namespace Go.Proofs.YtajfgmlbeaogkacDoor
open Go.ChangeShapes Go.WideShapes Go.ChangeAt Go.RowKit

abbrev laid4 : List (String × DataW Unit) := [("loop.example/s01308/impl.errOverflow", Rows.laid_loop_example_s01308_impl_errOverflow), ("loop.example/s01308/impl.errZero", Rows.laid_loop_example_s01308_impl_errZero), ("loop.example/s01308/impl.errWidth", Rows.laid_loop_example_s01308_impl_errWidth), ("loop.example/s01308/impl.errShape", Rows.laid_loop_example_s01308_impl_errShape)]

theorem gShape : Tryd.prog.globalNamed "loop.example/s01308/impl.errShape" = some 1 := by kernel_rfl
theorem gOver : Tryd.prog.globalNamed "loop.example/s01308/impl.errOverflow" = some 3 := by kernel_rfl
theorem gZero : Tryd.prog.globalNamed "loop.example/s01308/impl.errZero" = some 4 := by kernel_rfl
theorem gWide : Tryd.prog.globalNamed "loop.example/s01308/impl.errWidth" = some 2 := by kernel_rfl
theorem tShape : (Tryd.prog.globals[1]?).map (·.type) = some 53 := by kernel_rfl
theorem tOver : (Tryd.prog.globals[3]?).map (·.type) = some 53 := by kernel_rfl
theorem tZero : (Tryd.prog.globals[4]?).map (·.type) = some 53 := by kernel_rfl
theorem tWide : (Tryd.prog.globals[2]?).map (·.type) = some 53 := by kernel_rfl
theorem row66 : ∀ u, Tryd.prog.typeName? 3 u = some "*errors.errorString" → u = 184 :=
  typeName_ptr_named (nm := "errors.errorString") (by kernel_rfl) (by kernel_rfl) (by decide)
theorem cells91 : Tryd.prog.cellsOf 186 = 1 := by kernel_rfl
theorem cells9 : Tryd.prog.cellsOf 9 = 1 := by kernel_rfl

/-- The door's own heap meets the condition. -/
theorem door_met (os : Os) (args : Array Value) : laidMetH Tryd.prog laid4 ((World.doorLaid Tryd.prog 250 os).forCall (fun _ _ => 0) ⟨#[], args, []⟩).memory :=
  laidMetH_of_parts3 (fuel := 8) (laidMet_of_run' 8 (by kernel_rfl) (by kernel_rfl)) (by kernel_rfl) (by kernel_rfl)

set_option maxRecDepth 100000 in
/-- What the condition gives the walks, and that the variables read so. -/
theorem sent_of_laid {W : World} (h0 : laidMetH Tryd.prog laid4 W) : ∃ aS aO aZ aW, Sent W aS aO aZ aW ∧
    W.var? Tryd.prog "loop.example/s01308/impl.errShape" = some #[.iface 184 (.pointer (some aS))] ∧ W.var? Tryd.prog "loop.example/s01308/impl.errOverflow" = some #[.iface 184 (.pointer (some aO))] ∧
    W.var? Tryd.prog "loop.example/s01308/impl.errZero" = some #[.iface 184 (.pointer (some aZ))] ∧ W.var? Tryd.prog "loop.example/s01308/impl.errWidth" = some #[.iface 184 (.pointer (some aW))] := by
  rw [MakeChecks.laidMetH_plain _ _ _ (by kernel_rfl)] at h0
  obtain ⟨ps, ⟨g0, t0, cs0, f0, p0, q0, hg0, ht0, hv0, hd0, ⟨g1, t1, cs1, f1, p1, q1, hg1, ht1, hv1, hd1, ⟨g2, t2, cs2, f2, p2, q2, hg2, ht2, hv2, hd2, ⟨g3, t3, cs3, f3, p3, q3, hg3, ht3, hv3, hd3, hq3, e3⟩, e2⟩, e1⟩, e0⟩, hnd, hrows⟩ := h0
  obtain rfl := Option.some.inj (gOver.symm.trans hg0)
  obtain rfl := Option.some.inj (gZero.symm.trans hg1)
  obtain rfl := Option.some.inj (gWide.symm.trans hg2)
  obtain rfl := Option.some.inj (gShape.symm.trans hg3)
  obtain rfl := Option.some.inj (tOver.symm.trans ht0)
  obtain rfl := Option.some.inj (tZero.symm.trans ht1)
  obtain rfl := Option.some.inj (tWide.symm.trans ht2)
  obtain rfl := Option.some.inj (tShape.symm.trans ht3)
  subst e3
  subst e2
  subst e1
  subst e0
  obtain ⟨l0⟩ := cs0
  obtain ⟨l1⟩ := cs1
  obtain ⟨l2⟩ := cs2
  obtain ⟨l3⟩ := cs3
  have ok0 : ∀ u v, l0 = [.iface u v] → Value.okWide Tryd.prog W .any 0 u v := fun u v e => by
    subst e
    exact (hrows 3 0 (by simp [MemPlace.row])).2 u v (by simpa using World.var?_cell hg0 hv0 0)
  have ok1 : ∀ u v, l1 = [.iface u v] → Value.okWide Tryd.prog W .any 0 u v := fun u v e => by
    subst e
    exact (hrows 4 0 (by simp [MemPlace.row])).2 u v (by simpa using World.var?_cell hg1 hv1 0)
  have ok2 : ∀ u v, l2 = [.iface u v] → Value.okWide Tryd.prog W .any 0 u v := fun u v e => by
    subst e
    exact (hrows 2 0 (by simp [MemPlace.row])).2 u v (by simpa using World.var?_cell hg2 hv2 0)
  have ok3 : ∀ u v, l3 = [.iface u v] → Value.okWide Tryd.prog W .any 0 u v := fun u v e => by
    subst e
    exact (hrows 1 0 (by simp [MemPlace.row])).2 u v (by simpa using World.var?_cell hg3 hv3 0)
  obtain ⟨aO, s0, rfl, hc0, _, _, rfl⟩ := errorString_of_trod Tryd.underlying53 row66 Tryd.underlying184 Tryd.underlying186 rfl rfl Tryd.underlying9 cells91 cells9 hd0 ok0
  obtain ⟨aZ, s1, rfl, hc1, _, _, rfl⟩ := errorString_of_trod Tryd.underlying53 row66 Tryd.underlying184 Tryd.underlying186 rfl rfl Tryd.underlying9 cells91 cells9 hd1 ok1
  obtain ⟨aW, s2, rfl, hc2, _, _, rfl⟩ := errorString_of_trod Tryd.underlying53 row66 Tryd.underlying184 Tryd.underlying186 rfl rfl Tryd.underlying9 cells91 cells9 hd2 ok2
  obtain ⟨aS, s3, rfl, hc3, _, _, rfl⟩ := errorString_of_trod Tryd.underlying53 row66 Tryd.underlying184 Tryd.underlying186 rfl rfl Tryd.underlying9 cells91 cells9 hd3 ok3
  have rO := (hrows aO.block aO.off (by simp [MemPlace.row])).1
  have rZ := (hrows aZ.block aZ.off (by simp [MemPlace.row])).1
  have rW := (hrows aW.block aW.off (by simp [MemPlace.row])).1
  have rS := (hrows aS.block aS.off (by simp [MemPlace.row])).1
  have b3 := (hrows 4 0 (by simp [MemPlace.row])).1
  refine ⟨aS, aO, aZ, aW, ⟨by simpa using World.var?_cell hg3 hv3 0, by simpa using World.var?_cell hg0 hv0 0, by simpa using World.var?_cell hg1 hv1 0, by simpa using World.var?_cell hg2 hv2 0, ?_, rS, rO, rZ, rW, ?_, ?_, ?_, ?_, ?_, ?_⟩, hv3, hv0, hv1, hv2⟩
  · obtain ⟨c, t, hb⟩ := b3
    have := (Array.getElem?_eq_some_iff.1 hb).1
    omega
  all_goals (rintro rfl; simp [MemPlace.row] at hnd)

theorem gv0 : Tryd.prog.globalNamed "loop.example/s01308/impl.errShape" = some 1 := by kernel_rfl
theorem gv1 : Tryd.prog.globalNamed "loop.example/s01308/impl.errWidth" = some 2 := by kernel_rfl
theorem gv2 : Tryd.prog.globalNamed "loop.example/s01308/impl.errOverflow" = some 3 := by kernel_rfl
theorem gv3 : Tryd.prog.globalNamed "loop.example/s01308/impl.errZero" = some 4 := by kernel_rfl
theorem tv0 : (Tryd.prog.globals[1]?).map (·.type) = some 53 := by kernel_rfl
theorem tv1 : (Tryd.prog.globals[2]?).map (·.type) = some 53 := by kernel_rfl
theorem tv2 : (Tryd.prog.globals[3]?).map (·.type) = some 53 := by kernel_rfl
theorem tv3 : (Tryd.prog.globals[4]?).map (·.type) = some 53 := by kernel_rfl

/-- The four variables read as tokens. -/
theorem vars_read4 {H : Type} (enc : TypeId × Value → H) {W : World} {x0 x1 x2 x3 : Value} (h0 : W.var? Tryd.prog "loop.example/s01308/impl.errShape" = some #[x0]) (h1 : W.var? Tryd.prog "loop.example/s01308/impl.errWidth" = some #[x1])
    (h2 : W.var? Tryd.prog "loop.example/s01308/impl.errOverflow" = some #[x2]) (h3 : W.var? Tryd.prog "loop.example/s01308/impl.errZero" = some #[x3]) (i0 : IsIface x0) (i1 : IsIface x1) (i2 : IsIface x2) (i3 : IsIface x3) (sp : Nat → Bool) :
    DataW.TrodVars enc Tryd.prog W sp ["loop.example/s01308/impl.errShape", "loop.example/s01308/impl.errWidth", "loop.example/s01308/impl.errOverflow", "loop.example/s01308/impl.errZero"] [tok enc x0, tok enc x1, tok enc x2, tok enc x3] [.cell 1 0, .cell 2 0, .cell 3 0, .cell 4 0] :=
  ⟨1, 53, #[x0], 1, [], [.cell 2 0, .cell 3 0, .cell 4 0], gv0, tv0, h0, trod_held Tryd.underlying53 i0 0, ⟨2, 53, #[x1], 1, [], [.cell 3 0, .cell 4 0], gv1, tv1, h1, trod_held Tryd.underlying53 i1 0, ⟨3, 53, #[x2], 1, [], [.cell 4 0], gv2, tv2, h2, trod_held Tryd.underlying53 i2 0, ⟨4, 53, #[x3], 1, [], [], gv3, tv3, h3, trod_held Tryd.underlying53 i3 0, rfl, rfl⟩, rfl⟩, rfl⟩, rfl⟩

end Go.Proofs.YtajfgmlbeaogkacDoor

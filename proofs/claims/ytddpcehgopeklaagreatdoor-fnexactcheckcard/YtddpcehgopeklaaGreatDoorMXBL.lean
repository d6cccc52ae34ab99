/-
  ECM, ECN. Own work.
-/
import Derived.Test.YtddpcehgopeklaaGreatDoorMXBK
import Derived.Test.YtddpcehgopeklaaGreatDoorMXBH
import Derived.Test.YtddpcehgopeklaaGreatDoorMXAV
import Derived.Test.YtddpcehgopeklaaGreatDoorMXAX
import Derived.Deep.RegionHeld3
namespace Go.Proofs.YtddpcehgopeklaaGreatDoor
open Go.RowKit
set_option linter.unusedVariables false

set_option maxHeartbeats 3200000 in
set_option maxRecDepth 100000 in
theorem rebuilt_nn (cb : Nat) (w0 : World) (j kd : Int) (nm : ByteArray) (V1 : Hid (RbV cb w0 .nilIface .nilIface)) (V2 : Hid (RbV cb w0 .nilIface .nilIface)) (w : World) (hw : Below w0.heap.size w0 w) :
    Calls Tryz.prog 44 #[.agg #[.int .i64 j, .int .i64 kd, .string nm, .nilIface, .nilIface], .func (.func 45) #[.pointer (some ⟨cb, 0, none⟩)] #[]] w fun r w' => r = .returned (.agg #[.int .i64 j, .int .i64 kd, .string nm, .nilIface, .nilIface]) ∧ Below w.heap.size w w' := by
  have Hw := hide hw
  have hB := hw.size
  have B0 := ((Below.refl w.heap.size w).alloc (Nat.le_refl _) (.cells #[.int .i64 j, .int .i64 kd, .string nm, .nilIface, .nilIface] 90)).alloc (by simp) (.cells #[.int .i64 0, .int .i64 0, .string ⟨#[]⟩, .nilIface, .nilIface] 90)
  have R0 := (Row.new w #[.int .i64 j, .int .i64 kd, .string nm, .nilIface, .nilIface] 90).alloc (.cells #[.int .i64 0, .int .i64 0, .string ⟨#[]⟩, .nilIface, .nilIface] 90)
  have Z0 := Row.new (w.alloc (.cells #[.int .i64 j, .int .i64 kd, .string nm, .nilIface, .nilIface] 90)) #[.int .i64 0, .int .i64 0, .string ⟨#[]⟩, .nilIface, .nilIface] 90
  simp only [World.size_alloc] at Z0
  have hnm : (Tryz.f68.name == "runtime.NumGoroutine") = false := by kernel_rfl
  have hbd : Tryz.f68.body.isNone = false := by kernel_rfl
  clear hw
  have W0E : ∃ W0, W0 = (w.alloc (.cells #[.int .i64 j, .int .i64 kd, .string nm, .nilIface, .nilIface] 90)).alloc (.cells #[.int .i64 0, .int .i64 0, .string ⟨#[]⟩, .nilIface, .nilIface] 90) := ⟨_, rfl⟩
  go_enter Tryz.func44, Tryz.ntmps44
  go_wp2_with fail
  obtain ⟨W0, hW0⟩ := W0E
  rw [← hW0] at B0 R0 Z0 ⊢
  clear hW0
  have HW := hide ((unhide Hw).trans (B0.mono hB))
  have r2 : W0.cell? ⟨w.heap.size, 3, none⟩ = some .nilIface := R0.cell 3
  have r3 : W0.cell? ⟨w.heap.size, 4, none⟩ = some .nilIface := R0.cell 4
  have D0 : Below W0.heap.size W0 W0.drew := (Below.refl _ _).drew
  go_region_law (first
    | (refine step_callR2 rfl 68 _ Tryz.func68 hnm hbd _ _ _ rfl .nilIface (.func (.func 45) #[.pointer (some ⟨cb, 0, none⟩)] #[]) rfl rfl (fun v' w' => v' = .nilIface ∧ Below W0.heap.size W0 w') ((unhide V1 W0.drew (unhide HW).drew).mono (fun r w' h => ⟨_, h.1, rfl, D0.trans h.2⟩)) ?_; rintro v1 w1 ⟨rfl, hb1⟩; have R1 := R0.after hb1 (Nat.le_refl _); have Z1 := Z0.after hb1 (Nat.le_refl _); have s3 : w1.cell? ⟨w.heap.size, 4, none⟩ = some .nilIface := R1.cell 4; have B1 := B0.trans (hb1.mono B0.size))
    | (refine step_callR2 rfl 68 _ Tryz.func68 hnm hbd _ _ _ rfl .nilIface (.func (.func 45) #[.pointer (some ⟨cb, 0, none⟩)] #[]) rfl rfl (fun v' w' => v' = .nilIface ∧ Below w1.heap.size w1 w') ((unhide V2 w1 ((unhide Hw).trans (B1.mono hB))).mono (fun r w' h => ⟨_, h.1, rfl, h.2⟩)) ?_; rintro v2 w2 ⟨rfl, hb2⟩; have R2 := R1.after hb2 (Nat.le_refl _); have Z2 := Z1.after hb2 (Nat.le_refl _); have p2 : w2.cell? ⟨w.heap.size, 3, none⟩ = some .nilIface := R2.cell 3; have p3 : w2.cell? ⟨w.heap.size, 4, none⟩ = some .nilIface := R2.cell 4; have pf := fun k => R2.frozen k; have B2 := B1.trans (hb2.mono B1.size)))
  all_goals
    clear p2 p3 pf s3 r2 r3
    have R4 := (R2.set 3 .nilIface).set 4 .nilIface
    have Z4 := (Z2.setFar (p := ⟨w.heap.size, 3, none⟩) (by show w.heap.size + 1 ≠ w.heap.size; omega) .nilIface).setFar (p := ⟨w.heap.size, 4, none⟩) (by show w.heap.size + 1 ≠ w.heap.size; omega) .nilIface
    have B4 := (B2.setCell (p := ⟨w.heap.size, 3, none⟩) (Nat.le_refl _) .nilIface).setCell (p := ⟨w.heap.size, 4, none⟩) (Nat.le_refl _) .nilIface
    clear R2 Z2 B2 R1 Z1 B1 R0 Z0 B0
    generalize (w2.setCell ⟨w.heap.size, 3, none⟩ .nilIface).setCell ⟨w.heap.size, 4, none⟩ .nilIface = W3 at R4 Z4 B4 ⊢
    obtain ⟨q0, q1, q2, q3, q4⟩ := row5 R4
    obtain ⟨z0, z1, z2, z3, z4⟩ := row5 Z4
    have zf := fun k => Z4.frozen k
    go_wp2_with fail
    have Z5 := ((((Z4.set 0 (.int .i64 j)).set 1 (.int .i64 kd)).set 2 (.string nm)).set 3 .nilIface).set 4 .nilIface
    have B5 := ((((B4.setCell (p := ⟨w.heap.size + 1, 0, none⟩) (Nat.le_succ _) (.int .i64 j)).setCell (p := ⟨w.heap.size + 1, 1, none⟩) (Nat.le_succ _) (.int .i64 kd)).setCell (p := ⟨w.heap.size + 1, 2, none⟩) (Nat.le_succ _) (.string nm)).setCell (p := ⟨w.heap.size + 1, 3, none⟩) (Nat.le_succ _) .nilIface).setCell (p := ⟨w.heap.size + 1, 4, none⟩) (Nat.le_succ _) .nilIface
    obtain ⟨y0, y1, y2, y3, y4⟩ := row5 Z5
    exact bodyPost_ret (v := .agg #[.int .i64 j, .int .i64 kd, .string nm, .nilIface, .nilIface]) (by simp [results, Tryz.results44, go_sem, y0, y1, y2, y3, y4]) rfl ⟨rfl, B5⟩

set_option maxHeartbeats 3200000 in
set_option maxRecDepth 100000 in
theorem rebuilt_ni (cb : Nat) (w0 : World) (j kd : Int) (nm : ByteArray) (t2 t2' : TypeId) (u2 u2' : Value) (V1 : Hid (RbV cb w0 .nilIface .nilIface)) (V2 : Hid (RbV cb w0 (.iface t2 u2) (.iface t2' u2'))) (w : World) (hw : Below w0.heap.size w0 w) :
    Calls Tryz.prog 44 #[.agg #[.int .i64 j, .int .i64 kd, .string nm, .nilIface, (.iface t2 u2)], .func (.func 45) #[.pointer (some ⟨cb, 0, none⟩)] #[]] w fun r w' => r = .returned (.agg #[.int .i64 j, .int .i64 kd, .string nm, .nilIface, (.iface t2' u2')]) ∧ Below w.heap.size w w' := by
  have Hw := hide hw
  have hB := hw.size
  have B0 := ((Below.refl w.heap.size w).alloc (Nat.le_refl _) (.cells #[.int .i64 j, .int .i64 kd, .string nm, .nilIface, (.iface t2 u2)] 90)).alloc (by simp) (.cells #[.int .i64 0, .int .i64 0, .string ⟨#[]⟩, .nilIface, .nilIface] 90)
  have R0 := (Row.new w #[.int .i64 j, .int .i64 kd, .string nm, .nilIface, (.iface t2 u2)] 90).alloc (.cells #[.int .i64 0, .int .i64 0, .string ⟨#[]⟩, .nilIface, .nilIface] 90)
  have Z0 := Row.new (w.alloc (.cells #[.int .i64 j, .int .i64 kd, .string nm, .nilIface, (.iface t2 u2)] 90)) #[.int .i64 0, .int .i64 0, .string ⟨#[]⟩, .nilIface, .nilIface] 90
  simp only [World.size_alloc] at Z0
  have hnm : (Tryz.f68.name == "runtime.NumGoroutine") = false := by kernel_rfl
  have hbd : Tryz.f68.body.isNone = false := by kernel_rfl
  clear hw
  have W0E : ∃ W0, W0 = (w.alloc (.cells #[.int .i64 j, .int .i64 kd, .string nm, .nilIface, (.iface t2 u2)] 90)).alloc (.cells #[.int .i64 0, .int .i64 0, .string ⟨#[]⟩, .nilIface, .nilIface] 90) := ⟨_, rfl⟩
  go_enter Tryz.func44, Tryz.ntmps44
  go_wp2_with fail
  obtain ⟨W0, hW0⟩ := W0E
  rw [← hW0] at B0 R0 Z0 ⊢
  clear hW0
  have HW := hide ((unhide Hw).trans (B0.mono hB))
  have r2 : W0.cell? ⟨w.heap.size, 3, none⟩ = some .nilIface := R0.cell 3
  have r3 : W0.cell? ⟨w.heap.size, 4, none⟩ = some (.iface t2 u2) := R0.cell 4
  have D0 : Below W0.heap.size W0 W0.drew := (Below.refl _ _).drew
  go_region_law (first
    | (refine step_callR2 rfl 68 _ Tryz.func68 hnm hbd _ _ _ rfl .nilIface (.func (.func 45) #[.pointer (some ⟨cb, 0, none⟩)] #[]) rfl rfl (fun v' w' => v' = .nilIface ∧ Below W0.heap.size W0 w') ((unhide V1 W0.drew (unhide HW).drew).mono (fun r w' h => ⟨_, h.1, rfl, D0.trans h.2⟩)) ?_; rintro v1 w1 ⟨rfl, hb1⟩; have R1 := R0.after hb1 (Nat.le_refl _); have Z1 := Z0.after hb1 (Nat.le_refl _); have s3 : w1.cell? ⟨w.heap.size, 4, none⟩ = some (.iface t2 u2) := R1.cell 4; have B1 := B0.trans (hb1.mono B0.size))
    | (refine step_callR2 rfl 68 _ Tryz.func68 hnm hbd _ _ _ rfl (.iface t2 u2) (.func (.func 45) #[.pointer (some ⟨cb, 0, none⟩)] #[]) rfl rfl (fun v' w' => v' = (.iface t2' u2') ∧ Below w1.heap.size w1 w') ((unhide V2 w1 ((unhide Hw).trans (B1.mono hB))).mono (fun r w' h => ⟨_, h.1, rfl, h.2⟩)) ?_; rintro v2 w2 ⟨rfl, hb2⟩; have R2 := R1.after hb2 (Nat.le_refl _); have Z2 := Z1.after hb2 (Nat.le_refl _); have p2 : w2.cell? ⟨w.heap.size, 3, none⟩ = some .nilIface := R2.cell 3; have p3 : w2.cell? ⟨w.heap.size, 4, none⟩ = some (.iface t2 u2) := R2.cell 4; have pf := fun k => R2.frozen k; have B2 := B1.trans (hb2.mono B1.size)))
  all_goals
    clear p2 p3 pf s3 r2 r3
    have R4 := (R2.set 3 .nilIface).set 4 (.iface t2' u2')
    have Z4 := (Z2.setFar (p := ⟨w.heap.size, 3, none⟩) (by show w.heap.size + 1 ≠ w.heap.size; omega) .nilIface).setFar (p := ⟨w.heap.size, 4, none⟩) (by show w.heap.size + 1 ≠ w.heap.size; omega) (.iface t2' u2')
    have B4 := (B2.setCell (p := ⟨w.heap.size, 3, none⟩) (Nat.le_refl _) .nilIface).setCell (p := ⟨w.heap.size, 4, none⟩) (Nat.le_refl _) (.iface t2' u2')
    clear R2 Z2 B2 R1 Z1 B1 R0 Z0 B0
    generalize (w2.setCell ⟨w.heap.size, 3, none⟩ .nilIface).setCell ⟨w.heap.size, 4, none⟩ (.iface t2' u2') = W3 at R4 Z4 B4 ⊢
    obtain ⟨q0, q1, q2, q3, q4⟩ := row5 R4
    obtain ⟨z0, z1, z2, z3, z4⟩ := row5 Z4
    have zf := fun k => Z4.frozen k
    go_wp2_with fail
    have Z5 := ((((Z4.set 0 (.int .i64 j)).set 1 (.int .i64 kd)).set 2 (.string nm)).set 3 .nilIface).set 4 (.iface t2' u2')
    have B5 := ((((B4.setCell (p := ⟨w.heap.size + 1, 0, none⟩) (Nat.le_succ _) (.int .i64 j)).setCell (p := ⟨w.heap.size + 1, 1, none⟩) (Nat.le_succ _) (.int .i64 kd)).setCell (p := ⟨w.heap.size + 1, 2, none⟩) (Nat.le_succ _) (.string nm)).setCell (p := ⟨w.heap.size + 1, 3, none⟩) (Nat.le_succ _) .nilIface).setCell (p := ⟨w.heap.size + 1, 4, none⟩) (Nat.le_succ _) (.iface t2' u2')
    obtain ⟨y0, y1, y2, y3, y4⟩ := row5 Z5
    exact bodyPost_ret (v := .agg #[.int .i64 j, .int .i64 kd, .string nm, .nilIface, (.iface t2' u2')]) (by simp [results, Tryz.results44, go_sem, y0, y1, y2, y3, y4]) rfl ⟨rfl, B5⟩

set_option maxHeartbeats 3200000 in
set_option maxRecDepth 100000 in
theorem rebuilt_in (cb : Nat) (w0 : World) (j kd : Int) (nm : ByteArray) (t1 t1' : TypeId) (u1 u1' : Value) (V1 : Hid (RbV cb w0 (.iface t1 u1) (.iface t1' u1'))) (V2 : Hid (RbV cb w0 .nilIface .nilIface)) (w : World) (hw : Below w0.heap.size w0 w) :
    Calls Tryz.prog 44 #[.agg #[.int .i64 j, .int .i64 kd, .string nm, (.iface t1 u1), .nilIface], .func (.func 45) #[.pointer (some ⟨cb, 0, none⟩)] #[]] w fun r w' => r = .returned (.agg #[.int .i64 j, .int .i64 kd, .string nm, (.iface t1' u1'), .nilIface]) ∧ Below w.heap.size w w' := by
  have Hw := hide hw
  have hB := hw.size
  have B0 := ((Below.refl w.heap.size w).alloc (Nat.le_refl _) (.cells #[.int .i64 j, .int .i64 kd, .string nm, (.iface t1 u1), .nilIface] 90)).alloc (by simp) (.cells #[.int .i64 0, .int .i64 0, .string ⟨#[]⟩, .nilIface, .nilIface] 90)
  have R0 := (Row.new w #[.int .i64 j, .int .i64 kd, .string nm, (.iface t1 u1), .nilIface] 90).alloc (.cells #[.int .i64 0, .int .i64 0, .string ⟨#[]⟩, .nilIface, .nilIface] 90)
  have Z0 := Row.new (w.alloc (.cells #[.int .i64 j, .int .i64 kd, .string nm, (.iface t1 u1), .nilIface] 90)) #[.int .i64 0, .int .i64 0, .string ⟨#[]⟩, .nilIface, .nilIface] 90
  simp only [World.size_alloc] at Z0
  have hnm : (Tryz.f68.name == "runtime.NumGoroutine") = false := by kernel_rfl
  have hbd : Tryz.f68.body.isNone = false := by kernel_rfl
  clear hw
  have W0E : ∃ W0, W0 = (w.alloc (.cells #[.int .i64 j, .int .i64 kd, .string nm, (.iface t1 u1), .nilIface] 90)).alloc (.cells #[.int .i64 0, .int .i64 0, .string ⟨#[]⟩, .nilIface, .nilIface] 90) := ⟨_, rfl⟩
  go_enter Tryz.func44, Tryz.ntmps44
  go_wp2_with fail
  obtain ⟨W0, hW0⟩ := W0E
  rw [← hW0] at B0 R0 Z0 ⊢
  clear hW0
  have HW := hide ((unhide Hw).trans (B0.mono hB))
  have r2 : W0.cell? ⟨w.heap.size, 3, none⟩ = some (.iface t1 u1) := R0.cell 3
  have r3 : W0.cell? ⟨w.heap.size, 4, none⟩ = some .nilIface := R0.cell 4
  have D0 : Below W0.heap.size W0 W0.drew := (Below.refl _ _).drew
  go_region_law (first
    | (refine step_callR2 rfl 68 _ Tryz.func68 hnm hbd _ _ _ rfl (.iface t1 u1) (.func (.func 45) #[.pointer (some ⟨cb, 0, none⟩)] #[]) rfl rfl (fun v' w' => v' = (.iface t1' u1') ∧ Below W0.heap.size W0 w') ((unhide V1 W0.drew (unhide HW).drew).mono (fun r w' h => ⟨_, h.1, rfl, D0.trans h.2⟩)) ?_; rintro v1 w1 ⟨rfl, hb1⟩; have R1 := R0.after hb1 (Nat.le_refl _); have Z1 := Z0.after hb1 (Nat.le_refl _); have s3 : w1.cell? ⟨w.heap.size, 4, none⟩ = some .nilIface := R1.cell 4; have B1 := B0.trans (hb1.mono B0.size))
    | (refine step_callR2 rfl 68 _ Tryz.func68 hnm hbd _ _ _ rfl .nilIface (.func (.func 45) #[.pointer (some ⟨cb, 0, none⟩)] #[]) rfl rfl (fun v' w' => v' = .nilIface ∧ Below w1.heap.size w1 w') ((unhide V2 w1 ((unhide Hw).trans (B1.mono hB))).mono (fun r w' h => ⟨_, h.1, rfl, h.2⟩)) ?_; rintro v2 w2 ⟨rfl, hb2⟩; have R2 := R1.after hb2 (Nat.le_refl _); have Z2 := Z1.after hb2 (Nat.le_refl _); have p2 : w2.cell? ⟨w.heap.size, 3, none⟩ = some (.iface t1 u1) := R2.cell 3; have p3 : w2.cell? ⟨w.heap.size, 4, none⟩ = some .nilIface := R2.cell 4; have pf := fun k => R2.frozen k; have B2 := B1.trans (hb2.mono B1.size)))
  all_goals
    clear p2 p3 pf s3 r2 r3
    have R4 := (R2.set 3 (.iface t1' u1')).set 4 .nilIface
    have Z4 := (Z2.setFar (p := ⟨w.heap.size, 3, none⟩) (by show w.heap.size + 1 ≠ w.heap.size; omega) (.iface t1' u1')).setFar (p := ⟨w.heap.size, 4, none⟩) (by show w.heap.size + 1 ≠ w.heap.size; omega) .nilIface
    have B4 := (B2.setCell (p := ⟨w.heap.size, 3, none⟩) (Nat.le_refl _) (.iface t1' u1')).setCell (p := ⟨w.heap.size, 4, none⟩) (Nat.le_refl _) .nilIface
    clear R2 Z2 B2 R1 Z1 B1 R0 Z0 B0
    generalize (w2.setCell ⟨w.heap.size, 3, none⟩ (.iface t1' u1')).setCell ⟨w.heap.size, 4, none⟩ .nilIface = W3 at R4 Z4 B4 ⊢
    obtain ⟨q0, q1, q2, q3, q4⟩ := row5 R4
    obtain ⟨z0, z1, z2, z3, z4⟩ := row5 Z4
    have zf := fun k => Z4.frozen k
    go_wp2_with fail
    have Z5 := ((((Z4.set 0 (.int .i64 j)).set 1 (.int .i64 kd)).set 2 (.string nm)).set 3 (.iface t1' u1')).set 4 .nilIface
    have B5 := ((((B4.setCell (p := ⟨w.heap.size + 1, 0, none⟩) (Nat.le_succ _) (.int .i64 j)).setCell (p := ⟨w.heap.size + 1, 1, none⟩) (Nat.le_succ _) (.int .i64 kd)).setCell (p := ⟨w.heap.size + 1, 2, none⟩) (Nat.le_succ _) (.string nm)).setCell (p := ⟨w.heap.size + 1, 3, none⟩) (Nat.le_succ _) (.iface t1' u1')).setCell (p := ⟨w.heap.size + 1, 4, none⟩) (Nat.le_succ _) .nilIface
    obtain ⟨y0, y1, y2, y3, y4⟩ := row5 Z5
    exact bodyPost_ret (v := .agg #[.int .i64 j, .int .i64 kd, .string nm, (.iface t1' u1'), .nilIface]) (by simp [results, Tryz.results44, go_sem, y0, y1, y2, y3, y4]) rfl ⟨rfl, B5⟩

set_option maxHeartbeats 3200000 in
set_option maxRecDepth 100000 in
theorem rebuilt_ii (cb : Nat) (w0 : World) (j kd : Int) (nm : ByteArray) (t1 t1' : TypeId) (u1 u1' : Value) (t2 t2' : TypeId) (u2 u2' : Value) (V1 : Hid (RbV cb w0 (.iface t1 u1) (.iface t1' u1'))) (V2 : Hid (RbV cb w0 (.iface t2 u2) (.iface t2' u2'))) (w : World) (hw : Below w0.heap.size w0 w) :
    Calls Tryz.prog 44 #[.agg #[.int .i64 j, .int .i64 kd, .string nm, (.iface t1 u1), (.iface t2 u2)], .func (.func 45) #[.pointer (some ⟨cb, 0, none⟩)] #[]] w fun r w' => r = .returned (.agg #[.int .i64 j, .int .i64 kd, .string nm, (.iface t1' u1'), (.iface t2' u2')]) ∧ Below w.heap.size w w' := by
  have Hw := hide hw
  have hB := hw.size
  have B0 := ((Below.refl w.heap.size w).alloc (Nat.le_refl _) (.cells #[.int .i64 j, .int .i64 kd, .string nm, (.iface t1 u1), (.iface t2 u2)] 90)).alloc (by simp) (.cells #[.int .i64 0, .int .i64 0, .string ⟨#[]⟩, .nilIface, .nilIface] 90)
  have R0 := (Row.new w #[.int .i64 j, .int .i64 kd, .string nm, (.iface t1 u1), (.iface t2 u2)] 90).alloc (.cells #[.int .i64 0, .int .i64 0, .string ⟨#[]⟩, .nilIface, .nilIface] 90)
  have Z0 := Row.new (w.alloc (.cells #[.int .i64 j, .int .i64 kd, .string nm, (.iface t1 u1), (.iface t2 u2)] 90)) #[.int .i64 0, .int .i64 0, .string ⟨#[]⟩, .nilIface, .nilIface] 90
  simp only [World.size_alloc] at Z0
  have hnm : (Tryz.f68.name == "runtime.NumGoroutine") = false := by kernel_rfl
  have hbd : Tryz.f68.body.isNone = false := by kernel_rfl
  clear hw
  have W0E : ∃ W0, W0 = (w.alloc (.cells #[.int .i64 j, .int .i64 kd, .string nm, (.iface t1 u1), (.iface t2 u2)] 90)).alloc (.cells #[.int .i64 0, .int .i64 0, .string ⟨#[]⟩, .nilIface, .nilIface] 90) := ⟨_, rfl⟩
  go_enter Tryz.func44, Tryz.ntmps44
  go_wp2_with fail
  obtain ⟨W0, hW0⟩ := W0E
  rw [← hW0] at B0 R0 Z0 ⊢
  clear hW0
  have HW := hide ((unhide Hw).trans (B0.mono hB))
  have r2 : W0.cell? ⟨w.heap.size, 3, none⟩ = some (.iface t1 u1) := R0.cell 3
  have r3 : W0.cell? ⟨w.heap.size, 4, none⟩ = some (.iface t2 u2) := R0.cell 4
  have D0 : Below W0.heap.size W0 W0.drew := (Below.refl _ _).drew
  go_region_law (first
    | (refine step_callR2 rfl 68 _ Tryz.func68 hnm hbd _ _ _ rfl (.iface t1 u1) (.func (.func 45) #[.pointer (some ⟨cb, 0, none⟩)] #[]) rfl rfl (fun v' w' => v' = (.iface t1' u1') ∧ Below W0.heap.size W0 w') ((unhide V1 W0.drew (unhide HW).drew).mono (fun r w' h => ⟨_, h.1, rfl, D0.trans h.2⟩)) ?_; rintro v1 w1 ⟨rfl, hb1⟩; have R1 := R0.after hb1 (Nat.le_refl _); have Z1 := Z0.after hb1 (Nat.le_refl _); have s3 : w1.cell? ⟨w.heap.size, 4, none⟩ = some (.iface t2 u2) := R1.cell 4; have B1 := B0.trans (hb1.mono B0.size))
    | (refine step_callR2 rfl 68 _ Tryz.func68 hnm hbd _ _ _ rfl (.iface t2 u2) (.func (.func 45) #[.pointer (some ⟨cb, 0, none⟩)] #[]) rfl rfl (fun v' w' => v' = (.iface t2' u2') ∧ Below w1.heap.size w1 w') ((unhide V2 w1 ((unhide Hw).trans (B1.mono hB))).mono (fun r w' h => ⟨_, h.1, rfl, h.2⟩)) ?_; rintro v2 w2 ⟨rfl, hb2⟩; have R2 := R1.after hb2 (Nat.le_refl _); have Z2 := Z1.after hb2 (Nat.le_refl _); have p2 : w2.cell? ⟨w.heap.size, 3, none⟩ = some (.iface t1 u1) := R2.cell 3; have p3 : w2.cell? ⟨w.heap.size, 4, none⟩ = some (.iface t2 u2) := R2.cell 4; have pf := fun k => R2.frozen k; have B2 := B1.trans (hb2.mono B1.size)))
  all_goals
    clear p2 p3 pf s3 r2 r3
    have R4 := (R2.set 3 (.iface t1' u1')).set 4 (.iface t2' u2')
    have Z4 := (Z2.setFar (p := ⟨w.heap.size, 3, none⟩) (by show w.heap.size + 1 ≠ w.heap.size; omega) (.iface t1' u1')).setFar (p := ⟨w.heap.size, 4, none⟩) (by show w.heap.size + 1 ≠ w.heap.size; omega) (.iface t2' u2')
    have B4 := (B2.setCell (p := ⟨w.heap.size, 3, none⟩) (Nat.le_refl _) (.iface t1' u1')).setCell (p := ⟨w.heap.size, 4, none⟩) (Nat.le_refl _) (.iface t2' u2')
    clear R2 Z2 B2 R1 Z1 B1 R0 Z0 B0
    generalize (w2.setCell ⟨w.heap.size, 3, none⟩ (.iface t1' u1')).setCell ⟨w.heap.size, 4, none⟩ (.iface t2' u2') = W3 at R4 Z4 B4 ⊢
    obtain ⟨q0, q1, q2, q3, q4⟩ := row5 R4
    obtain ⟨z0, z1, z2, z3, z4⟩ := row5 Z4
    have zf := fun k => Z4.frozen k
    go_wp2_with fail
    have Z5 := ((((Z4.set 0 (.int .i64 j)).set 1 (.int .i64 kd)).set 2 (.string nm)).set 3 (.iface t1' u1')).set 4 (.iface t2' u2')
    have B5 := ((((B4.setCell (p := ⟨w.heap.size + 1, 0, none⟩) (Nat.le_succ _) (.int .i64 j)).setCell (p := ⟨w.heap.size + 1, 1, none⟩) (Nat.le_succ _) (.int .i64 kd)).setCell (p := ⟨w.heap.size + 1, 2, none⟩) (Nat.le_succ _) (.string nm)).setCell (p := ⟨w.heap.size + 1, 3, none⟩) (Nat.le_succ _) (.iface t1' u1')).setCell (p := ⟨w.heap.size + 1, 4, none⟩) (Nat.le_succ _) (.iface t2' u2')
    obtain ⟨y0, y1, y2, y3, y4⟩ := row5 Z5
    exact bodyPost_ret (v := .agg #[.int .i64 j, .int .i64 kd, .string nm, (.iface t1' u1'), (.iface t2' u2')]) (by simp [results, Tryz.results44, go_sem, y0, y1, y2, y3, y4]) rfl ⟨rfl, B5⟩

/-- a statement with its names resolved -/
def rbO (D : List Dc) (o : Option Ex) : Option Ex := o.map (rbE D)

def rbS (D : List Dc) (x : Sx) : Sx := ⟨x.at', x.kind, x.name, rbO D x.cond, rbO D x.grant⟩

theorem rebuilt_any (cb mb : Nat) (D : List Dc) (w0 : World) (hc : w0.cell? ⟨cb, 0, none⟩ = some (.map (some mb))) (hcb : cb < w0.heap.size) (hM : MapD w0 mb D) (x : Sx) (w : World) (hw : Below w0.heap.size w0 w) :
    Calls Tryz.prog 44 #[.agg #[.int .i64 x.at', .int .i64 x.kind, .string x.name, optX x.cond, optX x.grant], .func (.func 45) #[.pointer (some ⟨cb, 0, none⟩)] #[]] w fun r w' => r = .returned (.agg #[.int .i64 x.at', .int .i64 x.kind, .string x.name, optX (rbO D x.cond), optX (rbO D x.grant)]) ∧ Below w.heap.size w w' := by
  obtain ⟨j, kd, nm, co, gr⟩ := x
  have H := fun e => rebuild_any cb mb D w0 hc hcb hM e
  have H0 := rebuild_nil cb w0
  cases co with
  | none =>
    cases gr with
    | none => exact rebuilt_nn cb w0 j kd nm (hide H0) (hide H0) w hw
    | some f =>
      have hf := H f
      obtain ⟨t2, u2, e2⟩ := f.form
      obtain ⟨t2', u2', e2'⟩ := (rbE D f).form
      simp only [optX, rbO, Option.map]
      rw [e2, e2'] at hf ⊢
      exact rebuilt_ni cb w0 j kd nm t2 t2' u2 u2' (hide H0) (hide hf) w hw
  | some e =>
    have he := H e
    obtain ⟨t1, u1, e1⟩ := e.form
    obtain ⟨t1', u1', e1'⟩ := (rbE D e).form
    cases gr with
    | none =>
      simp only [optX, rbO, Option.map]
      rw [e1, e1'] at he ⊢
      exact rebuilt_in cb w0 j kd nm t1 t1' u1 u1' (hide he) (hide H0) w hw
    | some f =>
      have hf := H f
      obtain ⟨t2, u2, e2⟩ := f.form
      obtain ⟨t2', u2', e2'⟩ := (rbE D f).form
      simp only [optX, rbO, Option.map]
      rw [e2, e2'] at hf
      rw [e1, e1'] at he
      rw [e1, e1', e2, e2']
      exact rebuilt_ii cb w0 j kd nm t1 t1' u1 u1' t2 t2' u2 u2' (hide he) (hide hf) w hw

end Go.Proofs.YtddpcehgopeklaaGreatDoor

namespace Go.Proofs.YtddpcehgopeklaaGreatDoor
open Go.RowKit Go.Extern.Stop Go.Stop Go.Extern
set_option linter.unusedVariables false

/-- the sentinels of all faults, in memory, and the handle that errors.As asks for -/
structure Sn9 (w : World) (aX a1 a2 a3 a4 a5 a6 a7 a8 a9 : Addr) : Prop where
  g1 : w.cell? ⟨3, 0, none⟩ = some (.iface 224 (.pointer (some a1)))
  g2 : w.cell? ⟨4, 0, none⟩ = some (.iface 224 (.pointer (some a2)))
  g3 : w.cell? ⟨5, 0, none⟩ = some (.iface 224 (.pointer (some a3)))
  g4 : w.cell? ⟨6, 0, none⟩ = some (.iface 224 (.pointer (some a4)))
  g5 : w.cell? ⟨7, 0, none⟩ = some (.iface 224 (.pointer (some a5)))
  g6 : w.cell? ⟨8, 0, none⟩ = some (.iface 224 (.pointer (some a6)))
  g7 : w.cell? ⟨9, 0, none⟩ = some (.iface 224 (.pointer (some a7)))
  g8 : w.cell? ⟨10, 0, none⟩ = some (.iface 224 (.pointer (some a8)))
  g9 : w.cell? ⟨11, 0, none⟩ = some (.iface 224 (.pointer (some a9)))
  gX : w.cell? ⟨0, 0, none⟩ = some (.iface 224 (.pointer (some aX)))
  gE : w.cell? ⟨2, 0, none⟩ = some (.iface 177 (.agg #[.pointer (some ⟨14, 59, none⟩)]))
  big : 14 ≤ w.heap.size
  rows : ∀ a ∈ [a1, a2, a3, a4, a5, a6, a7, a8, a9], ∃ c t, w.heap[a.block]? = some (.cells c t (0, 0))
  nd : ([a1, a2, a3, a4, a5, a6, a7, a8, a9] : List Addr).Nodup

theorem rowX_below {w w' : World} {B : Nat} {a : Addr} (h : ∃ c t, w.heap[a.block]? = some (.cells c t (0, 0))) (hb : Below B w w') (hB : w.heap.size ≤ B) : ∃ c t, w'.heap[a.block]? = some (.cells c t (0, 0)) := by
  obtain ⟨c, t, h⟩ := h
  have hlt : a.block < w.heap.size := (Array.getElem?_eq_some_iff.1 h).1
  exact ⟨c, t, (hb.block _ (by omega)).trans h⟩

variable {aX a1 a2 a3 a4 a5 a6 a7 a8 a9 : Addr}

theorem Sn9.below {w w' : World} {B : Nat} (h : Sn9 w aX a1 a2 a3 a4 a5 a6 a7 a8 a9) (hb : Below B w w') (hB : w.heap.size ≤ B) : Sn9 w' aX a1 a2 a3 a4 a5 a6 a7 a8 a9 where
  g1 := (hb.cell (p := ⟨3, 0, none⟩) (by have := h.big; show 3 < B; omega)).trans h.g1
  g2 := (hb.cell (p := ⟨4, 0, none⟩) (by have := h.big; show 4 < B; omega)).trans h.g2
  g3 := (hb.cell (p := ⟨5, 0, none⟩) (by have := h.big; show 5 < B; omega)).trans h.g3
  g4 := (hb.cell (p := ⟨6, 0, none⟩) (by have := h.big; show 6 < B; omega)).trans h.g4
  g5 := (hb.cell (p := ⟨7, 0, none⟩) (by have := h.big; show 7 < B; omega)).trans h.g5
  g6 := (hb.cell (p := ⟨8, 0, none⟩) (by have := h.big; show 8 < B; omega)).trans h.g6
  g7 := (hb.cell (p := ⟨9, 0, none⟩) (by have := h.big; show 9 < B; omega)).trans h.g7
  g8 := (hb.cell (p := ⟨10, 0, none⟩) (by have := h.big; show 10 < B; omega)).trans h.g8
  g9 := (hb.cell (p := ⟨11, 0, none⟩) (by have := h.big; show 11 < B; omega)).trans h.g9
  gX := (hb.cell (p := ⟨0, 0, none⟩) (by have := h.big; show 0 < B; omega)).trans h.gX
  gE := (hb.cell (p := ⟨2, 0, none⟩) (by have := h.big; show 2 < B; omega)).trans h.gE
  big := Nat.le_trans h.big hb.size
  rows := fun a ha => rowX_below (h.rows a ha) hb hB
  nd := h.nd

theorem Sn9.drew {w : World} (h : Sn9 w aX a1 a2 a3 a4 a5 a6 a7 a8 a9) : Sn9 w.drew aX a1 a2 a3 a4 a5 a6 a7 a8 a9 := h.below (Below.refl w.heap.size w).drew (Nat.le_refl _)

theorem is_otherX {a b : Addr} {w : World} (hne : a ≠ b) (ha : ∃ c t, w.heap[a.block]? = some (.cells c t (0, 0))) (hb : ∃ c t, w.heap[b.block]? = some (.cells c t (0, 0))) :
    Calls Tryz.prog 74 #[.iface 224 (.pointer (some a)), .iface 224 (.pointer (some b))] w fun e w' => e = .returned (.bool false) ∧ w' = w := by
  obtain ⟨c, t, ha⟩ := ha
  obtain ⟨c', t', hb⟩ := hb
  exact is_other a b c c' t t' w hne ha hb

set_option maxHeartbeats 1600000 in
theorem faultCodeX_7 (w : World) (hs : Sn9 w aX a1 a2 a3 a4 a5 a6 a7 a8 a9) :
    Calls Tryz.prog 48 #[.iface 224 (.pointer (some a7))] w fun e w' => e = .returned (.int .i64 7) ∧ w' = w := by
  have h1 := hs.g1
  have h2 := hs.g2
  have h3 := hs.g3
  have h4 := hs.g4
  have h5 := hs.g5
  have h6 := hs.g6
  have h7 := hs.g7
  have HN := hide hs.nd
  have HR := hide hs.rows
  clear hs
  go_enter Tryz.func48, Tryz.ntmps48
  go_wp2_with fail
  refine (is_otherX (a := a7) (b := a1) (by have := unhide HN; simp at this; grind) (unhide HR _ (by simp)) (unhide HR _ (by simp))).mono ?_
  rintro e w' ⟨rfl, rfl⟩
  go_wp2_with fail
  refine (is_otherX (a := a7) (b := a2) (by have := unhide HN; simp at this; grind) (unhide HR _ (by simp)) (unhide HR _ (by simp))).mono ?_
  rintro e w' ⟨rfl, rfl⟩
  go_wp2_with fail
  refine (is_otherX (a := a7) (b := a3) (by have := unhide HN; simp at this; grind) (unhide HR _ (by simp)) (unhide HR _ (by simp))).mono ?_
  rintro e w' ⟨rfl, rfl⟩
  go_wp2_with fail
  refine (is_otherX (a := a7) (b := a4) (by have := unhide HN; simp at this; grind) (unhide HR _ (by simp)) (unhide HR _ (by simp))).mono ?_
  rintro e w' ⟨rfl, rfl⟩
  go_wp2_with fail
  refine (is_otherX (a := a7) (b := a5) (by have := unhide HN; simp at this; grind) (unhide HR _ (by simp)) (unhide HR _ (by simp))).mono ?_
  rintro e w' ⟨rfl, rfl⟩
  go_wp2_with fail
  refine (is_otherX (a := a7) (b := a6) (by have := unhide HN; simp at this; grind) (unhide HR _ (by simp)) (unhide HR _ (by simp))).mono ?_
  rintro e w' ⟨rfl, rfl⟩
  go_wp2_with fail
  refine (is_same a7 _).mono ?_
  rintro e w' ⟨rfl, rfl⟩
  go_wp2_with fail
  go_ret
  exact ⟨rfl, rfl⟩

set_option maxHeartbeats 1600000 in
theorem faultCodeX_8 (w : World) (hs : Sn9 w aX a1 a2 a3 a4 a5 a6 a7 a8 a9) :
    Calls Tryz.prog 48 #[.iface 224 (.pointer (some a8))] w fun e w' => e = .returned (.int .i64 8) ∧ w' = w := by
  have h1 := hs.g1
  have h2 := hs.g2
  have h3 := hs.g3
  have h4 := hs.g4
  have h5 := hs.g5
  have h6 := hs.g6
  have h7 := hs.g7
  have h8 := hs.g8
  have HN := hide hs.nd
  have HR := hide hs.rows
  clear hs
  go_enter Tryz.func48, Tryz.ntmps48
  go_wp2_with fail
  refine (is_otherX (a := a8) (b := a1) (by have := unhide HN; simp at this; grind) (unhide HR _ (by simp)) (unhide HR _ (by simp))).mono ?_
  rintro e w' ⟨rfl, rfl⟩
  go_wp2_with fail
  refine (is_otherX (a := a8) (b := a2) (by have := unhide HN; simp at this; grind) (unhide HR _ (by simp)) (unhide HR _ (by simp))).mono ?_
  rintro e w' ⟨rfl, rfl⟩
  go_wp2_with fail
  refine (is_otherX (a := a8) (b := a3) (by have := unhide HN; simp at this; grind) (unhide HR _ (by simp)) (unhide HR _ (by simp))).mono ?_
  rintro e w' ⟨rfl, rfl⟩
  go_wp2_with fail
  refine (is_otherX (a := a8) (b := a4) (by have := unhide HN; simp at this; grind) (unhide HR _ (by simp)) (unhide HR _ (by simp))).mono ?_
  rintro e w' ⟨rfl, rfl⟩
  go_wp2_with fail
  refine (is_otherX (a := a8) (b := a5) (by have := unhide HN; simp at this; grind) (unhide HR _ (by simp)) (unhide HR _ (by simp))).mono ?_
  rintro e w' ⟨rfl, rfl⟩
  go_wp2_with fail
  refine (is_otherX (a := a8) (b := a6) (by have := unhide HN; simp at this; grind) (unhide HR _ (by simp)) (unhide HR _ (by simp))).mono ?_
  rintro e w' ⟨rfl, rfl⟩
  go_wp2_with fail
  refine (is_otherX (a := a8) (b := a7) (by have := unhide HN; simp at this; grind) (unhide HR _ (by simp)) (unhide HR _ (by simp))).mono ?_
  rintro e w' ⟨rfl, rfl⟩
  go_wp2_with fail
  refine (is_same a8 _).mono ?_
  rintro e w' ⟨rfl, rfl⟩
  go_wp2_with fail
  go_ret
  exact ⟨rfl, rfl⟩

set_option maxHeartbeats 1600000 in
theorem faultCodeX_9 (w : World) (hs : Sn9 w aX a1 a2 a3 a4 a5 a6 a7 a8 a9) :
    Calls Tryz.prog 48 #[.iface 224 (.pointer (some a9))] w fun e w' => e = .returned (.int .i64 9) ∧ w' = w := by
  have h1 := hs.g1
  have h2 := hs.g2
  have h3 := hs.g3
  have h4 := hs.g4
  have h5 := hs.g5
  have h6 := hs.g6
  have h7 := hs.g7
  have h8 := hs.g8
  have h9 := hs.g9
  have HN := hide hs.nd
  have HR := hide hs.rows
  clear hs
  go_enter Tryz.func48, Tryz.ntmps48
  go_wp2_with fail
  refine (is_otherX (a := a9) (b := a1) (by have := unhide HN; simp at this; grind) (unhide HR _ (by simp)) (unhide HR _ (by simp))).mono ?_
  rintro e w' ⟨rfl, rfl⟩
  go_wp2_with fail
  refine (is_otherX (a := a9) (b := a2) (by have := unhide HN; simp at this; grind) (unhide HR _ (by simp)) (unhide HR _ (by simp))).mono ?_
  rintro e w' ⟨rfl, rfl⟩
  go_wp2_with fail
  refine (is_otherX (a := a9) (b := a3) (by have := unhide HN; simp at this; grind) (unhide HR _ (by simp)) (unhide HR _ (by simp))).mono ?_
  rintro e w' ⟨rfl, rfl⟩
  go_wp2_with fail
  refine (is_otherX (a := a9) (b := a4) (by have := unhide HN; simp at this; grind) (unhide HR _ (by simp)) (unhide HR _ (by simp))).mono ?_
  rintro e w' ⟨rfl, rfl⟩
  go_wp2_with fail
  refine (is_otherX (a := a9) (b := a5) (by have := unhide HN; simp at this; grind) (unhide HR _ (by simp)) (unhide HR _ (by simp))).mono ?_
  rintro e w' ⟨rfl, rfl⟩
  go_wp2_with fail
  refine (is_otherX (a := a9) (b := a6) (by have := unhide HN; simp at this; grind) (unhide HR _ (by simp)) (unhide HR _ (by simp))).mono ?_
  rintro e w' ⟨rfl, rfl⟩
  go_wp2_with fail
  refine (is_otherX (a := a9) (b := a7) (by have := unhide HN; simp at this; grind) (unhide HR _ (by simp)) (unhide HR _ (by simp))).mono ?_
  rintro e w' ⟨rfl, rfl⟩
  go_wp2_with fail
  refine (is_otherX (a := a9) (b := a8) (by have := unhide HN; simp at this; grind) (unhide HR _ (by simp)) (unhide HR _ (by simp))).mono ?_
  rintro e w' ⟨rfl, rfl⟩
  go_wp2_with fail
  refine (is_same a9 _).mono ?_
  rintro e w' ⟨rfl, rfl⟩
  go_wp2_with fail
  go_ret
  exact ⟨rfl, rfl⟩

theorem faultCodeX (c : Int) (w : World) (hs : Sn9 w aX a1 a2 a3 a4 a5 a6 a7 a8 a9) (hc : 7 ≤ c ∧ c ≤ 9) :
    Calls Tryz.prog 48 #[.iface 224 (.pointer (some (cad a9 a7 a8 c)))] w fun e w' => e = .returned (.int .i64 c) ∧ w' = w := by
  have h : c = 7 ∨ c = 8 ∨ c = 9 := by omega
  rcases h with rfl | rfl | rfl
  · exact faultCodeX_7 w hs
  · exact faultCodeX_8 w hs
  · exact faultCodeX_9 w hs

/-- a fault out of its block -/
theorem resX_fault {fn : Func} {a : Tmp} (h : fn.results = #[.cell a 33]) {tmps : Array Value} {w : World} {b : Nat} {v0 v1 : Value} (ha : tmps.getD a undef = .pointer (some ⟨b, 0, none⟩))
    (g0 : w.cell? ⟨b, 0, none⟩ = some v0) (g1 : w.cell? ⟨b, 1, none⟩ = some v1) :
    (results fn tmps).run Tryz.prog w = .ok (.agg #[v0, v1]) w := by
  rw [Array.getD_eq_getD_getElem?] at ha
  simp [results, h, ha, go_sem, g0, g1]

set_option maxHeartbeats 400000 in
theorem faultX_nil (w : World) :
    Calls Tryz.prog 24 #[.nilIface] w fun e w' => e = .returned (.agg #[.int .i64 0, .int .i64 0]) ∧ Below w.heap.size w w' := by
  go_enter Tryz.func24, Tryz.ntmps24
  go_wp2
  have R := Row.new w #[.int .i64 0, .int .i64 0] 33
  have g0 := R.cell 0
  have g1 := R.cell 1
  refine bodyPost_ret (resX_fault Tryz.results24 rfl g0 g1) rfl ⟨rfl, (Below.refl w.heap.size w).alloc (Nat.le_refl _) _⟩

set_option maxHeartbeats 1600000 in
theorem faultX_any (b : Nat) (f : Int × Int) (w : World) (hs : Sn9 w aX a1 a2 a3 a4 a5 a6 a7 a8 a9) (hr : ErO a9 a7 a8 f b w) (hc : 7 ≤ f.1 ∧ f.1 ≤ 9) :
    Calls Tryz.prog 24 #[.iface 97 (.pointer (some ⟨b, 0, none⟩))] w fun e w' => e = .returned (.agg #[.int .i64 f.1, .int .i64 f.2]) ∧ Below w.heap.size w w' := by
  obtain ⟨c, i⟩ := f
  dsimp only at hc ⊢
  have Hc := hide (fun w hs => faultCodeX (aX := aX) (a1 := a1) (a2 := a2) (a3 := a3) (a4 := a4) (a5 := a5) (a6 := a6) (a7 := a7) (a8 := a8) (a9 := a9) c w hs hc)
  change Row w b #[.int .i64 i, .iface 224 (.pointer (some (cad a9 a7 a8 c)))] 102 at hr
  clear hc
  generalize cad a9 a7 a8 c = ac at hr Hc
  have B0 := ((Below.refl w.heap.size w).alloc (Nat.le_refl _) (.cells #[.int .i64 0, .int .i64 0] 33)).alloc (by simp) (.cells #[.pointer none] 97)
  have R0 := (Row.new w #[.int .i64 0, .int .i64 0] 33).alloc (.cells #[.pointer none] 97)
  have RP := Row.new (w.alloc (.cells #[.int .i64 0, .int .i64 0] 33)) #[.pointer none] 97
  have S0 := hide (hs.below B0 (Nat.le_refl _)).gE
  have Rr := hr.after B0 (Nat.le_refl _)
  have hlt := hr.lt
  have z0 : ((w.alloc (.cells #[.int .i64 0, .int .i64 0] 33)).alloc (.cells #[.pointer none] 97)).heap.size = w.heap.size + 2 := by simp
  simp only [World.size_alloc] at RP
  have HS := hide hs
  clear hs hr
  go_enter Tryz.func24, Tryz.ntmps24
  go_wp2_with fail
  generalize (w.alloc (.cells #[.int .i64 0, .int .i64 0] 33)).alloc (.cells #[.pointer none] 97) = W at *
  have hcell := RP.cell 0
  refine (as_hit ⟨b, 0, none⟩ ⟨w.heap.size + 1, 0, none⟩ (.pointer none) W (unhide S0) (by simpa using hcell) (RP.frozen 0)).mono ?_
  rintro e w1 ⟨rfl, hw1⟩
  have B1 : Below w.heap.size w w1 := by
    rw [hw1]
    exact ((((B0.alloc B0.size _).alloc (by simp; omega) _).alloc (by simp; omega) _).alloc (by simp; omega) _).setCell (p := ⟨w.heap.size + 1, 0, none⟩) (by show w.heap.size ≤ w.heap.size + 1; omega) _
  have R0' : Row w1 w.heap.size #[.int .i64 0, .int .i64 0] 33 := by
    rw [hw1]
    exact ((((R0.alloc _).alloc _).alloc _).alloc _).setFar (p := ⟨w.heap.size + 1, 0, none⟩) (by show w.heap.size ≠ w.heap.size + 1; omega) _
  have RP' : Row w1 (w.heap.size + 1) #[.pointer (some ⟨b, 0, none⟩)] 97 := by
    rw [hw1]
    exact ((((RP.alloc _).alloc _).alloc _).alloc _).set 0 _
  have Rr' : Row w1 b #[.int .i64 i, .iface 224 (.pointer (some ac))] 102 := by
    rw [hw1]
    exact ((((Rr.alloc _).alloc _).alloc _).alloc _).setFar (p := ⟨w.heap.size + 1, 0, none⟩) (by show b ≠ w.heap.size + 1; omega) _
  have S1 := hide ((unhide HS).below B1 (Nat.le_refl _))
  clear hw1 B0 R0 RP Rr S0 hcell
  have p0 := RP'.cell 0
  have r0 := Rr'.cell 0
  have r1 := Rr'.cell 1
  have f0 := fun k => R0'.frozen k
  have q0 := R0'.cell 0
  have q1 := R0'.cell 1
  simp only [List.getElem?_toArray, List.getElem?_cons_zero, List.getElem?_cons_succ] at p0 r0 r1 q0 q1
  have n1 : b ≠ w.heap.size := by omega
  have n2 : w.heap.size ≠ b := by omega
  have n3 : ¬ (b = w.heap.size) := n1
  go_wp2_with fail
  go_region_held3 (fun w' => w'.cell? ⟨w.heap.size + 1, 0, none⟩ = some (.pointer (some ⟨b, 0, none⟩)) ∧ w'.cell? ⟨b, 0, none⟩ = some (.int .i64 i) ∧ w'.cell? ⟨b, 1, none⟩ = some (.iface 224 (.pointer (some ac)))) (go_keep)
    ((go_at_call 48; refine (unhide Hc w1.drew ((unhide S1).drew)).mono ?_; rintro e w2 ⟨rfl, hw2⟩; rw [hw2]; clear hw2))
  all_goals
    go_wp2_with fail
    have RF := (R0'.set 0 (.int .i64 c)).set 1 (.int .i64 i)
    have BF := ((B1.setCell (p := ⟨w.heap.size, 0, none⟩) (Nat.le_refl _) (.int .i64 c)).setCell (p := ⟨w.heap.size, 1, none⟩) (Nat.le_refl _) (.int .i64 i)).drew
    have g0 : _ = some (Value.int .i64 c) := RF.cell 0
    have g1 : _ = some (Value.int .i64 i) := RF.cell 1
    exact bodyPost_ret (resX_fault Tryz.results24 rfl g0 g1) rfl ⟨rfl, BF⟩


theorem as_assignableE (w : World) : (ReflectliteType.relation "AssignableTo" ReflectliteType.assignableTo #[.agg #[.pointer (some ⟨14, 224, none⟩)], .iface 177 (.agg #[.pointer (some ⟨14, 97, none⟩)])]).run Tryz.prog w = .ok (.bool false) w := by kernel_rfl
theorem noAsE (v : Value) (xT : TypeId) (w : World) : (Instr.typeAssert (.iface 224 v) xT 182 true).run Tryz.prog w = .ok (.tuple #[.nilIface, .bool false]) w := run_typeAssert_lacksB Tryz.underlying182 (by kernel_rfl) (by kernel_rfl) v xT w

set_option maxHeartbeats 4000000 in
theorem as_miss (e t : Addr) (old : Value) (w : World) (hg : w.cell? ⟨2, 0, none⟩ = some (.iface 177 (.agg #[.pointer (some ⟨14, 59, none⟩)]))) (ht0 : w.cell? t = some old) (hf0 : w.frozen? t = false) :
    Calls Tryz.prog 47 #[.iface 224 (.pointer (some e)), .iface 99 (.pointer (some t))] w fun ev w' => ev = .returned (.bool false) ∧ Below w.heap.size w w' := by
  have h6 := @run_callFunc_extern Tryz.prog 70 _ (fun args => ReflectliteValue.unpack (args.getD 0 (.tuple #[]))) Tryz.func70 (by kernel_rfl) (by kernel_rfl) (by kernel_rfl) (by kernel_rfl)
  have h7 := @run_callFunc_extern Tryz.prog 71 _ (ReflectliteValue.methodAny (ReflectliteValue.valueError "reflectlite.Value.Type" 0) (fun t _ _ _ => ReflectliteType.toType t)) Tryz.func71 (by kernel_rfl) (by kernel_rfl) (by kernel_rfl) (by kernel_rfl)
  have h8 := @run_callFunc_extern Tryz.prog 72 _ (ReflectliteValue.method (ReflectliteValue.valueError "reflectlite.Value.IsNil" 0) ReflectliteValue.isNil) Tryz.func72 (by kernel_rfl) (by kernel_rfl) (by kernel_rfl) (by kernel_rfl)
  have h27 := @run_callFunc_extern Tryz.prog 138 _ (ReflectliteType.abiMethod fun t => do pure (.int .u8 (← Rtype.kind t))) Tryz.func138 (by kernel_rfl) (by kernel_rfl) (by kernel_rfl) (by kernel_rfl)
  have h37 := @run_callFunc_extern Tryz.prog 157 _ (ReflectliteType.method ReflectliteType.elem) Tryz.func157 (by kernel_rfl) (by kernel_rfl) (by kernel_rfl) (by kernel_rfl)
  have h38 := @run_callFunc_extern Tryz.prog 158 _ (ReflectliteType.relation "Implements" ReflectliteType.implements_) Tryz.func158 (by kernel_rfl) (by kernel_rfl) (by kernel_rfl) (by kernel_rfl)
  have h10 := @run_callFunc_extern Tryz.prog 97 _ ReflectliteType.typeOf Tryz.func97 (by kernel_rfl) (by kernel_rfl) (by kernel_rfl) (by kernel_rfl)
  have h35 := @run_callFunc_extern Tryz.prog 155 _ (ReflectliteType.relation "AssignableTo" ReflectliteType.assignableTo) Tryz.func155 (by kernel_rfl) (by kernel_rfl) (by kernel_rfl) (by kernel_rfl)
  have h11 := @run_callFunc_extern Tryz.prog 98 _ (ReflectliteValue.method (ReflectliteValue.valueError "reflectlite.Value.Elem" 0) ReflectliteValue.elem) Tryz.func98 (by kernel_rfl) (by kernel_rfl) (by kernel_rfl) (by kernel_rfl)
  have h12 := @run_callFunc_extern Tryz.prog 99 _ ReflectliteValue.set Tryz.func99 (by kernel_rfl) (by kernel_rfl) (by kernel_rfl) (by kernel_rfl)
  have tO := isTypeOf
  have mA := as_methodAssignableTo
  have a25 := as_assignableE
  have nA := noAsE
  have nU := noUnwrapE
  have nV := noUnwrapsE
  have f6 := as_valueOf27
  have f7 := as_type27
  have mK := as_methodKind
  have mE := as_methodElem
  have mI := as_methodImplements
  have k27 := as_kind27
  have k25 := as_kind25
  have e27 := as_elem27
  have i25 := as_implements25
  have n8 := as_isNil27 ⟨w.heap.size, 0, none⟩ t ((w.alloc (.cells #[.pointer (some t)] 99)).alloc (.cells #[.pointer (some ⟨14, 99, none⟩), .pointer (some ⟨w.heap.size, 0, none⟩), .int .u64 150] 137)) (by simp)
  have hlt : 2 < w.heap.size := by
    rcases Nat.lt_or_ge 2 w.heap.size with h | h
    · exact h
    · simp [World.cell?, Array.getElem?_eq_none h] at hg
  have hg2 : ((w.alloc (.cells #[.pointer (some t)] 99)).alloc (.cells #[.pointer (some ⟨14, 99, none⟩), .pointer (some ⟨w.heap.size, 0, none⟩), .int .u64 150] 137)).cell? ⟨2, 0, none⟩ = some (.iface 177 (.agg #[.pointer (some ⟨14, 59, none⟩)])) := by
    rw [World.cell?_alloc_lt _ _ ⟨2, 0, none⟩ (by simp; omega), World.cell?_alloc_lt _ _ ⟨2, 0, none⟩ hlt]; exact hg
  have htl : t.block < w.heap.size := by
    rcases Nat.lt_or_ge t.block w.heap.size with h | h
    · exact h
    · simp [World.cell?, Array.getElem?_eq_none h] at ht0
  have B3 := (((Below.refl w.heap.size w).alloc (Nat.le_refl _) (.cells #[.pointer (some t)] 99)).alloc (by simp) (.cells #[.pointer (some ⟨14, 99, none⟩), .pointer (some ⟨w.heap.size, 0, none⟩), .int .u64 150] 137)).alloc (by simp; omega) (.cells #[.pointer (some ⟨14, 99, none⟩), .pointer (some ⟨w.heap.size, 0, none⟩), .int .u64 150] 137)
  go_enter Tryz.func47, Tryz.ntmps47
  go_wp2
  refine wp_loop_rounds 1 ?_
  rw [rounds_succ]
  go_wp2
  go_ret
  exact ⟨rfl, B3⟩

set_option maxHeartbeats 1600000 in
theorem faultX_shape (aX : Addr) (w : World) (hs : Sn9 w aX a1 a2 a3 a4 a5 a6 a7 a8 a9) :
    Calls Tryz.prog 24 #[.iface 224 (.pointer (some aX))] w fun e w' => e = .returned (.agg #[.int .i64 10, .int .i64 0]) ∧ Below w.heap.size w w' := by
  have B0 := ((Below.refl w.heap.size w).alloc (Nat.le_refl _) (.cells #[.int .i64 0, .int .i64 0] 33)).alloc (by simp) (.cells #[.pointer none] 97)
  have R0 := (Row.new w #[.int .i64 0, .int .i64 0] 33).alloc (.cells #[.pointer none] 97)
  have RP := Row.new (w.alloc (.cells #[.int .i64 0, .int .i64 0] 33)) #[.pointer none] 97
  have S0 := hide (hs.below B0 (Nat.le_refl _)).gE
  simp only [World.size_alloc] at RP
  clear hs
  go_enter Tryz.func24, Tryz.ntmps24
  go_wp2_with fail
  generalize (w.alloc (.cells #[.int .i64 0, .int .i64 0] 33)).alloc (.cells #[.pointer none] 97) = W at *
  have hcell := RP.cell 0
  refine (as_miss aX ⟨w.heap.size + 1, 0, none⟩ (.pointer none) W (unhide S0) (by simpa using hcell) (RP.frozen 0)).mono ?_
  rintro e w1 ⟨rfl, hb1⟩
  have B1 := B0.trans (hb1.mono B0.size)
  have R1 := R0.after hb1 (Nat.le_refl _)
  have f0 := fun k => R1.frozen k
  have q0 : w1.cell? ⟨w.heap.size, 0, none⟩ = some (.int .i64 0) := R1.cell 0
  have q1 : w1.cell? ⟨w.heap.size, 1, none⟩ = some (.int .i64 0) := R1.cell 1
  clear B0 R0 RP S0 hcell
  go_wp2_with fail
  have RF := (R1.set 0 (.int .i64 10)).set 1 (.int .i64 0)
  have BF := (B1.setCell (p := ⟨w.heap.size, 0, none⟩) (Nat.le_refl _) (.int .i64 10)).setCell (p := ⟨w.heap.size, 1, none⟩) (Nat.le_refl _) (.int .i64 0)
  have g0 : _ = some (Value.int .i64 10) := RF.cell 0
  have g1 : _ = some (Value.int .i64 0) := RF.cell 1
  exact bodyPost_ret (resX_fault Tryz.results24 rfl g0 g1) rfl ⟨rfl, BF⟩

end Go.Proofs.YtddpcehgopeklaaGreatDoor

/-
  ECK, ECL, VPO, ZT10. Own work.
-/
import Derived.Test.YtddpcehgopeklaaGreatDoorMXAW
import Derived.Test.YtddpcehgopeklaaGreatDoorMXAF
import Derived.Deep.RegionHeld3
import Derived.Deep.RegionLaw
import Derived.Test.YtddpcehgopeklaaGreatDoorMXAQ
import Derived.Test.YtddpcehgopeklaaGreatDoorMXAI
namespace Go.Proofs.YtddpcehgopeklaaGreatDoor
open Go.RowKit
set_option linter.unusedVariables false

/-- what a name becomes -/
def rsN (D : List Dc) (i : Int) (s : ByteArray) : Ex := match fnd D s with
  | some d => if d.isLet then .lett i d.num else .attr i d.num
  | none => .attr i 0

/-- a tree with its names resolved -/
def rbE (D : List Dc) : Ex → Ex
  | .name i s => rsN D i s
  | .un i op k => .un i op (rbE D k)
  | .bin i op l r => .bin i op (rbE D l) (rbE D r)
  | .ite i c t e => .ite i (rbE D c) (rbE D t) (rbE D e)
  | e => e

set_option maxRecDepth 100000 in
theorem resolved_other (cb : Nat) (T : TypeId) (v : Value) (hT : T ≠ 127) (w : World) :
    Calls Tryz.prog 45 #[.pointer (some ⟨cb, 0, none⟩), .iface T v] w fun r w' => r = .returned (.iface T v) ∧ Below w.heap.size w w' := by
  have a0 := ta_miss (S := T) (T := 127) Tryz.underlying127 Tryz.zeroValue127 hT 88
  clear hT
  have B0 := (Below.refl w.heap.size w).alloc (Nat.le_refl _) (.cells #[.int .i64 0, .string ByteArray.empty] 127)
  go_enter Tryz.func45, Tryz.ntmps45
  go_wp2_with fail
  go_ret
  first
    | exact ⟨rfl, B0⟩
    | exact ⟨rfl, Below.refl _ _⟩

set_option maxHeartbeats 800000 in
set_option maxRecDepth 100000 in
theorem resolved_name (cb mb : Nat) (D : List Dc) (i : Int) (s : ByteArray) (w : World) (hc : w.cell? ⟨cb, 0, none⟩ = some (.map (some mb))) (hcb : cb < w.heap.size) (hM : MapD w mb D) :
    Calls Tryz.prog 45 #[.pointer (some ⟨cb, 0, none⟩), .iface 127 (.agg #[.int .i64 i, .string s])] w fun r w' => r = .returned (rsN D i s).val ∧ Below w.heap.size w w' := by
  have a4 := ta_hit (T := 127) Tryz.underlying127 88
  have B0 := (Below.refl w.heap.size w).alloc (Nat.le_refl _) (.cells #[.int .i64 i, .string s] 127)
  have R0 := Row.new w #[.int .i64 i, .string s] 127
  have HM := hide (hM.below B0)
  have c0 := (B0.cell (p := ⟨cb, 0, none⟩) hcb).trans hc
  have hne : w.heap.size ≠ cb := by omega
  clear hM hc
  obtain ⟨b, n, t, hv, hr⟩ : ∃ b n t, lookV (fnd D s) = .agg #[.bool b, .int .i64 n, .int .i64 t] ∧ rsN D i s = if b then .lett i n else .attr i n := by
    unfold rsN
    cases fnd D s with
    | none => exact ⟨false, 0, 0, rfl, rfl⟩
    | some d => exact ⟨d.isLet, d.num, d.typ, rfl, rfl⟩
  rw [hr]
  clear hr
  have HV := hide hv
  clear hv
  go_enter Tryz.func45, Tryz.ntmps45
  go_wp2_with fail
  have W0E : ∃ W0, W0 = w.alloc (.cells #[.int .i64 i, .string s] 127) := ⟨_, rfl⟩
  obtain ⟨W0, hW0⟩ := W0E
  rw [← hW0] at B0 R0 HM c0 ⊢
  clear hW0
  have A1 := (Below.refl W0.heap.size W0).alloc (Nat.le_refl _) (.cells #[.bool false, .int .i64 0, .int .i64 0] 122)
  have HM1 := hide ((unhide HM).below A1)
  have R1 := R0.alloc (.cells #[.bool false, .int .i64 0, .int .i64 0] 122)
  have RD := Row.new W0 #[.bool false, .int .i64 0, .int .i64 0] 122
  have lcb : cb < W0.heap.size := Nat.lt_of_lt_of_le hcb B0.size
  have lsz : w.heap.size < W0.heap.size := R0.lt
  have c1 := (A1.cell (p := ⟨cb, 0, none⟩) lcb).trans c0
  have r0 : W0.cell? ⟨w.heap.size, 0, none⟩ = some (.int .i64 i) := R0.cell 0
  have r1 : W0.cell? ⟨w.heap.size, 1, none⟩ = some (.string s) := R0.cell 1
  have p0 : (W0.alloc (.cells #[.bool false, .int .i64 0, .int .i64 0] 122)).cell? ⟨w.heap.size, 0, none⟩ = some (.int .i64 i) := R1.cell 0
  have p1 : (W0.alloc (.cells #[.bool false, .int .i64 0, .int .i64 0] 122)).cell? ⟨w.heap.size, 1, none⟩ = some (.string s) := R1.cell 1
  have d0 : (W0.alloc (.cells #[.bool false, .int .i64 0, .int .i64 0] 122)).cell? ⟨W0.heap.size, 0, none⟩ = some (.bool false) := RD.cell 0
  have d1 : (W0.alloc (.cells #[.bool false, .int .i64 0, .int .i64 0] 122)).cell? ⟨W0.heap.size, 1, none⟩ = some (.int .i64 0) := RD.cell 1
  have d2 : (W0.alloc (.cells #[.bool false, .int .i64 0, .int .i64 0] 122)).cell? ⟨W0.heap.size, 2, none⟩ = some (.int .i64 0) := RD.cell 2
  have df := fun k => RD.frozen k
  have hlk := look_D1 W0.drew mb D s ((unhide HM).keep rfl)
  rw [unhide HV] at hlk
  have hlk2 := look_D1 (W0.alloc (.cells #[.bool false, .int .i64 0, .int .i64 0] 122)).drew mb D s ((unhide HM1).keep rfl)
  rw [unhide HV] at hlk2
  go_region
  all_goals
    have B1 := B0.alloc B0.size (.cells #[.bool b, .int .i64 n, .int .i64 t] 122)
    have RR := Row.new W0 #[.bool b, .int .i64 n, .int .i64 t] 122
    have RN := R0.alloc (.cells #[.bool b, .int .i64 n, .int .i64 t] 122)
    clear hlk hlk2 d0 d1 d2 df p0 p1 c1 RD R1 A1 HM HM1
    have W1E : ∃ W1, W1 = W0.alloc (.cells #[.bool b, .int .i64 n, .int .i64 t] 122) := ⟨_, rfl⟩
    obtain ⟨W1, hW1⟩ := W1E
    rw [← hW1] at B1 RR RN ⊢
    clear hW1
    have e0 : W1.cell? ⟨W0.heap.size, 0, none⟩ = some (.bool b) := RR.cell 0
    have e1 : W1.cell? ⟨W0.heap.size, 1, none⟩ = some (.int .i64 n) := RR.cell 1
    have n0 : W1.cell? ⟨w.heap.size, 0, none⟩ = some (.int .i64 i) := RN.cell 0
    cases b
    · go_wp2_with fail
      go_ret
      exact ⟨rfl, B1.drew⟩
    · go_wp2_with fail
      go_ret
      exact ⟨rfl, B1.drew⟩

end Go.Proofs.YtddpcehgopeklaaGreatDoor

namespace Go.Proofs.YtddpcehgopeklaaGreatDoor
open Go.RowKit
set_option linter.unusedVariables false

theorem row4E {w : World} {b : Nat} {v0 v1 v2 v3 : Value} {t : TypeId} (R : Row w b #[v0, v1, v2, v3] t) : w.cell? ⟨b, 0, none⟩ = some v0 ∧ w.cell? ⟨b, 1, none⟩ = some v1 ∧ w.cell? ⟨b, 2, none⟩ = some v2 ∧ w.cell? ⟨b, 3, none⟩ = some v3 := ⟨R.cell 0, R.cell 1, R.cell 2, R.cell 3⟩

/-- what is said of a tree made anew -/
def RbV (cb : Nat) (w0 : World) (v v' : Value) : Prop :=
  ∀ w, Below w0.heap.size w0 w → Calls Tryz.prog 68 #[v, .func (.func 45) #[.pointer (some ⟨cb, 0, none⟩)] #[]] w fun r w' => r = .returned v' ∧ Below w.heap.size w w'

set_option maxRecDepth 100000 in
theorem rebuild_nil (cb : Nat) (w0 : World) : RbV cb w0 .nilIface .nilIface := by
  intro w hw
  go_enter Tryz.func68, Tryz.ntmps68
  go_wp2_with fail
  go_ret
  exact ⟨rfl, Below.refl _ _⟩

set_option maxRecDepth 100000 in
theorem rebuild_leaf (cb : Nat) (w0 : World) (T : TypeId) (v v' : Value) (h1 : T ≠ 168) (h2 : T ≠ 170) (h3 : T ≠ 172)
    (HC : Hid (∀ W, Below w0.heap.size w0 W → Calls Tryz.prog 45 #[.pointer (some ⟨cb, 0, none⟩), .iface T v] W fun r w' => r = .returned v' ∧ Below W.heap.size W w')) : RbV cb w0 (.iface T v) v' := by
  intro w hw
  have a0 := ta_miss (S := T) (T := 168) Tryz.underlying168 Tryz.zeroValue168 h1 88
  have a1 := ta_miss (S := T) (T := 170) Tryz.underlying170 Tryz.zeroValue170 h2 88
  have a2 := ta_miss (S := T) (T := 172) Tryz.underlying172 Tryz.zeroValue172 h3 88
  have Hw := hide hw
  clear hw h1 h2 h3
  go_enter Tryz.func68, Tryz.ntmps68
  go_wp2_with fail
  refine (unhide HC _ (unhide Hw)).mono ?_
  rintro r w1 ⟨rfl, hb1⟩
  dsimp only
  go_wp2_with fail
  go_ret
  exact ⟨rfl, hb1⟩

set_option maxHeartbeats 1600000 in
set_option maxRecDepth 100000 in
theorem rebuild_un (cb : Nat) (w0 : World) (i op : Int) (t1 : TypeId) (u1 : Value) (t1' : TypeId) (u1' : Value) (V1 : Hid (RbV cb w0 (.iface t1 u1) (.iface t1' u1'))) :
    RbV cb w0 (.iface 168 (.agg #[.int .i64 i, .int .i64 op, .iface t1 u1])) (.iface 168 (.agg #[.int .i64 i, .int .i64 op, .iface t1' u1'])) := by
  intro w hw
  have a0 := ta_hit (T := 168) Tryz.underlying168 88
  have Hw := hide hw
  have hB := hw.size
  have B0 := (Below.refl w.heap.size w).alloc (Nat.le_refl _) (.cells #[.int .i64 i, .int .i64 op, .iface t1 u1] 168)
  have R0 := Row.new w #[.int .i64 i, .int .i64 op, .iface t1 u1] 168
  have HR := hide (fun W => resolved_other cb 168 (.agg #[.int .i64 i, .int .i64 op, .iface t1' u1']) (by decide) W)
  clear hw
  go_enter Tryz.func68, Tryz.ntmps68
  go_wp2_with fail
  refine (unhide V1 _ ((unhide Hw).alloc hB _)).mono ?_
  rintro r w1 ⟨rfl, hb1⟩
  have B1 := B0.trans (hb1.mono B0.size)
  have R1 := R0.after hb1 (Nat.le_refl _)
  clear B0 R0 hb1
  have f1 := R1.frozen 2
  obtain ⟨r0, r1, r2, _⟩ := row3 R1
  have R2 := R1.set 2 (.iface t1' u1')
  have B2 := B1.setCell (p := ⟨w.heap.size, 2, none⟩) (Nat.le_refl _) (.iface t1' u1')
  obtain ⟨p0, p1, p2, _⟩ := row3 R2
  dsimp only
  go_wp2_with fail
  refine (unhide HR _).mono ?_
  rintro r w3 ⟨rfl, hb3⟩
  dsimp only
  go_wp2_with fail
  go_ret
  exact ⟨rfl, B2.trans (hb3.mono B2.size)⟩

set_option maxHeartbeats 1600000 in
set_option maxRecDepth 100000 in
theorem rebuild_bin (cb : Nat) (w0 : World) (i op : Int) (t1 : TypeId) (u1 : Value) (t1' : TypeId) (u1' : Value) (V1 : Hid (RbV cb w0 (.iface t1 u1) (.iface t1' u1'))) (t2 : TypeId) (u2 : Value) (t2' : TypeId) (u2' : Value) (V2 : Hid (RbV cb w0 (.iface t2 u2) (.iface t2' u2'))) :
    RbV cb w0 (.iface 170 (.agg #[.int .i64 i, .int .i64 op, .iface t1 u1, .iface t2 u2])) (.iface 170 (.agg #[.int .i64 i, .int .i64 op, .iface t1' u1', .iface t2' u2'])) := by
  intro w hw
  have a0 := ta_miss (S := 170) (T := 168) Tryz.underlying168 Tryz.zeroValue168 (by decide) 88
  have a1 := ta_hit (T := 170) Tryz.underlying170 88
  have Hw := hide hw
  have hB := hw.size
  have B0 := (Below.refl w.heap.size w).alloc (Nat.le_refl _) (.cells #[.int .i64 i, .int .i64 op, .iface t1 u1, .iface t2 u2] 170)
  have R0 := Row.new w #[.int .i64 i, .int .i64 op, .iface t1 u1, .iface t2 u2] 170
  have HR := hide (fun W => resolved_other cb 170 (.agg #[.int .i64 i, .int .i64 op, .iface t1' u1', .iface t2' u2']) (by decide) W)
  clear hw
  go_enter Tryz.func68, Tryz.ntmps68
  go_wp2_with fail
  have W0E : ∃ W0, W0 = w.alloc (.cells #[.int .i64 i, .int .i64 op, .iface t1 u1, .iface t2 u2] 170) := ⟨_, rfl⟩
  obtain ⟨W0, hW0⟩ := W0E
  rw [← hW0] at B0 R0 ⊢
  clear hW0
  have HW := hide ((unhide Hw).trans (B0.mono hB))
  have hnm : (Tryz.f68.name == "runtime.NumGoroutine") = false := by kernel_rfl
  have hbd : Tryz.f68.body.isNone = false := by kernel_rfl
  have r2 : W0.cell? ⟨w.heap.size, 2, none⟩ = some (.iface t1 u1) := R0.cell 2
  have r3 : W0.cell? ⟨w.heap.size, 3, none⟩ = some (.iface t2 u2) := R0.cell 3
  have D0 : Below W0.heap.size W0 W0.drew := (Below.refl _ _).drew
  go_region_law (first
    | (refine step_callR2 rfl 68 _ Tryz.func68 hnm hbd _ _ _ rfl (.iface t1 u1) (.func (.func 45) #[.pointer (some ⟨cb, 0, none⟩)] #[]) rfl rfl (fun v' w' => v' = .iface t1' u1' ∧ Below W0.heap.size W0 w') ((unhide V1 _ (unhide HW).drew).mono (fun r w' h => ⟨_, h.1, rfl, D0.trans h.2⟩)) ?_; rintro v1 w1 ⟨rfl, hb1⟩; have R1 := R0.after hb1 (Nat.le_refl _); have s3 : w1.cell? ⟨w.heap.size, 3, none⟩ = some (.iface t2 u2) := R1.cell 3; have B1 := B0.trans (hb1.mono B0.size))
    | (refine step_callR2 rfl 68 _ Tryz.func68 hnm hbd _ _ _ rfl (.iface t2 u2) (.func (.func 45) #[.pointer (some ⟨cb, 0, none⟩)] #[]) rfl rfl (fun v' w' => v' = .iface t2' u2' ∧ Below w1.heap.size w1 w') ((unhide V2 _ ((unhide Hw).trans (B1.mono hB))).mono (fun r w' h => ⟨_, h.1, rfl, h.2⟩)) ?_; rintro v2 w2 ⟨rfl, hb2⟩; have R2 := R1.after hb2 (Nat.le_refl _); have p2 : w2.cell? ⟨w.heap.size, 2, none⟩ = some (.iface t1 u1) := R2.cell 2; have p3 : w2.cell? ⟨w.heap.size, 3, none⟩ = some (.iface t2 u2) := R2.cell 3; have pf := fun k => R2.frozen k; have B2 := B1.trans (hb2.mono B1.size)))
  all_goals
    have R3 := (R2.set 2 (.iface t1' u1')).set 3 (.iface t2' u2')
    have B3 := (B2.setCell (p := ⟨w.heap.size, 2, none⟩) (Nat.le_refl _) (.iface t1' u1')).setCell (p := ⟨w.heap.size, 3, none⟩) (Nat.le_refl _) (.iface t2' u2')
    clear p2 p3 pf s3 r2 r3
    have W3E : ∃ W3, W3 = (w2.setCell ⟨w.heap.size, 2, none⟩ (.iface t1' u1')).setCell ⟨w.heap.size, 3, none⟩ (.iface t2' u2') := ⟨_, rfl⟩
    obtain ⟨W3, hW3⟩ := W3E
    rw [← hW3] at R3 B3 ⊢
    clear hW3
    obtain ⟨q0, q1, q2, q3⟩ := row4E R3
    go_wp2_with fail
    refine (unhide HR _).mono ?_
    rintro r w5 ⟨rfl, hb5⟩
    dsimp only
    go_wp2_with fail
    go_ret
    exact ⟨rfl, B3.trans (hb5.mono B3.size)⟩

set_option maxHeartbeats 1600000 in
set_option maxRecDepth 100000 in
theorem rebuild_ite (cb : Nat) (w0 : World) (i : Int) (t1 : TypeId) (u1 : Value) (t1' : TypeId) (u1' : Value) (V1 : Hid (RbV cb w0 (.iface t1 u1) (.iface t1' u1'))) (t2 : TypeId) (u2 : Value) (t2' : TypeId) (u2' : Value) (V2 : Hid (RbV cb w0 (.iface t2 u2) (.iface t2' u2'))) (t3 : TypeId) (u3 : Value) (t3' : TypeId) (u3' : Value) (V3 : Hid (RbV cb w0 (.iface t3 u3) (.iface t3' u3'))) :
    RbV cb w0 (.iface 172 (.agg #[.int .i64 i, .iface t1 u1, .iface t2 u2, .iface t3 u3])) (.iface 172 (.agg #[.int .i64 i, .iface t1' u1', .iface t2' u2', .iface t3' u3'])) := by
  intro w hw
  have a0 := ta_miss (S := 172) (T := 168) Tryz.underlying168 Tryz.zeroValue168 (by decide) 88
  have a2 := ta_miss (S := 172) (T := 170) Tryz.underlying170 Tryz.zeroValue170 (by decide) 88
  have a1 := ta_hit (T := 172) Tryz.underlying172 88
  have Hw := hide hw
  have hB := hw.size
  have B0 := (Below.refl w.heap.size w).alloc (Nat.le_refl _) (.cells #[.int .i64 i, .iface t1 u1, .iface t2 u2, .iface t3 u3] 172)
  have R0 := Row.new w #[.int .i64 i, .iface t1 u1, .iface t2 u2, .iface t3 u3] 172
  have HR := hide (fun W => resolved_other cb 172 (.agg #[.int .i64 i, .iface t1' u1', .iface t2' u2', .iface t3' u3']) (by decide) W)
  clear hw
  go_enter Tryz.func68, Tryz.ntmps68
  go_wp2_with fail
  have W0E : ∃ W0, W0 = w.alloc (.cells #[.int .i64 i, .iface t1 u1, .iface t2 u2, .iface t3 u3] 172) := ⟨_, rfl⟩
  obtain ⟨W0, hW0⟩ := W0E
  rw [← hW0] at B0 R0 ⊢
  clear hW0
  have HW := hide ((unhide Hw).trans (B0.mono hB))
  have hnm : (Tryz.f68.name == "runtime.NumGoroutine") = false := by kernel_rfl
  have hbd : Tryz.f68.body.isNone = false := by kernel_rfl
  have r2 : W0.cell? ⟨w.heap.size, 1, none⟩ = some (.iface t1 u1) := R0.cell 1
  have r3 : W0.cell? ⟨w.heap.size, 2, none⟩ = some (.iface t2 u2) := R0.cell 2
  have D0 : Below W0.heap.size W0 W0.drew := (Below.refl _ _).drew
  go_region_law (first
    | (refine step_callR2 rfl 68 _ Tryz.func68 hnm hbd _ _ _ rfl (.iface t1 u1) (.func (.func 45) #[.pointer (some ⟨cb, 0, none⟩)] #[]) rfl rfl (fun v' w' => v' = .iface t1' u1' ∧ Below W0.heap.size W0 w') ((unhide V1 _ (unhide HW).drew).mono (fun r w' h => ⟨_, h.1, rfl, D0.trans h.2⟩)) ?_; rintro v1 w1 ⟨rfl, hb1⟩; have R1 := R0.after hb1 (Nat.le_refl _); have s3 : w1.cell? ⟨w.heap.size, 2, none⟩ = some (.iface t2 u2) := R1.cell 2; have B1 := B0.trans (hb1.mono B0.size))
    | (refine step_callR2 rfl 68 _ Tryz.func68 hnm hbd _ _ _ rfl (.iface t2 u2) (.func (.func 45) #[.pointer (some ⟨cb, 0, none⟩)] #[]) rfl rfl (fun v' w' => v' = .iface t2' u2' ∧ Below w1.heap.size w1 w') ((unhide V2 _ ((unhide Hw).trans (B1.mono hB))).mono (fun r w' h => ⟨_, h.1, rfl, h.2⟩)) ?_; rintro v2 w2 ⟨rfl, hb2⟩; have R2 := R1.after hb2 (Nat.le_refl _); have p2 : w2.cell? ⟨w.heap.size, 1, none⟩ = some (.iface t1 u1) := R2.cell 1; have p3 : w2.cell? ⟨w.heap.size, 2, none⟩ = some (.iface t2 u2) := R2.cell 2; have pf := fun k => R2.frozen k; have B2 := B1.trans (hb2.mono B1.size)))
  all_goals
    have R3 := (R2.set 1 (.iface t1' u1')).set 2 (.iface t2' u2')
    have B3 := (B2.setCell (p := ⟨w.heap.size, 1, none⟩) (Nat.le_refl _) (.iface t1' u1')).setCell (p := ⟨w.heap.size, 2, none⟩) (Nat.le_refl _) (.iface t2' u2')
    clear p2 p3 pf s3 r2 r3
    have W3E : ∃ W3, W3 = (w2.setCell ⟨w.heap.size, 1, none⟩ (.iface t1' u1')).setCell ⟨w.heap.size, 2, none⟩ (.iface t2' u2') := ⟨_, rfl⟩
    obtain ⟨W3, hW3⟩ := W3E
    rw [← hW3] at R3 B3 ⊢
    clear hW3
    obtain ⟨q0, q1, q2, q3⟩ := row4E R3
    have f3 := R3.frozen 3
    go_wp2_with fail
    refine (unhide V3 _ ((unhide Hw).trans (B3.mono hB))).mono ?_
    rintro r w4 ⟨rfl, hb4⟩
    have R4 := R3.after hb4 (Nat.le_refl _)
    have B4 := B3.trans (hb4.mono B3.size)
    clear q0 q1 q2 q3 f3
    have R5 := R4.set 3 (.iface t3' u3')
    have B5 := B4.setCell (p := ⟨w.heap.size, 3, none⟩) (Nat.le_refl _) (.iface t3' u3')
    obtain ⟨s0, s1, s2, s4⟩ := row4E R4
    obtain ⟨p0, p1, p2, p3⟩ := row4E R5
    have f4 := R4.frozen 3
    dsimp only
    go_wp2_with fail
    refine (unhide HR _).mono ?_
    rintro r w5 ⟨rfl, hb5⟩
    dsimp only
    go_wp2_with fail
    go_ret
    exact ⟨rfl, B5.trans (hb5.mono B5.size)⟩

/-- any tree, made anew -/
theorem rebuild_any (cb mb : Nat) (D : List Dc) (w0 : World) (hc : w0.cell? ⟨cb, 0, none⟩ = some (.map (some mb))) (hcb : cb < w0.heap.size) (hM : MapD w0 mb D) : ∀ (e : Ex), RbV cb w0 e.val (rbE D e).val
  | .name i s => rebuild_leaf cb w0 _ _ _ (by decide) (by decide) (by decide) (hide fun W hW => resolved_name cb mb D i s W ((hW.cell (p := ⟨cb, 0, none⟩) hcb).trans hc) (Nat.lt_of_lt_of_le hcb hW.size) (hM.below hW))
  | .int i n => rebuild_leaf cb w0 _ _ _ (by decide) (by decide) (by decide) (hide fun W _ => resolved_other cb _ _ (by decide) W)
  | .text i n => rebuild_leaf cb w0 _ _ _ (by decide) (by decide) (by decide) (hide fun W _ => resolved_other cb _ _ (by decide) W)
  | .bool i n => rebuild_leaf cb w0 _ _ _ (by decide) (by decide) (by decide) (hide fun W _ => resolved_other cb _ _ (by decide) W)
  | .set i a n c ss => rebuild_leaf cb w0 _ _ _ (by decide) (by decide) (by decide) (hide fun W _ => resolved_other cb _ _ (by decide) W)
  | .attr i n => rebuild_leaf cb w0 _ _ _ (by decide) (by decide) (by decide) (hide fun W _ => resolved_other cb _ _ (by decide) W)
  | .lett i n => rebuild_leaf cb w0 _ _ _ (by decide) (by decide) (by decide) (hide fun W _ => resolved_other cb _ _ (by decide) W)
  | .un i op k => by
    have h1 := rebuild_any cb mb D w0 hc hcb hM k
    obtain ⟨t1, u1, e1⟩ := k.form
    obtain ⟨t1', u1', e1'⟩ := (rbE D k).form
    rw [e1, e1'] at h1
    rw [rbE, Ex.val, Ex.val, e1, e1']
    exact rebuild_un cb w0 i op t1 u1 t1' u1' (hide h1)
  | .bin i op k l => by
    have h1 := rebuild_any cb mb D w0 hc hcb hM k
    have h2 := rebuild_any cb mb D w0 hc hcb hM l
    obtain ⟨t1, u1, e1⟩ := k.form
    obtain ⟨t1', u1', e1'⟩ := (rbE D k).form
    obtain ⟨t2, u2, e2⟩ := l.form
    obtain ⟨t2', u2', e2'⟩ := (rbE D l).form
    rw [e1, e1'] at h1
    rw [e2, e2'] at h2
    rw [rbE, Ex.val, Ex.val, e1, e1', e2, e2']
    exact rebuild_bin cb w0 i op t1 u1 t1' u1' (hide h1) t2 u2 t2' u2' (hide h2)
  | .ite i k l m => by
    have h1 := rebuild_any cb mb D w0 hc hcb hM k
    have h2 := rebuild_any cb mb D w0 hc hcb hM l
    have h3 := rebuild_any cb mb D w0 hc hcb hM m
    obtain ⟨t1, u1, e1⟩ := k.form
    obtain ⟨t1', u1', e1'⟩ := (rbE D k).form
    obtain ⟨t2, u2, e2⟩ := l.form
    obtain ⟨t2', u2', e2'⟩ := (rbE D l).form
    obtain ⟨t3, u3, e3⟩ := m.form
    obtain ⟨t3', u3', e3'⟩ := (rbE D m).form
    rw [e1, e1'] at h1
    rw [e2, e2'] at h2
    rw [e3, e3'] at h3
    rw [rbE, Ex.val, Ex.val, e1, e1', e2, e2', e3, e3']
    exact rebuild_ite cb w0 i t1 u1 t1' u1' (hide h1) t2 u2 t2' u2' (hide h2) t3 u3 t3' u3' (hide h3)

end Go.Proofs.YtddpcehgopeklaaGreatDoor

namespace Go.Proofs.YtddpcehgopeklaaGreatDoor
open Go.RowKit
set_option linter.unusedVariables false

/-- the depths of the kids -/
def deepK (F : Int → Nat) (ks : List Int) : Nat := ks.foldl (fun d k => max d (F k)) 0

theorem deepK_snoc (F : Int → Nat) (ks : List Int) (k : Int) : deepK F (ks ++ [k]) = max (deepK F ks) (F k) := by
  rw [deepK, List.foldl_append]; rfl

theorem deepK_le {F : Int → Nat} {M : Nat} (h : ∀ k, F k ≤ M) : ∀ (ks : List Int) (d : Nat), d ≤ M → ks.foldl (fun d k => max d (F k)) d ≤ M
  | [], d, hd => hd
  | k :: ks, d, hd => by
    rw [List.foldl_cons]
    exact deepK_le h ks _ (by have := h k; omega)

theorem depthF_le (K : List (List Int)) : ∀ (n : Nat) (t : Int), depthF K n t ≤ n + 1
  | 0, t => by rw [depthF]; show 1 ≤ 0 + 1; omega
  | n + 1, t => by
    rw [depthF]
    dsimp only
    have := deepK_le (F := depthF K n) (M := n + 1) (depthF_le K n) (K.getD t.toNat []) 0 (by omega)
    omega

set_option maxRecDepth 100000 in
set_option maxHeartbeats 3200000 in
theorem l2depth_any (a : Option Addr) (n c : Nat) (N : List Nd) (w0 : World) (hN : Nds w0 a n c N) (hOK : ∀ t, (h : t < N.length) → ∀ y ∈ N[t].kids, 0 ≤ y ∧ y < (t : Int)) :
    ∀ (fuel t : Nat) (w : World), fuel ≤ 4001 → t < n → t < fuel → Below w0.heap.size w0 w →
    Calls Tryz.prog 59 #[.slice a n c, .int .i64 t] w fun e w' => e = .returned (.int .i64 (depthF (N.map Nd.kids) fuel (t : Int))) ∧ Below w.heap.size w w' := by
  have HL := hide hN.len
  have HOK := hide hOK
  clear hOK
  intro fuel
  induction fuel with
  | zero => intro t w _ _ h; omega
  | succ fuel ih =>
    intro t w hfl htn htf hb
    have htl : t < N.length := by rw [unhide HL]; exact htn
    have itn : (t : Int) < (n : Int) := by omega
    have hk := unhide HOK t htl
    have HW := hide (show depthF (N.map Nd.kids) (fuel + 1) (t : Int) = deepK (depthF (N.map Nd.kids) fuel) N[t].kids + 1 by
      rw [depthF]
      dsimp only
      rw [Int.toNat_natCast, List.getD_eq_getElem?_getD, List.getElem?_map, List.getElem?_eq_getElem htl]
      rfl)
    have HWL := hide (depthF_le (N.map Nd.kids) fuel)
    obtain ⟨b, off, rfl, hbl, an, nn, cn, ak, nk, ck, c0, c1, c2, c3, c4, hNm, hKd⟩ := hN.cells t htl
    have c4 := (hb.cell (p := ⟨b, off + t * 5 + 4, none⟩) hbl).trans c4
    rw [unhide HW]
    clear HW c0 c1 c2 c3
    generalize N[t] = x at c4 hNm hKd hk ⊢
    generalize depthF (N.map Nd.kids) fuel = F at ih HWL ⊢
    have HKL := hide hKd.len
    have hnk := hKd.small
    have Hk := hide hk
    clear hk
    go_enter Tryz.func59, Tryz.ntmps59
    go_wp2_with fail
    go_loopw [5, 15] (fun d i wr => ∃ j : Nat, j ≤ nk ∧ i = .int .i64 j ∧ d = .int .i64 (deepK F (x.kids.take j)) ∧ deepK F (x.kids.take j) ≤ 4001 ∧ Below w.heap.size w wr) (fun _ i _ => nk - (intOf i).toNat)
    case atStart => exact ⟨0, by omega, rfl, rfl, by simp [deepK], Below.refl _ _⟩
    case round =>
      obtain ⟨j, hj, rfl, rfl, hd, B1⟩ := hrel
      have E0 := hb.trans (B1.mono hb.size)
      by_cases hjl : j < nk
      · have ijl : (j : Int) < (nk : Int) := by omega
        have hjk : j < x.kids.length := by rw [unhide HKL]; exact hjl
        obtain ⟨bk, ok, rfl, hbk, ck0⟩ := (hKd.below E0 (Nat.le_refl _)).cells j hjk
        obtain ⟨hy0, hyt⟩ := unhide Hk x.kids[j] (List.getElem_mem hjk)
        have HS := hide (show deepK F (x.kids.take (j + 1)) = max (deepK F (x.kids.take j)) (F x.kids[j]) by rw [List.take_succ_eq_append_getElem hjk, deepK_snoc])
        have Hjl := hide hjl
        generalize x.kids[j] = y at ck0 hy0 hyt HS
        obtain ⟨s, rfl⟩ : ∃ s : Nat, y = (s : Int) := ⟨y.toNat, by omega⟩
        have hF := unhide HWL (s : Int)
        generalize deepK F (x.kids.take j) = D at hd HS
        by_cases hgt : D < F (s : Int)
        · have igt : (D : Int) < (F (s : Int) : Int) := by omega
          have HM := hide (show deepK F (x.kids.take (j + 1)) = F (s : Int) by rw [unhide HS]; omega)
          go_wp2_with (go_at_call 59; refine (ih s wr (by omega) (by omega) (by omega) E0).mono ?_; rintro e w2 ⟨rfl, hb2⟩)
          go_roundw
          case rel => exact ⟨j + 1, unhide Hjl, by go_num, by rw [unhide HM], by rw [unhide HM]; omega, B1.trans (hb2.mono B1.size)⟩
          case measure => have := unhide Hjl; simp [intOf]; omega
        · have igt : ¬ ((D : Int) < (F (s : Int) : Int)) := by omega
          have HM := hide (show deepK F (x.kids.take (j + 1)) = D by rw [unhide HS]; omega)
          go_wp2_with (go_at_call 59; refine (ih s wr (by omega) (by omega) (by omega) E0).mono ?_; rintro e w2 ⟨rfl, hb2⟩)
          go_roundw
          case rel => exact ⟨j + 1, unhide Hjl, by go_num, by rw [unhide HM], by rw [unhide HM]; omega, B1.trans (hb2.mono B1.size)⟩
          case measure => have := unhide Hjl; simp [intOf]; omega
      · have e : j = nk := by omega
        subst e
        have HT := hide (show x.kids.take j = x.kids from List.take_of_length_le (by rw [unhide HKL]; exact Nat.le_refl _))
        rw [unhide HT] at hd ⊢
        generalize hD : deepK F x.kids = D at hd ⊢
        have HD := hide hD
        clear hD
        go_wp2_with fail
        go_ret
        exact ⟨by rw [unhide HD, Int.natCast_add]; rfl, B1⟩

end Go.Proofs.YtddpcehgopeklaaGreatDoor

namespace Go.Proofs.YtddpcehgopeklaaGreatDoor
open Go.RowKit
set_option linter.unusedVariables false

theorem rowT3 {w : World} {b : Nat} {v0 v1 v2 : Value} {t : TypeId} (R : Row w b #[v0, v1, v2] t) : w.cell? ⟨b, 0, none⟩ = some v0 ∧ w.cell? ⟨b, 1, none⟩ = some v1 ∧ w.cell? ⟨b, 2, none⟩ = some v2 := ⟨R.cell 0, R.cell 1, R.cell 2⟩

end Go.Proofs.YtddpcehgopeklaaGreatDoor

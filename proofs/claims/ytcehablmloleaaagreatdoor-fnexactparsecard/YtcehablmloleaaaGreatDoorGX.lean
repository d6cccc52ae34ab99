/-
  Parse: how deep a tree is (written by mkgx.py). Own work.
-/
import Derived.Test.YtcehablmloleaaaGreatDoorJU
import Derived.Test.YtcehablmloleaaaGreatDoorMXAL
namespace Go.Proofs.YtcehablmloleaaaGreatDoor
open Go.RowKit
set_option linter.unusedVariables false

def mx (a b : Int) : Int := if a < b then b else a

def dpE : Ex → Int
  | .un _ _ k => mx 0 (dpE k) + 1
  | .bin _ _ l r => mx (mx 0 (dpE l)) (dpE r) + 1
  | .ite _ c t e => mx (mx (mx 0 (dpE c)) (dpE t)) (dpE e) + 1
  | _ => 1

def dpO : Option Ex → Int
  | none => 0
  | some e => dpE e

theorem mx_ge (a b : Int) : a ≤ mx a b ∧ b ≤ mx a b ∧ (mx a b = a ∨ mx a b = b) := by unfold mx; split <;> omega

theorem dpE_cnt : ∀ (e : Ex), 1 ≤ dpE e ∧ dpE e ≤ (e.cnt : Int)
  | .int .. => by simp [dpE, Ex.cnt]
  | .text .. => by simp [dpE, Ex.cnt]
  | .bool .. => by simp [dpE, Ex.cnt]
  | .set .. => by simp [dpE, Ex.cnt]
  | .name .. => by simp [dpE, Ex.cnt]
  | .attr .. => by simp [dpE, Ex.cnt]
  | .lett .. => by simp [dpE, Ex.cnt]
  | .un _ _ k => by
    have h1 := dpE_cnt k
    have m1 := mx_ge 0 (dpE k)
    simp only [dpE, Ex.cnt]
    omega
  | .bin _ _ l r => by
    have h1 := dpE_cnt l
    have h2 := dpE_cnt r
    have m1 := mx_ge 0 (dpE l)
    have m2 := mx_ge (mx 0 (dpE l)) (dpE r)
    simp only [dpE, Ex.cnt]
    omega
  | .ite _ c t e => by
    have h1 := dpE_cnt c
    have h2 := dpE_cnt t
    have h3 := dpE_cnt e
    have m1 := mx_ge 0 (dpE c)
    have m2 := mx_ge (mx 0 (dpE c)) (dpE t)
    have m3 := mx_ge (mx (mx 0 (dpE c)) (dpE t)) (dpE e)
    simp only [dpE, Ex.cnt]
    omega

/-- what is said of a tree's depth -/
def DpA (d : Int) (w : World) (r : Ending) (w' : World) : Prop := r = .returned (.int .i64 d) ∧ Below w.heap.size w w'

theorem depth_nil (w : World) : Calls Tryz.prog 64 #[.nilIface] w (DpA 0 w) := by
  go_enter Tryz.func64, Tryz.ntmps64
  go_wp2_with fail
  go_ret
  exact ⟨rfl, Below.refl _ _⟩

set_option maxRecDepth 100000 in
set_option maxHeartbeats 1600000 in
theorem depth_int (i n : Int) (w : World) : Calls Tryz.prog 64 #[.iface 164 (.agg #[.int .i64 i, .int .i64 n])] w (DpA 1 w) := by
  have hk := kids_int i n
  go_enter Tryz.func64, Tryz.ntmps64
  go_wp2_with fail
  refine (kids_leaf i _).mono ?_
  rintro r w1 ⟨rfl, hw1⟩
  rw [hw1]
  clear hw1
  dsimp only
  go_wp2_with fail
  refine wp_loop_rounds 1 ?_
  rw [rounds_succ]
  go_wp2_with fail
  go_ret
  exact ⟨rfl, Below.refl _ _⟩

set_option maxRecDepth 100000 in
set_option maxHeartbeats 1600000 in
theorem depth_text (i : Int) (s : ByteArray) (w : World) : Calls Tryz.prog 64 #[.iface 166 (.agg #[.int .i64 i, .string s])] w (DpA 1 w) := by
  have hk := kids_text i s
  go_enter Tryz.func64, Tryz.ntmps64
  go_wp2_with fail
  refine (kids_leaf i _).mono ?_
  rintro r w1 ⟨rfl, hw1⟩
  rw [hw1]
  clear hw1
  dsimp only
  go_wp2_with fail
  refine wp_loop_rounds 1 ?_
  rw [rounds_succ]
  go_wp2_with fail
  go_ret
  exact ⟨rfl, Below.refl _ _⟩

set_option maxRecDepth 100000 in
set_option maxHeartbeats 1600000 in
theorem depth_bool (i : Int) (b : Bool) (w : World) : Calls Tryz.prog 64 #[.iface 168 (.agg #[.int .i64 i, .bool b])] w (DpA 1 w) := by
  have hk := kids_bool i b
  go_enter Tryz.func64, Tryz.ntmps64
  go_wp2_with fail
  refine (kids_leaf i _).mono ?_
  rintro r w1 ⟨rfl, hw1⟩
  rw [hw1]
  clear hw1
  dsimp only
  go_wp2_with fail
  refine wp_loop_rounds 1 ?_
  rw [rounds_succ]
  go_wp2_with fail
  go_ret
  exact ⟨rfl, Below.refl _ _⟩

set_option maxRecDepth 100000 in
set_option maxHeartbeats 1600000 in
theorem depth_set (i : Int) (a : Option Addr) (n c : Nat) (w : World) : Calls Tryz.prog 64 #[.iface 170 (.agg #[.int .i64 i, .slice a n c])] w (DpA 1 w) := by
  have hk := kids_set i a n c
  go_enter Tryz.func64, Tryz.ntmps64
  go_wp2_with fail
  refine (kids_leaf i _).mono ?_
  rintro r w1 ⟨rfl, hw1⟩
  rw [hw1]
  clear hw1
  dsimp only
  go_wp2_with fail
  refine wp_loop_rounds 1 ?_
  rw [rounds_succ]
  go_wp2_with fail
  go_ret
  exact ⟨rfl, Below.refl _ _⟩

set_option maxRecDepth 100000 in
set_option maxHeartbeats 1600000 in
theorem depth_name (i : Int) (s : ByteArray) (w : World) : Calls Tryz.prog 64 #[.iface 172 (.agg #[.int .i64 i, .string s])] w (DpA 1 w) := by
  have hk := kids_name i s
  go_enter Tryz.func64, Tryz.ntmps64
  go_wp2_with fail
  refine (kids_leaf i _).mono ?_
  rintro r w1 ⟨rfl, hw1⟩
  rw [hw1]
  clear hw1
  dsimp only
  go_wp2_with fail
  refine wp_loop_rounds 1 ?_
  rw [rounds_succ]
  go_wp2_with fail
  go_ret
  exact ⟨rfl, Below.refl _ _⟩

set_option maxRecDepth 100000 in
set_option maxHeartbeats 1600000 in
theorem depth_attr (i n : Int) (w : World) : Calls Tryz.prog 64 #[.iface 173 (.agg #[.int .i64 i, .int .i64 n])] w (DpA 1 w) := by
  have hk := kids_attr i n
  go_enter Tryz.func64, Tryz.ntmps64
  go_wp2_with fail
  refine (kids_leaf i _).mono ?_
  rintro r w1 ⟨rfl, hw1⟩
  rw [hw1]
  clear hw1
  dsimp only
  go_wp2_with fail
  refine wp_loop_rounds 1 ?_
  rw [rounds_succ]
  go_wp2_with fail
  go_ret
  exact ⟨rfl, Below.refl _ _⟩

set_option maxRecDepth 100000 in
set_option maxHeartbeats 1600000 in
theorem depth_lett (i n : Int) (w : World) : Calls Tryz.prog 64 #[.iface 174 (.agg #[.int .i64 i, .int .i64 n])] w (DpA 1 w) := by
  have hk := kids_lett i n
  go_enter Tryz.func64, Tryz.ntmps64
  go_wp2_with fail
  refine (kids_leaf i _).mono ?_
  rintro r w1 ⟨rfl, hw1⟩
  rw [hw1]
  clear hw1
  dsimp only
  go_wp2_with fail
  refine wp_loop_rounds 1 ?_
  rw [rounds_succ]
  go_wp2_with fail
  go_ret
  exact ⟨rfl, Below.refl _ _⟩

set_option maxRecDepth 100000 in
set_option maxHeartbeats 1600000 in
theorem depth_un (i op : Int) (t1 : TypeId) (u1 : Value) (d1 : Int) (V1 : ∀ w, Calls Tryz.prog 64 #[.iface t1 u1] w (DpA d1 w)) (b1 : 1 ≤ d1 ∧ d1 ≤ 65535) (w : World) : Calls Tryz.prog 64 #[.iface 176 (.agg #[.int .i64 i, .int .i64 op, .iface t1 u1])] w (DpA (mx 0 d1 + 1) w) := by
  have hk := kids_un i op t1 u1
  have Hk := hide (kids_of_un i op t1 u1)
  have HV1 := hide V1
  clear V1
  go_enter Tryz.func64, Tryz.ntmps64
  go_wp2_with fail
  refine (unhide Hk _).mono ?_
  rintro r w0 ⟨g, rfl, hg, R0, hb0⟩
  dsimp only
  have a0 : (0 : Int) ≤ 0 ∧ (0 : Int) ≤ 65535 := by omega
  go_wp2_with fail
  refine wp_loop_rounds 2 ?_
  rw [rounds_succ]
  have c1 : w0.cell? ⟨g, 0, none⟩ = some (.iface t1 u1) := R0.cell 0
  go_wp2_with fail
  refine (unhide HV1 _).mono ?_
  rintro r w1 ⟨rfl, hc1⟩
  have R1 := R0.after hc1 (Nat.le_refl _)
  have hb1 := hb0.trans (hc1.mono hb0.size)
  clear R0 c1
  dsimp only
  go_wp2_with fail
  all_goals
    rw [rounds_succ]
    go_wp2_with fail
    go_ret
    refine ⟨?_, hb1⟩
    show Ending.returned (Value.int .i64 _) = Ending.returned (Value.int .i64 _)
    congr 2
    simp only [mx]
    (repeat' split) <;> omega

set_option maxRecDepth 100000 in
set_option maxHeartbeats 1600000 in
theorem depth_bin (i op : Int) (t1 : TypeId) (u1 : Value) (d1 : Int) (t2 : TypeId) (u2 : Value) (d2 : Int) (V1 : ∀ w, Calls Tryz.prog 64 #[.iface t1 u1] w (DpA d1 w)) (b1 : 1 ≤ d1 ∧ d1 ≤ 65535) (V2 : ∀ w, Calls Tryz.prog 64 #[.iface t2 u2] w (DpA d2 w)) (b2 : 1 ≤ d2 ∧ d2 ≤ 65535) (w : World) : Calls Tryz.prog 64 #[.iface 178 (.agg #[.int .i64 i, .int .i64 op, .iface t1 u1, .iface t2 u2])] w (DpA (mx (mx 0 d1) d2 + 1) w) := by
  have hk := kids_bin i op t1 u1 t2 u2
  have Hk := hide (kids_of_bin i op t1 u1 t2 u2)
  have HV1 := hide V1
  have HV2 := hide V2
  clear V1 V2
  go_enter Tryz.func64, Tryz.ntmps64
  go_wp2_with fail
  refine (unhide Hk _).mono ?_
  rintro r w0 ⟨g, rfl, hg, R0, hb0⟩
  dsimp only
  have a0 : (0 : Int) ≤ 0 ∧ (0 : Int) ≤ 65535 := by omega
  go_wp2_with fail
  refine wp_loop_rounds 3 ?_
  rw [rounds_succ]
  have c1 : w0.cell? ⟨g, 0, none⟩ = some (.iface t1 u1) := R0.cell 0
  go_wp2_with fail
  refine (unhide HV1 _).mono ?_
  rintro r w1 ⟨rfl, hc1⟩
  have R1 := R0.after hc1 (Nat.le_refl _)
  have hb1 := hb0.trans (hc1.mono hb0.size)
  clear R0 c1
  dsimp only
  go_wp2_with fail
  all_goals
    rw [rounds_succ]
    have c2 : w1.cell? ⟨g, 1, none⟩ = some (.iface t2 u2) := R1.cell 1
    go_wp2_with fail
    refine (unhide HV2 _).mono ?_
    rintro r w2 ⟨rfl, hc2⟩
    have R2 := R1.after hc2 (Nat.le_refl _)
    have hb2 := hb1.trans (hc2.mono hb1.size)
    clear R1 c2
    dsimp only
    go_wp2_with fail
    all_goals
      rw [rounds_succ]
      go_wp2_with fail
      go_ret
      refine ⟨?_, hb2⟩
      show Ending.returned (Value.int .i64 _) = Ending.returned (Value.int .i64 _)
      congr 2
      simp only [mx]
      (repeat' split) <;> omega

set_option maxRecDepth 100000 in
set_option maxHeartbeats 1600000 in
theorem depth_ite (i : Int) (t1 : TypeId) (u1 : Value) (d1 : Int) (t2 : TypeId) (u2 : Value) (d2 : Int) (t3 : TypeId) (u3 : Value) (d3 : Int) (V1 : ∀ w, Calls Tryz.prog 64 #[.iface t1 u1] w (DpA d1 w)) (b1 : 1 ≤ d1 ∧ d1 ≤ 65535) (V2 : ∀ w, Calls Tryz.prog 64 #[.iface t2 u2] w (DpA d2 w)) (b2 : 1 ≤ d2 ∧ d2 ≤ 65535) (V3 : ∀ w, Calls Tryz.prog 64 #[.iface t3 u3] w (DpA d3 w)) (b3 : 1 ≤ d3 ∧ d3 ≤ 65535) (w : World) : Calls Tryz.prog 64 #[.iface 180 (.agg #[.int .i64 i, .iface t1 u1, .iface t2 u2, .iface t3 u3])] w (DpA (mx (mx (mx 0 d1) d2) d3 + 1) w) := by
  have hk := kids_ite i t1 u1 t2 u2 t3 u3
  have Hk := hide (kids_of_ite i t1 u1 t2 u2 t3 u3)
  have HV1 := hide V1
  have HV2 := hide V2
  have HV3 := hide V3
  clear V1 V2 V3
  go_enter Tryz.func64, Tryz.ntmps64
  go_wp2_with fail
  refine (unhide Hk _).mono ?_
  rintro r w0 ⟨g, rfl, hg, R0, hb0⟩
  dsimp only
  have a0 : (0 : Int) ≤ 0 ∧ (0 : Int) ≤ 65535 := by omega
  go_wp2_with fail
  refine wp_loop_rounds 4 ?_
  rw [rounds_succ]
  have c1 : w0.cell? ⟨g, 0, none⟩ = some (.iface t1 u1) := R0.cell 0
  go_wp2_with fail
  refine (unhide HV1 _).mono ?_
  rintro r w1 ⟨rfl, hc1⟩
  have R1 := R0.after hc1 (Nat.le_refl _)
  have hb1 := hb0.trans (hc1.mono hb0.size)
  clear R0 c1
  dsimp only
  go_wp2_with fail
  all_goals
    rw [rounds_succ]
    have c2 : w1.cell? ⟨g, 1, none⟩ = some (.iface t2 u2) := R1.cell 1
    go_wp2_with fail
    refine (unhide HV2 _).mono ?_
    rintro r w2 ⟨rfl, hc2⟩
    have R2 := R1.after hc2 (Nat.le_refl _)
    have hb2 := hb1.trans (hc2.mono hb1.size)
    clear R1 c2
    dsimp only
    go_wp2_with fail
    all_goals
      rw [rounds_succ]
      have c3 : w2.cell? ⟨g, 2, none⟩ = some (.iface t3 u3) := R2.cell 2
      go_wp2_with fail
      refine (unhide HV3 _).mono ?_
      rintro r w3 ⟨rfl, hc3⟩
      have R3 := R2.after hc3 (Nat.le_refl _)
      have hb3 := hb2.trans (hc3.mono hb2.size)
      clear R2 c3
      dsimp only
      go_wp2_with fail
      all_goals
        rw [rounds_succ]
        go_wp2_with fail
        go_ret
        refine ⟨?_, hb3⟩
        show Ending.returned (Value.int .i64 _) = Ending.returned (Value.int .i64 _)
        congr 2
        simp only [mx]
        (repeat' split) <;> omega

theorem depth_any : ∀ (e : Ex), e.cnt ≤ 65535 → ∀ w, Calls Tryz.prog 64 #[e.val] w (DpA (dpE e) w)
  | .int i n, _, w => depth_int i n w
  | .text i s, _, w => depth_text i s w
  | .bool i b, _, w => depth_bool i b w
  | .set i a n c ss, _, w => depth_set i a n c w
  | .name i s, _, w => depth_name i s w
  | .attr i n, _, w => depth_attr i n w
  | .lett i n, _, w => depth_lett i n w
  | .un i op k, h, w => by
    have hc := dpE_cnt k
    simp only [Ex.cnt] at h
    have V := depth_any k (by omega)
    obtain ⟨t, u, hf⟩ := Ex.form k
    rw [Ex.val]
    rw [hf] at V ⊢
    exact depth_un i op t u (dpE k) V (by omega) w
  | .bin i op l r, h, w => by
    have hc := dpE_cnt l
    have hd := dpE_cnt r
    simp only [Ex.cnt] at h
    have V1 := depth_any l (by omega)
    have V2 := depth_any r (by omega)
    obtain ⟨t1, u1, hf1⟩ := Ex.form l
    obtain ⟨t2, u2, hf2⟩ := Ex.form r
    rw [Ex.val]
    rw [hf1] at V1 ⊢
    rw [hf2] at V2 ⊢
    exact depth_bin i op t1 u1 (dpE l) t2 u2 (dpE r) V1 (by omega) V2 (by omega) w
  | .ite i c t e, h, w => by
    have hc := dpE_cnt c
    have hd := dpE_cnt t
    have he := dpE_cnt e
    simp only [Ex.cnt] at h
    have V1 := depth_any c (by omega)
    have V2 := depth_any t (by omega)
    have V3 := depth_any e (by omega)
    obtain ⟨t1, u1, hf1⟩ := Ex.form c
    obtain ⟨t2, u2, hf2⟩ := Ex.form t
    obtain ⟨t3, u3, hf3⟩ := Ex.form e
    rw [Ex.val]
    rw [hf1] at V1 ⊢
    rw [hf2] at V2 ⊢
    rw [hf3] at V3 ⊢
    exact depth_ite i t1 u1 (dpE c) t2 u2 (dpE t) t3 u3 (dpE e) V1 (by omega) V2 (by omega) V3 (by omega) w

theorem depthO (o : Option Ex) (h : cntO o ≤ 65535) (w : World) : Calls Tryz.prog 64 #[optX o] w (DpA (dpO o) w) := by
  cases o with
  | none => exact depth_nil w
  | some e => exact depth_any e h w

end Go.Proofs.YtcehablmloleaaaGreatDoor

/-
  COV, VPV, VPW, VPX, ZT3. Own work.
-/
import Derived.Test.YtpbopjgmiaoomaaGreatDoorMXAV
import Derived.Test.YtpbopjgmiaoomaaGreatDoorQK
import Derived.Test.YtpbopjgmiaoomaaGreatDoorMXAU
import Derived.Test.YtpbopjgmiaoomaaGreatDoorMXAL
import Derived.Test.YtpbopjgmiaoomaaGreatDoorMXAD
import Derived.Test.YtpbopjgmiaoomaaGreatDoorMXAC
namespace Go.Proofs.YtpbopjgmiaoomaaGreatDoor
open Go.RowKit
set_option linter.unusedVariables false

/-- one more slot -/
theorem Cst.slot {w0 w : World} {cb mb : Nat} {s : Cs} (h : Cst w0 cb mb s w) : Cst w0 cb mb (s.withS (s.slots + 1)) (w.setCell ⟨cb, 1, none⟩ (.int .i64 ((s.slots : Int) + 1))) ∧ Kf w (w.setCell ⟨cb, 1, none⟩ (.int .i64 ((s.slots : Int) + 1))) := by
  obtain ⟨⟨pv, iv, nv, C⟩, h2⟩ := h
  have R := C.row.set 1 (.int .i64 ((s.slots : Int) + 1))
  refine ⟨⟨⟨pv, iv, nv, R, C.pool.setRow C.row 1 _, own_set3 C.ins _ _ (fun q hq e => own_ne_row C.row C.ins (by decide) (by rw [hq]; exact congrArg some e)), C.map.keep (heap_setCell_other w _ mb _ (by show mb ≠ cb; exact fun e => C.map.ne_row C.row e.symm)), C.nd, C.ok, C.low⟩, h2.setCell (p := ⟨cb, 1, none⟩) C.low.1 _⟩, fun k ks t Q h1 _ _ => ?_⟩
  exact Q.setFar (p := ⟨cb, 1, none⟩) (by show k ≠ cb; exact Q.ne_type C.row h1) _

/-- what is said of a decision -/
def DeC (w0 : World) (cb mb : Nat) (x : Value) (f : Cs → Cs) (N : Nat) : Prop := ∀ s w, Cst w0 cb mb s w → s.ins.length + N ≤ 1048576 → s.pool.length + N ≤ 1048576 → Calls Tryz.prog 59 #[.pointer (some ⟨cb, 0, none⟩), x] w fun r w' => r = .returned (.tuple #[]) ∧ Cst w0 cb mb (f s) w' ∧ Kf w w'

set_option maxRecDepth 100000 in
set_option maxHeartbeats 1600000 in
theorem dec_none (w0 : World) (cb mb : Nat) : DeC w0 cb mb .nilIface (fun s => putI s ⟨24, 0, zeroV⟩) 1 := by
  intro s w h hn hp
  have H1 := hide (writeS w0 cb mb s 24 0 w h (by omega))
  clear h hn hp
  go_enter Tryz.func59, Tryz.ntmps59
  go_wp2_with fail
  refine (unhide H1).mono ?_
  rintro r w1 ⟨rfl, C1, k1⟩
  have F1 := hide (And.intro k1 C1)
  clear k1 C1 H1
  dsimp only
  go_wp2_with fail
  (try simp only [Exit.inBlock, Exit.then]); refine bodyPost_ret (results_none rfl _ _ _) rfl ?_
  refine ⟨rfl, ?_, (unhide F1).1⟩
  rw [putI, if_neg (by decide)]
  exact (unhide F1).2

set_option maxRecDepth 100000 in
set_option maxHeartbeats 1600000 in
theorem dec_some (w0 : World) (cb mb : Nat) (t : TypeId) (u : Value) (f : Cs → Cs) (N : Nat) (hF : ExC w0 cb mb (.iface t u) f N) (gF : GrN f N) : DeC w0 cb mb (.iface t u) (fun s => putI (f s) ⟨25, 0, zeroV⟩) (N + 1) := by
  intro s w h hn hp
  have l1 := gF s
  have H1 := hide (hF s w h (by omega) (by omega))
  have H2 := hide (fun w h => writeS w0 cb mb (f s) 25 0 w h (by omega))
  clear h hn hp hF gF l1
  go_enter Tryz.func59, Tryz.ntmps59
  go_wp2_with fail
  refine (unhide H1).mono ?_
  rintro r w1 ⟨rfl, C1, k1⟩
  have F1 := hide k1
  have K2 := hide ((unhide H2) w1 C1)
  clear k1 C1 H1 H2
  dsimp only
  go_wp2_with fail
  refine (unhide K2).mono ?_
  rintro r w2 ⟨rfl, C2, k2⟩
  have F2 := hide (And.intro ((unhide F1).trans k2) C2)
  clear k2 C2 K2 F1
  dsimp only
  go_wp2_with fail
  go_end0
  refine ⟨rfl, ?_, (unhide F2).1⟩
  rw [putI, if_neg (by decide)]
  exact (unhide F2).2

/-- what is said of a statement -/
def StC1 (w0 : World) (cb mb : Nat) (x : Value) (f : Cs → Cs) (N : Nat) : Prop := ∀ s w, Cst w0 cb mb s w → s.ins.length + N ≤ 1048576 → s.pool.length + N ≤ 1048576 → s.slots ≤ 1048576 → Calls Tryz.prog 26 #[.pointer (some ⟨cb, 0, none⟩), x] w fun r w' => r = .returned (.tuple #[]) ∧ Cst w0 cb mb (f s) w' ∧ Kf w w'

set_option maxRecDepth 100000 in
set_option maxHeartbeats 3200000 in
theorem stm_let (w0 : World) (cb mb : Nat) (j : Int) (nm : ByteArray) (t : TypeId) (u : Value) (f : Cs → Cs) (N : Nat) (hF : ExC w0 cb mb (.iface t u) f N) (gF : GrN f N) (hsl : ∀ s, (f s).slots = s.slots) : StC1 w0 cb mb (.agg #[.int .i64 j, .int .i64 1, .string nm, .iface t u, .nilIface]) (fun s => (putI (f s) ⟨4, (s.slots : Int), zeroV⟩).withS (s.slots + 1)) (N + 1) := by
  intro s w h hn hp hs
  have l1 := gF s
  have B1 := (Below.refl w.heap.size w).alloc (Nat.le_refl _) (.cells #[.int .i64 j, .int .i64 1, .string nm, .iface t u, .nilIface] 77)
  have H1 := hide (hF s (w.alloc (.cells #[.int .i64 j, .int .i64 1, .string nm, .iface t u, .nilIface] 77)) (h.below B1) (by omega) (by omega))
  have H2 := hide (fun w h => writeS w0 cb mb (f s) 4 (s.slots : Int) w h (by omega))
  have HS := hide (hsl s)
  have hs2 : (s.slots : Int) ≤ 1048576 := by omega
  have F0 := hide (Kf.of_below B1)
  clear h hn hp hF gF l1 hsl B1 hs
  go_enter Tryz.func26, Tryz.ntmps26
  go_wp2_with fail
  refine (unhide H1).mono ?_
  rintro r w1 ⟨rfl, C1, k1⟩
  have F1 := hide ((unhide F0).trans k1)
  obtain ⟨pv, iv, nv, c1⟩ : ∃ pv iv, ∃ (nv : List Value), w1.cell? ⟨cb, 1, none⟩ = some (.int .i64 s.slots) := by
    obtain ⟨⟨pv, iv, nv, C⟩, _⟩ := C1
    refine ⟨pv, iv, nv, ?_⟩
    have := C.row.cell 1
    rw [unhide HS] at this
    exact this
  have K2 := hide ((unhide H2) w1 C1)
  clear k1 C1 H1 H2 F0
  dsimp only
  go_wp2_with fail
  refine (unhide K2).mono ?_
  rintro r w2 ⟨rfl, C2, k2⟩
  have CK := C2.slot
  have hz : (⟨(f s).pool, (f s).slots, (f s).ins ++ [⟨4, (s.slots : Int)⟩]⟩ : Cs).slots = s.slots := unhide HS
  rw [hz] at CK
  have F2 := hide (And.intro (((unhide F1).trans k2).trans CK.2) CK.1)
  obtain ⟨c2, c3⟩ : w2.cell? ⟨cb, 1, none⟩ = some (.int .i64 s.slots) ∧ ∀ j, w2.frozen? ⟨cb, j, none⟩ = false := by
    obtain ⟨⟨pv, iv, nv, C⟩, _⟩ := C2
    refine ⟨?_, fun j => C.row.frozen j⟩
    have := C.row.cell 1
    rw [hz] at this
    exact this
  clear k2 C2 K2 F1 CK hz
  dsimp only
  go_wp2_with fail
  go_end0
  refine ⟨rfl, ?_, (unhide F2).1⟩
  rw [putI, if_neg (show ¬ (4 : Int) = 1 by decide)]
  exact (unhide F2).2

set_option maxRecDepth 100000 in
set_option maxHeartbeats 3200000 in
theorem stm_when0 (w0 : World) (cb mb : Nat) (j : Int) (nm : ByteArray) (t : TypeId) (u : Value) (f : Cs → Cs) (N : Nat) (hF : ExC w0 cb mb (.iface t u) f N) (gF : GrN f N) (d : Cs → Cs) (M : Nat) (hD : DeC w0 cb mb (.nilIface) d M) (gD : GrN d M) : StC1 w0 cb mb (.agg #[.int .i64 j, .int .i64 2, .string nm, .iface t u, .nilIface]) (fun s => patchI (d (putI (f s) ⟨23, 0, zeroV⟩)) (f s).ins.length (d (putI (f s) ⟨23, 0, zeroV⟩)).ins.length) (N + M + 1) := by
  intro s w h hn hp hs
  have l1 := gF s
  have p2 : putI (f s) ⟨23, 0, zeroV⟩ = ⟨(f s).pool, (f s).slots, (f s).ins ++ [⟨23, 0⟩]⟩ := by rw [putI, if_neg (by decide)]
  have l2 := gD (putI (f s) ⟨23, 0, zeroV⟩)
  rw [putI_len] at l2
  rw [p2] at l2
  have B1 := (Below.refl w.heap.size w).alloc (Nat.le_refl _) (.cells #[.int .i64 j, .int .i64 2, .string nm, .iface t u, .nilIface] 77)
  have RU := Row.new w #[.int .i64 j, .int .i64 2, .string nm, .iface t u, .nilIface] 77
  have H1 := hide (hF s (w.alloc (.cells #[.int .i64 j, .int .i64 2, .string nm, .iface t u, .nilIface] 77)) (h.below B1) (by omega) (by omega))
  have H2 := hide (fun w h => writeS w0 cb mb (f s) 23 0 w h (by omega))
  have H3 := hide (fun w h => hD ⟨(f s).pool, (f s).slots, (f s).ins ++ [⟨23, 0⟩]⟩ w h (by rw [← p2, putI_len]; omega) (by show (f s).pool.length + M ≤ _; omega))
  have H4 := hide (fun w h => leadS w0 cb mb (d ⟨(f s).pool, (f s).slots, (f s).ins ++ [⟨23, 0⟩]⟩) (f s).ins.length (by omega) w h (by omega))
  have F0 := hide (Kf.of_below B1)
  have HP := hide p2
  clear h hn hp hF gF l1 hD gD l2 B1 hs p2
  go_enter Tryz.func26, Tryz.ntmps26
  go_wp2_with fail
  refine (unhide H1).mono ?_
  rintro r w1 ⟨rfl, C1, k1⟩
  have F1 := hide ((unhide F0).trans k1)
  have R1 := k1 _ _ _ RU (by decide) (by decide) (by decide)
  have K2 := hide ((unhide H2) w1 C1)
  clear k1 C1 H1 H2 F0 RU
  dsimp only
  go_wp2_with fail
  refine (unhide K2).mono ?_
  rintro r w2 ⟨rfl, C2, k2⟩
  have F2 := hide ((unhide F1).trans k2)
  have R2 := k2 _ _ _ R1 (by decide) (by decide) (by decide)
  have c2 := R2.cell 4
  have K3 := hide ((unhide H3) w2 C2)
  clear k2 C2 K2 F1 H3 R1
  dsimp only
  go_wp2_with fail
  refine (unhide K3).mono ?_
  rintro r w3 ⟨rfl, C3, k3⟩
  have F3 := hide ((unhide F2).trans k3)
  have K4 := hide ((unhide H4) w3 C3)
  clear k3 C3 K3 F2 H4 R2 c2
  dsimp only
  go_wp2_with fail
  refine (unhide K4).mono ?_
  rintro r w4 ⟨rfl, C4, k4⟩
  have F4 := hide (And.intro ((unhide F3).trans k4) C4)
  clear k4 C4 K4 F3
  dsimp only
  go_wp2_with fail
  go_end0
  refine ⟨rfl, ?_, (unhide F4).1⟩
  rw [unhide HP]
  exact (unhide F4).2

set_option maxRecDepth 100000 in
set_option maxHeartbeats 3200000 in
theorem stm_else0 (w0 : World) (cb mb : Nat) (j : Int) (nm : ByteArray) (d : Cs → Cs) (M : Nat) (hD : DeC w0 cb mb (.nilIface) d M) : StC1 w0 cb mb (.agg #[.int .i64 j, .int .i64 3, .string nm, .nilIface, .nilIface]) d M := by
  intro s w h hn hp hs
  have B1 := (Below.refl w.heap.size w).alloc (Nat.le_refl _) (.cells #[.int .i64 j, .int .i64 3, .string nm, .nilIface, .nilIface] 77)
  have H1 := hide (hD s (w.alloc (.cells #[.int .i64 j, .int .i64 3, .string nm, .nilIface, .nilIface] 77)) (h.below B1) (by omega) (by omega))
  have F0 := hide (Kf.of_below B1)
  clear h hn hp hD B1 hs
  go_enter Tryz.func26, Tryz.ntmps26
  go_wp2_with fail
  refine (unhide H1).mono ?_
  rintro r w1 ⟨rfl, C1, k1⟩
  have F1 := hide (And.intro ((unhide F0).trans k1) C1)
  clear k1 C1 H1 F0
  dsimp only
  go_wp2_with fail
  go_end0
  exact ⟨rfl, (unhide F1).2, (unhide F1).1⟩

set_option maxRecDepth 100000 in
set_option maxHeartbeats 3200000 in
theorem stm_when (w0 : World) (cb mb : Nat) (j : Int) (nm : ByteArray) (t : TypeId) (u : Value) (tg : TypeId) (ug : Value) (f : Cs → Cs) (N : Nat) (hF : ExC w0 cb mb (.iface t u) f N) (gF : GrN f N) (d : Cs → Cs) (M : Nat) (hD : DeC w0 cb mb (.iface tg ug) d M) (gD : GrN d M) : StC1 w0 cb mb (.agg #[.int .i64 j, .int .i64 2, .string nm, .iface t u, .iface tg ug]) (fun s => patchI (d (putI (f s) ⟨23, 0, zeroV⟩)) (f s).ins.length (d (putI (f s) ⟨23, 0, zeroV⟩)).ins.length) (N + M + 1) := by
  intro s w h hn hp hs
  have l1 := gF s
  have p2 : putI (f s) ⟨23, 0, zeroV⟩ = ⟨(f s).pool, (f s).slots, (f s).ins ++ [⟨23, 0⟩]⟩ := by rw [putI, if_neg (by decide)]
  have l2 := gD (putI (f s) ⟨23, 0, zeroV⟩)
  rw [putI_len] at l2
  rw [p2] at l2
  have B1 := (Below.refl w.heap.size w).alloc (Nat.le_refl _) (.cells #[.int .i64 j, .int .i64 2, .string nm, .iface t u, .iface tg ug] 77)
  have RU := Row.new w #[.int .i64 j, .int .i64 2, .string nm, .iface t u, .iface tg ug] 77
  have H1 := hide (hF s (w.alloc (.cells #[.int .i64 j, .int .i64 2, .string nm, .iface t u, .iface tg ug] 77)) (h.below B1) (by omega) (by omega))
  have H2 := hide (fun w h => writeS w0 cb mb (f s) 23 0 w h (by omega))
  have H3 := hide (fun w h => hD ⟨(f s).pool, (f s).slots, (f s).ins ++ [⟨23, 0⟩]⟩ w h (by rw [← p2, putI_len]; omega) (by show (f s).pool.length + M ≤ _; omega))
  have H4 := hide (fun w h => leadS w0 cb mb (d ⟨(f s).pool, (f s).slots, (f s).ins ++ [⟨23, 0⟩]⟩) (f s).ins.length (by omega) w h (by omega))
  have F0 := hide (Kf.of_below B1)
  have HP := hide p2
  clear h hn hp hF gF l1 hD gD l2 B1 hs p2
  go_enter Tryz.func26, Tryz.ntmps26
  go_wp2_with fail
  refine (unhide H1).mono ?_
  rintro r w1 ⟨rfl, C1, k1⟩
  have F1 := hide ((unhide F0).trans k1)
  have R1 := k1 _ _ _ RU (by decide) (by decide) (by decide)
  have K2 := hide ((unhide H2) w1 C1)
  clear k1 C1 H1 H2 F0 RU
  dsimp only
  go_wp2_with fail
  refine (unhide K2).mono ?_
  rintro r w2 ⟨rfl, C2, k2⟩
  have F2 := hide ((unhide F1).trans k2)
  have R2 := k2 _ _ _ R1 (by decide) (by decide) (by decide)
  have c2 := R2.cell 4
  have K3 := hide ((unhide H3) w2 C2)
  clear k2 C2 K2 F1 H3 R1
  dsimp only
  go_wp2_with fail
  refine (unhide K3).mono ?_
  rintro r w3 ⟨rfl, C3, k3⟩
  have F3 := hide ((unhide F2).trans k3)
  have K4 := hide ((unhide H4) w3 C3)
  clear k3 C3 K3 F2 H4 R2 c2
  dsimp only
  go_wp2_with fail
  refine (unhide K4).mono ?_
  rintro r w4 ⟨rfl, C4, k4⟩
  have F4 := hide (And.intro ((unhide F3).trans k4) C4)
  clear k4 C4 K4 F3
  dsimp only
  go_wp2_with fail
  go_end0
  refine ⟨rfl, ?_, (unhide F4).1⟩
  rw [unhide HP]
  exact (unhide F4).2

set_option maxRecDepth 100000 in
set_option maxHeartbeats 3200000 in
theorem stm_else (w0 : World) (cb mb : Nat) (j : Int) (nm : ByteArray) (tg : TypeId) (ug : Value) (d : Cs → Cs) (M : Nat) (hD : DeC w0 cb mb (.iface tg ug) d M) : StC1 w0 cb mb (.agg #[.int .i64 j, .int .i64 3, .string nm, .nilIface, .iface tg ug]) d M := by
  intro s w h hn hp hs
  have B1 := (Below.refl w.heap.size w).alloc (Nat.le_refl _) (.cells #[.int .i64 j, .int .i64 3, .string nm, .nilIface, .iface tg ug] 77)
  have H1 := hide (hD s (w.alloc (.cells #[.int .i64 j, .int .i64 3, .string nm, .nilIface, .iface tg ug] 77)) (h.below B1) (by omega) (by omega))
  have F0 := hide (Kf.of_below B1)
  clear h hn hp hD B1 hs
  go_enter Tryz.func26, Tryz.ntmps26
  go_wp2_with fail
  refine (unhide H1).mono ?_
  rintro r w1 ⟨rfl, C1, k1⟩
  have F1 := hide (And.intro ((unhide F0).trans k1) C1)
  clear k1 C1 H1 F0
  dsimp only
  go_wp2_with fail
  go_end0
  exact ⟨rfl, (unhide F1).2, (unhide F1).1⟩

theorem cpE_slots (e : Ex) (s : Cs) : (cpE e s).slots = s.slots := by rw [cpE_eq, linkI_slots]

/-- the tree of a node lies in the list -/
theorem optV_at {Es : List Ex} {k : Int} (h : 0 ≤ k ∧ k < Es.length) : optV Es k = (exAt Es k).val ∧ exAt Es k ∈ Es := by
  have hk : k.toNat < Es.length := by omega
  have e : exAt Es k = Es[k.toNat] := by rw [exAt, List.getD_eq_getElem?_getD, List.getElem?_eq_getElem hk]; rfl
  rw [optV, if_neg (by omega), List.getElem?_eq_getElem hk, e]
  exact ⟨rfl, List.getElem_mem _⟩

/-- how many instructions a node's tree has -/
def szAt (Es : List Ex) (k : Int) : Nat := if k = -1 then 0 else sizeI (exAt Es k)

theorem cpD_any (w0 : World) (cb mb : Nat) (Es : List Ex) (hE : ∀ e ∈ Es, e.cok w0) (g : Int) (hg : g = -1 ∨ (0 ≤ g ∧ g < Es.length)) : DeC w0 cb mb (optV Es g) (cpD Es g) (szAt Es g + 1) ∧ GrN (cpD Es g) (szAt Es g + 1) := by
  by_cases h : g = -1
  · have e1 : optV Es g = .nilIface := by rw [optV, if_pos h]
    have e2 : szAt Es g = 0 := by rw [szAt, if_pos h]
    have e3 : cpD Es g = fun s => putI s ⟨24, 0, zeroV⟩ := by funext s; rw [cpD, if_pos h]
    rw [e1, e2, e3]
    exact ⟨dec_none w0 cb mb, GrN.put _⟩
  · have hg' : 0 ≤ g ∧ g < Es.length := hg.resolve_left h
    obtain ⟨e1, hm⟩ := optV_at hg'
    have e2 : szAt Es g = sizeI (exAt Es g) := by rw [szAt, if_neg h]
    have e3 : cpD Es g = fun s => putI (cpE (exAt Es g) s) ⟨25, 0, zeroV⟩ := by funext s; rw [cpD, if_neg h]
    rw [e1, e2, e3]
    have hX := expression_any w0 cb mb (exAt Es g) (hE _ hm)
    obtain ⟨t, u, hf⟩ := Ex.form (exAt Es g)
    rw [hf] at hX ⊢
    exact ⟨dec_some w0 cb mb t u _ _ hX (cpE_grow _), (cpE_grow _).comp (GrN.put _)⟩

/-- a statement of a well-typed policy -/
theorem cpS_any (w0 : World) (cb mb : Nat) (Es : List Ex) (hE : ∀ e ∈ Es, e.cok w0) (j : Nat) (s : St) (hs : (s.cond = -1 ∨ (0 ≤ s.cond ∧ s.cond < Es.length)) ∧ (s.grant = -1 ∨ (0 ≤ s.grant ∧ s.grant < Es.length))) (hk : (s.kind = 1 ∧ 0 ≤ s.cond ∧ s.grant = -1) ∨ (s.kind = 2 ∧ 0 ≤ s.cond) ∨ (s.kind = 3 ∧ s.cond = -1)) :
    StC1 w0 cb mb (.agg #[.int .i64 j, .int .i64 s.kind, .string s.name, optV Es s.cond, optV Es s.grant]) (fun c => cpS Es c s) (szAt Es s.cond + szAt Es s.grant + 2) := by
  rcases hk with ⟨k, hc, hg⟩ | ⟨k, hc⟩ | ⟨k, hc⟩
  · obtain ⟨e1, hm⟩ := optV_at (Es := Es) (k := s.cond) (by have := hs.1; omega)
    have e2 : optV Es s.grant = .nilIface := by rw [optV, if_pos hg]
    have e3 : szAt Es s.cond = sizeI (exAt Es s.cond) := by rw [szAt, if_neg (by omega)]
    have hX := expression_any w0 cb mb (exAt Es s.cond) (hE _ hm)
    obtain ⟨t, u, hf⟩ := Ex.form (exAt Es s.cond)
    rw [e1, e2, e3, k, hf]
    rw [hf] at hX
    have e4 : (fun c => cpS Es c s) = fun c => (putI (cpE (exAt Es s.cond) c) ⟨4, (c.slots : Int), zeroV⟩).withS (c.slots + 1) := by funext c; rw [cpS, if_pos k]
    rw [e4]
    intro c w h1 h2 h3 h4
    exact stm_let w0 cb mb j s.name t u _ _ hX (cpE_grow _) (cpE_slots _) c w h1 (by omega) (by omega) h4
  · obtain ⟨e1, hm⟩ := optV_at (Es := Es) (k := s.cond) (by have := hs.1; omega)
    have e3 : szAt Es s.cond = sizeI (exAt Es s.cond) := by rw [szAt, if_neg (by omega)]
    have hX := expression_any w0 cb mb (exAt Es s.cond) (hE _ hm)
    obtain ⟨t, u, hf⟩ := Ex.form (exAt Es s.cond)
    obtain ⟨hD, gD⟩ := cpD_any w0 cb mb Es hE s.grant hs.2
    have e4 : (fun c => cpS Es c s) = fun c => patchI (cpD Es s.grant (putI (cpE (exAt Es s.cond) c) ⟨23, 0, zeroV⟩)) (cpE (exAt Es s.cond) c).ins.length (cpD Es s.grant (putI (cpE (exAt Es s.cond) c) ⟨23, 0, zeroV⟩)).ins.length := by funext c; rw [cpS, if_neg (by omega), if_pos k]
    rw [e1, e3, e4, k, hf]
    rw [hf] at hX
    intro c w h1 h2 h3 h4
    by_cases h : s.grant = -1
    · have e2 : optV Es s.grant = .nilIface := by rw [optV, if_pos h]
      rw [e2] at hD ⊢
      exact stm_when0 w0 cb mb j s.name t u _ _ hX (cpE_grow _) _ _ hD gD c w h1 (by omega) (by omega) h4
    · obtain ⟨e2, _⟩ := optV_at (hs.2.resolve_left h)
      obtain ⟨tg, ug, hg⟩ := Ex.form (exAt Es s.grant)
      rw [e2, hg] at hD ⊢
      exact stm_when w0 cb mb j s.name t u tg ug _ _ hX (cpE_grow _) _ _ hD gD c w h1 (by omega) (by omega) h4
  · have e1 : optV Es s.cond = .nilIface := by rw [optV, if_pos hc]
    obtain ⟨hD, gD⟩ := cpD_any w0 cb mb Es hE s.grant hs.2
    have e4 : (fun c => cpS Es c s) = cpD Es s.grant := by funext c; rw [cpS, if_neg (by omega), if_neg (by omega)]
    rw [e1, e4, k]
    intro c w h1 h2 h3 h4
    by_cases h : s.grant = -1
    · have e2 : optV Es s.grant = .nilIface := by rw [optV, if_pos h]
      rw [e2] at hD ⊢
      exact stm_else0 w0 cb mb j s.name _ _ hD c w h1 (by omega) (by omega) h4
    · obtain ⟨e2, _⟩ := optV_at (hs.2.resolve_left h)
      obtain ⟨tg, ug, hg⟩ := Ex.form (exAt Es s.grant)
      rw [e2, hg] at hD ⊢
      exact stm_else w0 cb mb j s.name tg ug _ _ hD c w h1 (by omega) (by omega) h4

end Go.Proofs.YtpbopjgmiaoomaaGreatDoor

namespace Go.Proofs.YtpbopjgmiaoomaaGreatDoor
open Go.RowKit
set_option linter.unusedVariables false

theorem half_int (L : List Int) (n k : Nat) (hn : n = L.length) (hk : k < n) : (((L.take k).map (Value.int .i64)) ++ List.replicate (n - k) (Value.int .i64 0)).set k (.int .i64 (L[k]'(by omega))) = ((L.take (k + 1)).map (Value.int .i64)) ++ List.replicate (n - (k + 1)) (Value.int .i64 0) := by
  have h1 : ((L.take k).map (Value.int .i64)).length = k := by rw [List.length_map, List.length_take]; omega
  rw [List.set_append_right _ _ (by omega), h1, Nat.sub_self, show n - k = (n - (k + 1)) + 1 by omega, List.replicate_succ, List.set_cons_zero, List.take_succ_eq_append_getElem (by omega), List.map_append, List.append_assoc]
  rfl

theorem half_int_at (L : List Int) (n k : Nat) (hn : n = L.length) (hk : k < n) : (((L.take k).map (Value.int .i64)) ++ List.replicate (n - k) (Value.int .i64 0))[k]? = some (.int .i64 0) := by
  have h1 : ((L.take k).map (Value.int .i64)).length = k := by rw [List.length_map, List.length_take]; omega
  rw [List.getElem?_append_right (by omega), h1, Nat.sub_self, List.getElem?_replicate, if_pos (by omega)]

set_option maxHeartbeats 800000 in
theorem toIntS_any (a : Option Addr) (n c : Nat) (L : List Int) (w : World) (h : IntsR w a n c L) (hsm : n ≤ 1048576) :
    Calls Tryz.prog 22 #[.slice a n c] w fun e w' => e = .returned (.slice (some ⟨w.heap.size, 0, none⟩) n n) ∧ Below w.heap.size w w' ∧ w'.ownsRow w.heap.size 3 1 (.slice (some ⟨w.heap.size, 0, none⟩) n n) n (intsV L) := by
  obtain ⟨i, hi, hz0, hz1, hz2⟩ := info_parts infoI
  have Hl := hide h.len
  go_enter Tryz.func22, Tryz.ntmps22
  go_wp2_with (at_make; refine wpList_make_full _ rfl _ _ 24 rfl w.heap.size 3 i (.int .i64 0) 1 Tryz.underlying24 hi hz0 hz1 _ _ _ _ n rfl rfl rfl rfl ?b2 ?b3 ?b4 ?_)
  case b2 => rw [hz2]; omega
  case b3 => unfold maxLen; omega
  case b4 => exact Nat.le_refl _
  intro w1 hown hgrow
  have hb1 : Below w.heap.size w w1 := (Below.refl _ _).grown hgrow (Nat.le_refl _) (fun k hk => by cases hk)
  clear hgrow
  have hown1 : w1.ownsRow w.heap.size 3 1 (.slice (some ⟨w.heap.size, 0, none⟩) n n) n (((L.take 0).map (Value.int .i64)) ++ List.replicate (n - 0) (Value.int .i64 0)) := by
    simp only [List.take_zero, List.map_nil, List.nil_append, Nat.sub_zero]
    rw [← toList_madeCells_one, ← Nat.mul_one n]
    simpa using hown
  clear hown
  go_wp2
  go_loopw [4] (fun i wr => ∃ k : Nat, k ≤ n ∧ i = .int .i64 k ∧ wr.ownsRow w.heap.size 3 1 (.slice (some ⟨w.heap.size, 0, none⟩) n n) n (((L.take k).map (Value.int .i64)) ++ List.replicate (n - k) (Value.int .i64 0)) ∧ Below w.heap.size w wr) (fun i _ => n - (intOf i).toNat)
  case atStart => exact ⟨0, Nat.zero_le _, rfl, hown1, hb1⟩
  case round =>
    obtain ⟨k, hk, rfl, hown, hb⟩ := hrel
    clear hown1 hb1
    by_cases hlt : k < n
    · have hkl : k < L.length := by rw [unhide Hl]; exact hlt
      obtain ⟨b, off, rfl, _, hc⟩ := (h.below hb (Nat.le_refl _)).cells k hkl
      have hfz := hown.frozenAt k
      have hck := (hown.cellAt k (by omega)).trans (half_int_at L n k (unhide Hl).symm hlt)
      have Hst := hide (hown.stored k (.int .i64 L[k])).1
      have HH := hide (half_int L n k (unhide Hl).symm hlt)
      have Hlt := hide hlt
      clear hown
      generalize L[k] = x at hc Hst HH
      go_wp2
      go_roundw
      case rel => exact ⟨k + 1, unhide Hlt, by go_num, by rw [← unhide HH]; exact unhide Hst, hb.setCell (Nat.le_refl _) _⟩
      case measure => have := unhide Hlt; simp [intOf]; omega
    · have e : k = n := by omega
      subst e
      go_wp2
      go_ret
      refine ⟨rfl, hb, ?_⟩
      rw [List.take_of_length_le (by rw [unhide Hl]; exact Nat.le_refl _), Nat.sub_self] at hown
      simpa [intsV] using hown

theorem Ints.setFar {w : World} {a : Option Addr} {n c : Nat} {L : List Int} (h : Ints w a n c L) {p : Addr} (hp : ∀ x, a = some x → p.block ≠ x.block) (u : Value) : Ints (w.setCell p u) a n c L :=
  ⟨h.len, h.small, fun j hj => by
    obtain ⟨b, off, ha, hlt, hc⟩ := h.cells j hj
    refine ⟨b, off, ha, by simpa using hlt, ?_⟩
    rw [← hc]
    exact World.cell?_of_block (heap_setCell_other w p b u (fun e => hp _ ha e.symm))⟩

set_option maxRecDepth 100000 in
set_option maxHeartbeats 1600000 in
theorem toNode_any (x : Nd) (an : Option Addr) (nn cn : Nat) (ak : Option Addr) (nk ck : Nat) (w : World) (h1 : Strs w an nn cn x.names) (h2 : IntsR w ak nk ck x.kids) (k1 : nn ≤ 1048576) (k2 : nk ≤ 1048576) :
    Calls Tryz.prog 49 #[.agg #[.int .i64 x.op, .int .i64 x.num, .string x.text, .slice an nn cn, .slice ak nk ck]] w fun e w' =>
      ∃ x1 x2, e = .returned (.agg #[.int .i64 x.op, .int .i64 x.num, .string x.text, .slice (some x1) nn nn, .slice (some x2) nk nk]) ∧ Strs w' (some x1) nn nn x.names ∧ Ints w' (some x2) nk nk x.kids ∧ Wd w' x1 nn 9 ∧ Wd w' x2 nk 3 ∧ w.heap.size ≤ x1.block ∧ w.heap.size ≤ x2.block ∧ Below w.heap.size w w' := by
  go_enter Tryz.func49, Tryz.ntmps49
  go_wp2_with fail
  have B0 := ((((Below.refl w.heap.size w).alloc (Nat.le_refl _) (.cells #[.int .i64 x.op, .int .i64 x.num, .string x.text, .slice an nn cn, .slice ak nk ck] 90)).alloc (by simp) (.cells #[.int .i64 0, .int .i64 0, .string ⟨#[]⟩, .slice none 0 0, .slice none 0 0] 103)).alloc (by simp; omega) (.cells #[.int .i64 x.op, .int .i64 x.num, .string x.text, .slice none 0 0, .slice none 0 0] 103))
  have R0 := ((Row.new w #[.int .i64 x.op, .int .i64 x.num, .string x.text, .slice an nn cn, .slice ak nk ck] 90).alloc (.cells #[.int .i64 0, .int .i64 0, .string ⟨#[]⟩, .slice none 0 0, .slice none 0 0] 103)).alloc (.cells #[.int .i64 x.op, .int .i64 x.num, .string x.text, .slice none 0 0, .slice none 0 0] 103)
  have R1 := (Row.new (w.alloc (.cells #[.int .i64 x.op, .int .i64 x.num, .string x.text, .slice an nn cn, .slice ak nk ck] 90)) #[.int .i64 0, .int .i64 0, .string ⟨#[]⟩, .slice none 0 0, .slice none 0 0] 103).alloc (.cells #[.int .i64 x.op, .int .i64 x.num, .string x.text, .slice none 0 0, .slice none 0 0] 103)
  have R2 := Row.new ((w.alloc (.cells #[.int .i64 x.op, .int .i64 x.num, .string x.text, .slice an nn cn, .slice ak nk ck] 90)).alloc (.cells #[.int .i64 0, .int .i64 0, .string ⟨#[]⟩, .slice none 0 0, .slice none 0 0] 103)) #[.int .i64 x.op, .int .i64 x.num, .string x.text, .slice none 0 0, .slice none 0 0] 103
  simp only [World.size_alloc] at R1 R2
  have Z := R2.lt
  refine (toStringS_any _ _ _ _ _ (h1.below B0 (Nat.le_refl _)) k1).mono ?_
  rintro e w1 ⟨rfl, hb1, ho1⟩
  have B1 := B0.trans (hb1.mono (by simp; omega))
  have r0 := R0.after hb1 (Nat.le_refl _)
  have r1 := R1.after hb1 (Nat.le_refl _)
  have r2 := R2.after hb1 (Nat.le_refl _)
  have z1 := hb1.size
  have s1' := Strs.of_owns ho1 h1.sizes
  have y1 := Wd.of_owns ho1
  have l1 := (ho1.lt _ rfl).2
  simp only [World.size_alloc] at z1 s1' l1 y1
  clear B0 R0 R1 R2 ho1 hb1 Z
  have q0 := r0.cell 4
  have q1 := r2.cell 3
  have q2 := r2.frozen 3
  simp only [List.getElem?_toArray, List.getElem?_cons_succ, List.getElem?_cons_zero] at q0 q1
  go_wp2_with fail
  have B2 := B1.setCell (p := ⟨w.heap.size + 1 + 1, 3, none⟩) (by show w.heap.size ≤ w.heap.size + 1 + 1; omega) (.slice (some ⟨w.heap.size + 1 + 1 + 1, 0, none⟩) nn nn)
  refine (toIntS_any _ _ _ _ _ (h2.below B2 (Nat.le_refl _)) k2).mono ?_
  rintro e w2 ⟨rfl, hb2, ho2⟩
  have r1' := (r1.setFar (p := ⟨w.heap.size + 1 + 1, 3, none⟩) (by show w.heap.size + 1 ≠ w.heap.size + 1 + 1; omega) (.slice (some ⟨w.heap.size + 1 + 1 + 1, 0, none⟩) nn nn)).after hb2 (Nat.le_refl _)
  have r2' := (r2.set 3 (.slice (some ⟨w.heap.size + 1 + 1 + 1, 0, none⟩) nn nn)).after hb2 (Nat.le_refl _)
  have s1'' := (s1'.setFar (p := ⟨w.heap.size + 1 + 1, 3, none⟩) (fun x hx => by cases hx; show w.heap.size + 1 + 1 ≠ w.heap.size + 1 + 1 + 1; omega) (.slice (some ⟨w.heap.size + 1 + 1 + 1, 0, none⟩) nn nn)).below hb2 (Nat.le_refl _)
  have s2' := ints_of_row ho2 k2
  have y1' := (y1.setFar (p := ⟨w.heap.size + 1 + 1, 3, none⟩) (by show w.heap.size + 1 + 1 ≠ w.heap.size + 1 + 1 + 1; omega) (.slice (some ⟨w.heap.size + 1 + 1 + 1, 0, none⟩) nn nn)).below hb2 (Nat.le_refl _)
  have y2 := Wd.of_owns ho2
  have B3 := B2.trans (hb2.mono (by simp; omega))
  have z2 := hb2.size
  have l2 := (ho2.lt _ rfl).2
  simp only [World.size_setCell] at z2 s2' l2 y2
  clear r0 r1 r2 s1' y1 q0 q1 q2 B1 B2 hb2 ho2
  have f1 := fun j => r1'.frozen j
  have f2 := fun j => r2'.frozen j
  have p0 := r1'.cell 0
  have p1 := r1'.cell 1
  have p2 := r1'.cell 2
  have p3 := r1'.cell 3
  have p4 := r1'.cell 4
  have q0 := r2'.cell 0
  have q1 := r2'.cell 1
  have q2 := r2'.cell 2
  have q3 := r2'.cell 3
  have q4 := r2'.cell 4
  simp at p0 p1 p2 p3 p4 q0 q1 q2 q3 q4
  go_wp2_with fail
  refine bodyPost_ret (v := .agg #[.int .i64 x.op, .int .i64 x.num, .string x.text, .slice (some ⟨w.heap.size + 1 + 1 + 1, 0, none⟩) nn nn, .slice (some ⟨w1.heap.size, 0, none⟩) nk nk]) (by simp [results, Tryz.results49, go_sem, p0, p1, p2, p3, p4]) rfl ⟨_, _, rfl, ?_, ?_, ?_, ?_, by show w.heap.size ≤ w.heap.size + 1 + 1 + 1; omega, by show w.heap.size ≤ w1.heap.size; omega, ?_⟩
  · clear p0 p1 p2 p3 p4 q0 q1 q2 q3 q4 f1 f2 r1' r2'
    refine Strs.setFar (Strs.setFar (Strs.setFar (Strs.setFar (Strs.setFar (Strs.setFar s1'' ?_ _) ?_ _) ?_ _) ?_ _) ?_ _) ?_ _
    all_goals (intro x hx; cases hx; dsimp only; omega)
  · clear p0 p1 p2 p3 p4 q0 q1 q2 q3 q4 f1 f2 r1' r2'
    refine Ints.setFar (Ints.setFar (Ints.setFar (Ints.setFar (Ints.setFar (Ints.setFar s2' ?_ _) ?_ _) ?_ _) ?_ _) ?_ _) ?_ _
    all_goals (intro x hx; cases hx; dsimp only; omega)
  · clear p0 p1 p2 p3 p4 q0 q1 q2 q3 q4 f1 f2 r1' r2'
    refine Wd.setFar (Wd.setFar (Wd.setFar (Wd.setFar (Wd.setFar (Wd.setFar y1' ?_ _) ?_ _) ?_ _) ?_ _) ?_ _) ?_ _
    all_goals (dsimp only; omega)
  · clear p0 p1 p2 p3 p4 q0 q1 q2 q3 q4 f1 f2 r1' r2'
    refine Wd.setFar (Wd.setFar (Wd.setFar (Wd.setFar (Wd.setFar (Wd.setFar y2 ?_ _) ?_ _) ?_ _) ?_ _) ?_ _) ?_ _
    all_goals (dsimp only; omega)
  · clear p0 p1 p2 p3 p4 q0 q1 q2 q3 q4 f1 f2 r1' r2'
    refine Below.setCell (Below.setCell (Below.setCell (Below.setCell (Below.setCell (Below.setCell B3 ?_ _) ?_ _) ?_ _) ?_ _) ?_ _) ?_ _
    all_goals (dsimp only; omega)

end Go.Proofs.YtpbopjgmiaoomaaGreatDoor

namespace Go.Proofs.YtpbopjgmiaoomaaGreatDoor
open Go.RowKit
set_option linter.unusedVariables false

theorem infoN : (Tryz.prog.info? 103).map (fun i => (i.zero, i.size, i.bytes)) = some (some (.agg #[.int .i64 0, .int .i64 0, .string ByteArray.empty, .slice none 0 0, .slice none 0 0]), 5, 80) := by kernel_rfl
theorem infoSt : (Tryz.prog.info? 49).map (fun i => (i.zero, i.size, i.bytes)) = some (some (.agg #[.int .i64 0, .string ByteArray.empty, .int .i64 0, .int .i64 0]), 4, 40) := by kernel_rfl

theorem row_of_owns {w : World} {base : Nat} {e : TypeId} {size g n c : Nat} {xs : List Value} (h : w.ownsRow base e size (.slice (some ⟨g, 0, none⟩) n c) n xs) : ∃ cur, Row w g cur e ∧ cur.size = c * size := by
  rcases h.2 with ⟨hv, _⟩ | ⟨g', cap, cur, hv, h1, h2, h3, h4, h5, h6⟩
  · cases hv
  · cases hv; exact ⟨cur, ⟨h2⟩, h5⟩

def put5A (cs : Array Value) (p : Nat) (v0 v1 v2 v3 v4 : Value) : Array Value := ((((cs.setIfInBounds p v0).setIfInBounds (p + 1) v1).setIfInBounds (p + 2) v2).setIfInBounds (p + 3) v3).setIfInBounds (p + 4) v4

theorem put5A_size (cs : Array Value) (p : Nat) (v0 v1 v2 v3 v4 : Value) : (put5A cs p v0 v1 v2 v3 v4).size = cs.size := by simp [put5A]

theorem put5A_at {cs : Array Value} {p : Nat} (h : p + 5 ≤ cs.size) (v0 v1 v2 v3 v4 : Value) : (put5A cs p v0 v1 v2 v3 v4)[p]? = some v0 ∧ (put5A cs p v0 v1 v2 v3 v4)[p + 1]? = some v1 ∧ (put5A cs p v0 v1 v2 v3 v4)[p + 2]? = some v2 ∧ (put5A cs p v0 v1 v2 v3 v4)[p + 3]? = some v3 ∧ (put5A cs p v0 v1 v2 v3 v4)[p + 4]? = some v4 := by
  unfold put5A
  refine ⟨?_, ?_, ?_, ?_, ?_⟩ <;> simp [Array.getElem?_setIfInBounds] <;> omega

theorem put5A_ne {cs : Array Value} {p q : Nat} (h : q < p) (v0 v1 v2 v3 v4 : Value) : (put5A cs p v0 v1 v2 v3 v4)[q]? = cs[q]? := by
  unfold put5A
  rw [Array.getElem?_setIfInBounds_ne (by omega), Array.getElem?_setIfInBounds_ne (by omega), Array.getElem?_setIfInBounds_ne (by omega), Array.getElem?_setIfInBounds_ne (by omega), Array.getElem?_setIfInBounds_ne (by omega)]

/-- five cells of a block, written over -/
def put5 (W : World) (b p : Nat) (v0 v1 v2 v3 v4 : Value) : World := ((((W.setCell ⟨b, p, none⟩ v0).setCell ⟨b, p + 1, none⟩ v1).setCell ⟨b, p + 2, none⟩ v2).setCell ⟨b, p + 3, none⟩ v3).setCell ⟨b, p + 4, none⟩ v4

theorem put5_row {W : World} {b p : Nat} {cs : Array Value} {t : TypeId} (h : Row W b cs t) (v0 v1 v2 v3 v4 : Value) : Row (put5 W b p v0 v1 v2 v3 v4) b (put5A cs p v0 v1 v2 v3 v4) t := ((((h.set p v0).set (p + 1) v1).set (p + 2) v2).set (p + 3) v3).set (p + 4) v4

theorem put5_below {B : Nat} {w W : World} {b p : Nat} (h : Below B w W) (hb : B ≤ b) (v0 v1 v2 v3 v4 : Value) : Below B w (put5 W b p v0 v1 v2 v3 v4) :=
  ((((h.setCell (p := ⟨b, p, none⟩) hb v0).setCell (p := ⟨b, p + 1, none⟩) hb v1).setCell (p := ⟨b, p + 2, none⟩) hb v2).setCell (p := ⟨b, p + 3, none⟩) hb v3).setCell (p := ⟨b, p + 4, none⟩) hb v4

theorem Strs.put5 {w : World} {x : Addr} {n c : Nat} {ss : List ByteArray} (h : Strs w (some x) n c ss) {b p : Nat} (hp : b ≠ x.block) (v0 v1 v2 v3 v4 : Value) : Strs (put5 w b p v0 v1 v2 v3 v4) (some x) n c ss :=
  ((((h.setFar (p := ⟨b, p, none⟩) (fun y e => by cases e; exact hp) v0).setFar (p := ⟨b, p + 1, none⟩) (fun y e => by cases e; exact hp) v1).setFar (p := ⟨b, p + 2, none⟩) (fun y e => by cases e; exact hp) v2).setFar (p := ⟨b, p + 3, none⟩) (fun y e => by cases e; exact hp) v3).setFar (p := ⟨b, p + 4, none⟩) (fun y e => by cases e; exact hp) v4

theorem Ints.put5 {w : World} {x : Addr} {n c : Nat} {ss : List Int} (h : Ints w (some x) n c ss) {b p : Nat} (hp : b ≠ x.block) (v0 v1 v2 v3 v4 : Value) : Ints (put5 w b p v0 v1 v2 v3 v4) (some x) n c ss :=
  ((((h.setFar (p := ⟨b, p, none⟩) (fun y e => by cases e; exact hp) v0).setFar (p := ⟨b, p + 1, none⟩) (fun y e => by cases e; exact hp) v1).setFar (p := ⟨b, p + 2, none⟩) (fun y e => by cases e; exact hp) v2).setFar (p := ⟨b, p + 3, none⟩) (fun y e => by cases e; exact hp) v3).setFar (p := ⟨b, p + 4, none⟩) (fun y e => by cases e; exact hp) v4

theorem Wd.put5 {w : World} {x : Addr} {n : Nat} {t : TypeId} (h : Wd w x n t) {b p : Nat} (hp : b ≠ x.block) (v0 v1 v2 v3 v4 : Value) : Wd (put5 w b p v0 v1 v2 v3 v4) x n t :=
  ((((h.setFar (p := ⟨b, p, none⟩) hp v0).setFar (p := ⟨b, p + 1, none⟩) hp v1).setFar (p := ⟨b, p + 2, none⟩) hp v2).setFar (p := ⟨b, p + 3, none⟩) hp v3).setFar (p := ⟨b, p + 4, none⟩) hp v4

/-- a node that lies in the row already, its parts behind it -/
def NdX (w : World) (g : Nat) (cs : Array Value) (o : Nat) (x : Nd) : Prop := ∃ x1 nn x2 nk, cs[o]? = some (.int .i64 x.op) ∧ cs[o + 1]? = some (.int .i64 x.num) ∧ cs[o + 2]? = some (.string x.text) ∧ cs[o + 3]? = some (.slice (some x1) nn nn) ∧ cs[o + 4]? = some (.slice (some x2) nk nk) ∧ Strs w (some x1) nn nn x.names ∧ Ints w (some x2) nk nk x.kids ∧ (Wd w x1 nn 9 ∧ Wd w x2 nk 3) ∧ g < x1.block ∧ g < x2.block

theorem NdX.step {w w2 : World} {g : Nat} {cs : Array Value} {o p : Nat} {x : Nd} (h : NdX w g cs o x) (hb : Below w.heap.size w w2) (hp : o + 5 ≤ p) (v0 v1 v2 v3 v4 : Value) : NdX (put5 w2 g p v0 v1 v2 v3 v4) g (put5A cs p v0 v1 v2 v3 v4) o x := by
  obtain ⟨x1, nn, x2, nk, c0, c1, c2, c3, c4, hN, hK, hW, g1, g2⟩ := h
  exact ⟨x1, nn, x2, nk, (put5A_ne (by omega) _ _ _ _ _).trans c0, (put5A_ne (by omega) _ _ _ _ _).trans c1, (put5A_ne (by omega) _ _ _ _ _).trans c2, (put5A_ne (by omega) _ _ _ _ _).trans c3, (put5A_ne (by omega) _ _ _ _ _).trans c4, (hN.below hb (Nat.le_refl _)).put5 (by omega) _ _ _ _ _, (hK.below hb (Nat.le_refl _)).put5 (by omega) _ _ _ _ _, ⟨(hW.1.below hb (Nat.le_refl _)).put5 (by omega) _ _ _ _ _, (hW.2.below hb (Nat.le_refl _)).put5 (by omega) _ _ _ _ _⟩, g1, g2⟩

theorem NdX.at {w : World} {g : Nat} {cs : Array Value} {o : Nat} {x : Nd} {t : TypeId} (h : NdX w g cs o x) (R : Row w g cs t) : NdAt w g o x := by
  obtain ⟨x1, nn, x2, nk, c0, c1, c2, c3, c4, hN, hK, _, _, _⟩ := h
  exact ⟨_, _, _, _, _, _, (R.cell _).trans c0, (R.cell _).trans c1, (R.cell _).trans c2, (R.cell _).trans c3, (R.cell _).trans c4, hN, hK⟩

/-- all nodes, in a row, their parts behind it -/
def Hi (w : World) (g : Nat) (N : List Nd) : Prop := ∃ cs, (Row w g cs 103 ∧ cs.size = N.length * 5) ∧ ∀ j, (hj : j < N.length) → NdX w g cs (j * 5) N[j]

theorem Hi.nds {w : World} {g n : Nat} {N : List Nd} (h : Hi w g N) (hl : N.length = n) (hsm : n ≤ 1048576) (hs : ∀ x ∈ N, smallNd x) : Nds w (some ⟨g, 0, none⟩) n n N := by
  obtain ⟨cs, ⟨R, _⟩, hx⟩ := h
  exact ⟨hl, hsm, fun x hx => (hs x hx).1, fun j hj => ⟨g, 0, rfl, R.lt, by rw [Nat.zero_add]; exact (hx j hj).at R⟩⟩

theorem Hi.below {w w' : World} {B g : Nat} {N : List Nd} (h : Hi w g N) (hb : Below B w w') (hB : w.heap.size ≤ B) : Hi w' g N := by
  obtain ⟨cs, ⟨R, z⟩, hx⟩ := h
  refine ⟨cs, ⟨R.after hb hB, z⟩, fun j hj => ?_⟩
  obtain ⟨x1, nn, x2, nk, c0, c1, c2, c3, c4, hN, hK, hW, g1, g2⟩ := hx j hj
  exact ⟨x1, nn, x2, nk, c0, c1, c2, c3, c4, hN.below hb hB, hK.below hb hB, ⟨hW.1.below hb hB, hW.2.below hb hB⟩, g1, g2⟩

theorem Hi.setLow {w : World} {g : Nat} {N : List Nd} (h : Hi w g N) {p : Addr} (hp : p.block < g) (u : Value) : Hi (w.setCell p u) g N := by
  obtain ⟨cs, ⟨R, z⟩, hx⟩ := h
  refine ⟨cs, ⟨R.setFar (by omega) u, z⟩, fun j hj => ?_⟩
  obtain ⟨x1, nn, x2, nk, c0, c1, c2, c3, c4, hN, hK, hW, g1, g2⟩ := hx j hj
  exact ⟨x1, nn, x2, nk, c0, c1, c2, c3, c4, hN.setFar (fun y e => by cases e; omega) u, hK.setFar (fun y e => by cases e; omega) u, ⟨hW.1.setFar (by omega) u, hW.2.setFar (by omega) u⟩, g1, g2⟩

theorem Sts.setFar {w : World} {g n c : Nat} {L : List St} (h : Sts w (some ⟨g, 0, none⟩) n c L) {p : Addr} (hp : p.block ≠ g) (u : Value) : Sts (w.setCell p u) (some ⟨g, 0, none⟩) n c L :=
  ⟨h.len, h.small, h.sizes, fun j hj => by
    obtain ⟨b, off, ha, hl, c0, c1, c2, c3⟩ := h.cells j hj
    cases ha
    have e : ∀ o, (w.setCell p u).cell? ⟨g, o, none⟩ = w.cell? ⟨g, o, none⟩ := fun o => World.cell?_of_block (heap_setCell_other w p g u (fun e => hp e.symm))
    exact ⟨g, 0, rfl, by simpa using hl, (e _).trans c0, (e _).trans c1, (e _).trans c2, (e _).trans c3⟩⟩

theorem some_at {cs : Array Value} {p : Nat} (h : p < cs.size) : ∃ u, cs[p]? = some u := ⟨_, Array.getElem?_eq_getElem h⟩

set_option maxRecDepth 100000 in
set_option maxHeartbeats 1600000 in
theorem toNodeS_any (a : Option Addr) (n c : Nat) (N : List Nd) (w : World) (h : NdsR w a n c N) (hsm : n ≤ 1048576) (hs : ∀ x ∈ N, smallNd x) :
    Calls Tryz.prog 20 #[.slice a n c] w fun e w' => e = .returned (.slice (some ⟨w.heap.size, 0, none⟩) n n) ∧ Below w.heap.size w w' ∧ Hi w' w.heap.size N := by
  obtain ⟨i, hi, hz0, hz1, hz2⟩ := info_parts infoN
  have Hl := hide h.len
  go_enter Tryz.func20, Tryz.ntmps20
  go_wp2_with (at_make; refine wpList_make_full _ rfl _ _ 33 rfl w.heap.size 103 i (.agg #[.int .i64 0, .int .i64 0, .string ByteArray.empty, .slice none 0 0, .slice none 0 0]) 5 Tryz.underlying33 hi hz0 hz1 _ _ _ _ n rfl rfl rfl rfl ?b2 ?b3 ?b4 ?_)
  case b2 => rw [hz2]; omega
  case b3 => unfold maxLen; omega
  case b4 => exact Nat.le_refl _
  intro w1 hown hgrow
  have hb1 : Below w.heap.size w w1 := (Below.refl _ _).grown hgrow (Nat.le_refl _) (fun k hk => by cases hk)
  clear hgrow
  obtain ⟨cs1, R1, hz⟩ := row_of_owns hown
  have Hs := hide hs
  clear hown hs
  go_wp2_with fail
  go_loopw [4] (fun i wr => ∃ (k : Nat) (cs : Array Value), k ≤ n ∧ i = .int .i64 k ∧ Row wr w.heap.size cs 103 ∧ cs.size = n * 5 ∧ Below w.heap.size w wr ∧ Hid (∀ j, (hj : j < N.length) → j < k → NdX wr w.heap.size cs (j * 5) N[j])) (fun i _ => n - (intOf i).toNat)
  case atStart => exact ⟨0, cs1, Nat.zero_le _, rfl, R1, hz, hb1, hide (fun j _ h => absurd h (by omega))⟩
  case round =>
    obtain ⟨k, cs, hk, rfl, R2, hz2, B2, Ha⟩ := hrel
    clear R1 hb1
    by_cases hlt : k < n
    · have ilt : (k : Int) < (n : Int) := by omega
      have hkl : k < N.length := by rw [unhide Hl]; exact hlt
      have hsx := unhide Hs N[k] (List.getElem_mem hkl)
      obtain ⟨b, off, rfl, hbl, an, nn, cn, ak, nk, ck, c0, c1, c2, c3, c4, hN, hK⟩ := (h.below B2 (Nat.le_refl _)).cells k hkl
      have hgl := R2.lt
      have k1 : nn ≤ 1048576 := by rw [hN.len]; exact hsx.2.1
      have k2 : nk ≤ 1048576 := by rw [← hK.len]; exact hsx.2.2.2
      have HY := hide (fun (w2 : World) (hb2 : Below wr.heap.size wr w2) (v0 v1 v2 v3 v4 : Value) (e : NdX (put5 w2 w.heap.size (k * 5) v0 v1 v2 v3 v4) w.heap.size (put5A cs (k * 5) v0 v1 v2 v3 v4) (k * 5) N[k]) => show ∀ j, (hj : j < N.length) → j < k + 1 → NdX (put5 w2 w.heap.size (k * 5) v0 v1 v2 v3 v4) w.heap.size (put5A cs (k * 5) v0 v1 v2 v3 v4) (j * 5) N[j] from fun j hj h' => by
        by_cases ej : j = k
        · subst ej; exact e
        · exact (unhide Ha j hj (by omega)).step hb2 (by omega) _ _ _ _ _)
      have Hlt := hide hlt
      have Hh := hide h
      clear Ha h hsx
      generalize N[k] = x at c0 c1 c2 c3 c4 hN hK HY
      obtain ⟨u0, e0⟩ := some_at (cs := cs) (p := k * 5) (by omega)
      obtain ⟨u1, e1⟩ := some_at (cs := cs) (p := k * 5 + 1) (by omega)
      obtain ⟨u2, e2⟩ := some_at (cs := cs) (p := k * 5 + 2) (by omega)
      obtain ⟨u3, e3⟩ := some_at (cs := cs) (p := k * 5 + 3) (by omega)
      obtain ⟨u4, e4⟩ := some_at (cs := cs) (p := k * 5 + 4) (by omega)
      have HE := hide (And.intro e0 (And.intro e1 (And.intro e2 (And.intro e3 e4))))
      clear e0 e1 e2 e3 e4
      go_wp2_with (go_at_call 49; refine (toNode_any x an nn cn ak nk ck _ hN hK k1 k2).mono ?_; rintro e w2 ⟨x1, x2, rfl, hN2, hK2, hV2, hW2, g1, g2, hb2⟩; have R3 := R2.after hb2 (Nat.le_refl _); have f3 := (fun j => R3.frozen j); have d0 := (R3.cell _).trans (unhide HE).1; have d1 := (R3.cell _).trans (unhide HE).2.1; have d2 := (R3.cell _).trans (unhide HE).2.2.1; have d3 := (R3.cell _).trans (unhide HE).2.2.2.1; have d4 := (R3.cell _).trans (unhide HE).2.2.2.2)
      obtain ⟨m0, m1, m2, m3, m4⟩ := put5A_at (cs := cs) (p := k * 5) (by omega) (.int .i64 x.op) (.int .i64 x.num) (.string x.text) (.slice (some x1) nn nn) (.slice (some x2) nk nk)
      have E2 := B2.trans (hb2.mono B2.size)
      refine ⟨⟨k + 1, _, unhide Hlt, by go_num, put5_row R3 _ _ _ _ _, by rw [put5A_size]; exact hz2, put5_below E2 (Nat.le_refl _) _ _ _ _ _, hide (unhide HY w2 hb2 _ _ _ _ _ ⟨x1, nn, x2, nk, m0, m1, m2, m3, m4, hN2.put5 (by omega) _ _ _ _ _, hK2.put5 (by omega) _ _ _ _ _, ⟨hV2.put5 (by omega) _ _ _ _ _, hW2.put5 (by omega) _ _ _ _ _⟩, by omega, by omega⟩)⟩, by have := unhide Hlt; simp [intOf]; omega⟩
    · have e : k = n := by omega
      have HX := hide (show Hi wr w.heap.size N from ⟨cs, ⟨R2, by rw [unhide Hl]; exact hz2⟩, fun j hj => unhide Ha j hj (by have := unhide Hl; omega)⟩)
      clear Ha
      have ilt : ¬ ((k : Int) < (n : Int)) := by omega
      go_wp2_with fail
      go_ret
      exact ⟨rfl, B2, unhide HX⟩

set_option maxHeartbeats 800000 in
theorem toStmt_any (s : St) (w : World) :
    Calls Tryz.prog 50 #[.agg #[.int .i64 s.kind, .string s.name, .int .i64 s.cond, .int .i64 s.grant]] w fun e w' => e = .returned (.agg #[.int .i64 s.kind, .string s.name, .int .i64 s.cond, .int .i64 s.grant]) ∧ Below w.heap.size w w' := by
  go_enter Tryz.func50, Tryz.ntmps50
  go_wp2_with fail
  refine bodyPost_ret (v := .agg #[.int .i64 s.kind, .string s.name, .int .i64 s.cond, .int .i64 s.grant]) (by simp [results, Tryz.results50, go_sem]) rfl ⟨rfl, ?_⟩
  exact (((Below.refl w.heap.size w).alloc (Nat.le_refl _) _).alloc (by simp) _).alloc (by simp; omega) _

def put4A (cs : Array Value) (p : Nat) (v0 v1 v2 v3 : Value) : Array Value := (((cs.setIfInBounds p v0).setIfInBounds (p + 1) v1).setIfInBounds (p + 2) v2).setIfInBounds (p + 3) v3

theorem put4A_size (cs : Array Value) (p : Nat) (v0 v1 v2 v3 : Value) : (put4A cs p v0 v1 v2 v3).size = cs.size := by simp [put4A]

theorem put4A_at {cs : Array Value} {p : Nat} (h : p + 4 ≤ cs.size) (v0 v1 v2 v3 : Value) : (put4A cs p v0 v1 v2 v3)[p]? = some v0 ∧ (put4A cs p v0 v1 v2 v3)[p + 1]? = some v1 ∧ (put4A cs p v0 v1 v2 v3)[p + 2]? = some v2 ∧ (put4A cs p v0 v1 v2 v3)[p + 3]? = some v3 := by
  unfold put4A
  refine ⟨?_, ?_, ?_, ?_⟩ <;> simp [Array.getElem?_setIfInBounds] <;> omega

theorem put4A_ne {cs : Array Value} {p q : Nat} (h : q < p) (v0 v1 v2 v3 : Value) : (put4A cs p v0 v1 v2 v3)[q]? = cs[q]? := by
  unfold put4A
  rw [Array.getElem?_setIfInBounds_ne (by omega), Array.getElem?_setIfInBounds_ne (by omega), Array.getElem?_setIfInBounds_ne (by omega), Array.getElem?_setIfInBounds_ne (by omega)]

/-- a statement that lies in the row already -/
def StX (cs : Array Value) (o : Nat) (s : St) : Prop := cs[o]? = some (.int .i64 s.kind) ∧ cs[o + 1]? = some (.string s.name) ∧ cs[o + 2]? = some (.int .i64 s.cond) ∧ cs[o + 3]? = some (.int .i64 s.grant)

theorem StX.step {cs : Array Value} {o p : Nat} {s : St} (h : StX cs o s) (hp : o + 4 ≤ p) (v0 v1 v2 v3 : Value) : StX (put4A cs p v0 v1 v2 v3) o s :=
  ⟨(put4A_ne (by omega) _ _ _ _).trans h.1, (put4A_ne (by omega) _ _ _ _).trans h.2.1, (put4A_ne (by omega) _ _ _ _).trans h.2.2.1, (put4A_ne (by omega) _ _ _ _).trans h.2.2.2⟩

set_option maxRecDepth 100000 in
set_option maxHeartbeats 1600000 in
theorem toStmtS_any (a : Option Addr) (n c : Nat) (N : List St) (w : World) (h : StsR w a n c N) (hsm : n ≤ 1048576) (hs : ∀ x ∈ N, x.name.size ≤ 1048576) :
    Calls Tryz.prog 21 #[.slice a n c] w fun e w' => e = .returned (.slice (some ⟨w.heap.size, 0, none⟩) n n) ∧ Below w.heap.size w w' ∧ Sts w' (some ⟨w.heap.size, 0, none⟩) n n N ∧ Wd w' ⟨w.heap.size, 0, none⟩ (n * 4) 49 := by
  obtain ⟨i, hi, hz0, hz1, hz2⟩ := info_parts infoSt
  have Hl := hide h.len
  go_enter Tryz.func21, Tryz.ntmps21
  go_wp2_with (at_make; refine wpList_make_full _ rfl _ _ 34 rfl w.heap.size 49 i (.agg #[.int .i64 0, .string ByteArray.empty, .int .i64 0, .int .i64 0]) 4 Tryz.underlying34 hi hz0 hz1 _ _ _ _ n rfl rfl rfl rfl ?b2 ?b3 ?b4 ?_)
  case b2 => rw [hz2]; omega
  case b3 => unfold maxLen; omega
  case b4 => exact Nat.le_refl _
  intro w1 hown hgrow
  have hb1 : Below w.heap.size w w1 := (Below.refl _ _).grown hgrow (Nat.le_refl _) (fun k hk => by cases hk)
  clear hgrow
  obtain ⟨cs1, R1, hz⟩ := row_of_owns hown
  have Hs := hide hs
  clear hown hs
  go_wp2_with fail
  go_loopw [4] (fun i wr => ∃ (k : Nat) (cs : Array Value), k ≤ n ∧ i = .int .i64 k ∧ Row wr w.heap.size cs 49 ∧ cs.size = n * 4 ∧ Below w.heap.size w wr ∧ Hid (∀ j, (hj : j < N.length) → j < k → StX cs (j * 4) N[j])) (fun i _ => n - (intOf i).toNat)
  case atStart => exact ⟨0, cs1, Nat.zero_le _, rfl, R1, hz, hb1, hide (fun j _ h => absurd h (by omega))⟩
  case round =>
    obtain ⟨k, cs, hk, rfl, R2, hz2, B2, Ha⟩ := hrel
    clear R1 hb1
    by_cases hlt : k < n
    · have ilt : (k : Int) < (n : Int) := by omega
      have hkl : k < N.length := by rw [unhide Hl]; exact hlt
      obtain ⟨b, off, rfl, hbl, c0, c1, c2, c3⟩ := (h.below B2 (Nat.le_refl _)).cells k hkl
      have hgl := R2.lt
      have HY := hide (fun (v0 v1 v2 v3 : Value) (e : StX (put4A cs (k * 4) v0 v1 v2 v3) (k * 4) N[k]) => show ∀ j, (hj : j < N.length) → j < k + 1 → StX (put4A cs (k * 4) v0 v1 v2 v3) (j * 4) N[j] from fun j hj h' => by
        by_cases ej : j = k
        · subst ej; exact e
        · exact (unhide Ha j hj (by omega)).step (by omega) _ _ _ _)
      have Hlt := hide hlt
      have Hh := hide h
      clear Ha h
      generalize N[k] = x at c0 c1 c2 c3 HY
      obtain ⟨u0, e0⟩ := some_at (cs := cs) (p := k * 4) (by omega)
      obtain ⟨u1, e1⟩ := some_at (cs := cs) (p := k * 4 + 1) (by omega)
      obtain ⟨u2, e2⟩ := some_at (cs := cs) (p := k * 4 + 2) (by omega)
      obtain ⟨u3, e3⟩ := some_at (cs := cs) (p := k * 4 + 3) (by omega)
      have HE := hide (And.intro e0 (And.intro e1 (And.intro e2 e3)))
      clear e0 e1 e2 e3
      go_wp2_with (go_at_call 50; refine (toStmt_any x _).mono ?_; rintro e w2 ⟨rfl, hb2⟩; have R3 := R2.after hb2 (Nat.le_refl _); have f3 := (fun j => R3.frozen j); have d0 := (R3.cell _).trans (unhide HE).1; have d1 := (R3.cell _).trans (unhide HE).2.1; have d2 := (R3.cell _).trans (unhide HE).2.2.1; have d3 := (R3.cell _).trans (unhide HE).2.2.2)
      have E2 := B2.trans (hb2.mono B2.size)
      refine ⟨⟨k + 1, _, unhide Hlt, by go_num, (((R3.set (k * 4) _).set (k * 4 + 1) _).set (k * 4 + 2) _).set (k * 4 + 3) _, (put4A_size cs (k * 4) _ _ _ _).trans hz2, (((E2.setCell (p := ⟨w.heap.size, k * 4, none⟩) (Nat.le_refl _) _).setCell (p := ⟨w.heap.size, k * 4 + 1, none⟩) (Nat.le_refl _) _).setCell (p := ⟨w.heap.size, k * 4 + 2, none⟩) (Nat.le_refl _) _).setCell (p := ⟨w.heap.size, k * 4 + 3, none⟩) (Nat.le_refl _) _, hide (unhide HY _ _ _ _ (put4A_at (by omega) _ _ _ _))⟩, by have := unhide Hlt; simp [intOf]; omega⟩
    · have e : k = n := by omega
      have HX := hide (show Sts wr (some ⟨w.heap.size, 0, none⟩) n n N from ⟨unhide Hl, hsm, unhide Hs, fun j hj => by
        have q := unhide Ha j hj (by have := unhide Hl; omega)
        refine ⟨w.heap.size, 0, rfl, R2.lt, ?_⟩
        rw [Nat.zero_add]
        exact ⟨(R2.cell _).trans q.1, (R2.cell _).trans q.2.1, (R2.cell _).trans q.2.2.1, (R2.cell _).trans q.2.2.2⟩⟩)
      clear Ha
      have ilt : ¬ ((k : Int) < (n : Int)) := by omega
      go_wp2_with fail
      go_ret
      exact ⟨rfl, B2, unhide HX, _, cs, rfl, R2, hz2⟩

end Go.Proofs.YtpbopjgmiaoomaaGreatDoor

namespace Go.Proofs.YtpbopjgmiaoomaaGreatDoor
open Go.RowKit
set_option linter.unusedVariables false

set_option maxHeartbeats 800000 in
theorem eqIntS_same (a a' : Option Addr) (n c c' : Nat) (L : List Int) (w : World) (h : Ints w a n c L) (h' : Ints w a' n c' L) :
    Calls Tryz.prog 31 #[.slice a n c, .slice a' n c'] w fun e w' => e = .returned (.bool true) ∧ Below w.heap.size w w' := by
  have hn := h.small
  have Hl := hide h.len
  go_enter Tryz.func31, Tryz.ntmps31
  go_wp2
  go_loopw [5] (fun i wr => ∃ k : Nat, k ≤ n ∧ i = .int .i64 k ∧ Below w.heap.size w wr) (fun i _ => n - (intOf i).toNat)
  case atStart => exact ⟨0, Nat.zero_le _, rfl, Below.refl _ _⟩
  case round =>
    obtain ⟨k, hk, rfl, hb⟩ := hrel
    by_cases hlt : k < n
    · have hkl : k < L.length := by rw [unhide Hl]; exact hlt
      obtain ⟨b, off, rfl, _, hc⟩ := (h.below hb (Nat.le_refl _)).cells k hkl
      obtain ⟨b', off', rfl, _, hc'⟩ := (h'.below hb (Nat.le_refl _)).cells k hkl
      have i3 : (k : Int) < (n : Int) := by omega
      generalize L[k] = x at hc hc'
      go_wp2
      go_quiet (fail)
      go_wp2
      go_roundw
      case rel => exact ⟨k + 1, by omega, by go_num, hb.trans ((below_drewM wr _).mono hb.size)⟩
      case measure => simp [intOf]; omega
    · go_wp2
      go_ret
      exact ⟨rfl, hb⟩

set_option maxRecDepth 100000 in
set_option maxHeartbeats 1600000 in
theorem eqNode_same (x : Nd) (an an' : Option Addr) (nn cn cn' : Nat) (ak ak' : Option Addr) (nk ck ck' : Nat) (w : World)
    (h1 : Strs w an nn cn x.names) (h1' : Strs w an' nn cn' x.names) (h2 : Ints w ak nk ck x.kids) (h2' : Ints w ak' nk ck' x.kids) :
    Calls Tryz.prog 63 #[.agg #[.int .i64 x.op, .int .i64 x.num, .string x.text, .slice an nn cn, .slice ak nk ck], .agg #[.int .i64 x.op, .int .i64 x.num, .string x.text, .slice an' nn cn', .slice ak' nk ck']] w fun e w' => e = .returned (.bool true) ∧ Below w.heap.size w w' := by
  have B0 := ((Below.refl w.heap.size w).alloc (Nat.le_refl _) (.cells #[.int .i64 x.op, .int .i64 x.num, .string x.text, .slice an nn cn, .slice ak nk ck] 103)).alloc (by simp) (.cells #[.int .i64 x.op, .int .i64 x.num, .string x.text, .slice an' nn cn', .slice ak' nk ck'] 103)
  have R0 := (Row.new w #[.int .i64 x.op, .int .i64 x.num, .string x.text, .slice an nn cn, .slice ak nk ck] 103).alloc (.cells #[.int .i64 x.op, .int .i64 x.num, .string x.text, .slice an' nn cn', .slice ak' nk ck'] 103)
  have R1 := Row.new (w.alloc (.cells #[.int .i64 x.op, .int .i64 x.num, .string x.text, .slice an nn cn, .slice ak nk ck] 103)) #[.int .i64 x.op, .int .i64 x.num, .string x.text, .slice an' nn cn', .slice ak' nk ck'] 103
  simp only [World.size_alloc] at R1
  go_enter Tryz.func63, Tryz.ntmps63
  go_wp2_with fail
  refine (eqStringS_same _ _ _ _ _ _ _ (h1.below B0 (Nat.le_refl _)) (h1'.below B0 (Nat.le_refl _))).mono ?_
  rintro e w1 ⟨rfl, hb1⟩
  have B1 := B0.trans (hb1.mono (by simp; omega))
  have q0 := (R0.after hb1 (Nat.le_refl _)).cell 4
  have q1 := (R1.after hb1 (Nat.le_refl _)).cell 4
  have z1 := hb1.size
  simp at q0 q1 z1
  clear R0 R1 B0 hb1
  go_wp2_with fail
  refine (eqIntS_same _ _ _ _ _ _ _ (h2.below B1 (Nat.le_refl _)) (h2'.below B1 (Nat.le_refl _))).mono ?_
  rintro e w2 ⟨rfl, hb2⟩
  go_wp2_with fail
  go_ret
  exact ⟨rfl, B1.trans (hb2.mono (by omega))⟩

set_option maxRecDepth 100000 in
set_option maxHeartbeats 1600000 in
theorem eqNodeS_same (a a' : Option Addr) (n c c' : Nat) (N : List Nd) (w : World) (h : Nds w a n c N) (h' : Nds w a' n c' N) :
    Calls Tryz.prog 29 #[.slice a n c, .slice a' n c'] w fun e w' => e = .returned (.bool true) ∧ Below w.heap.size w w' := by
  have hn := h.small
  have Hl := hide h.len
  go_enter Tryz.func29, Tryz.ntmps29
  go_wp2_with fail
  go_loopw [5] (fun i wr => ∃ k : Nat, k ≤ n ∧ i = .int .i64 k ∧ Below w.heap.size w wr) (fun i _ => n - (intOf i).toNat)
  case atStart => exact ⟨0, Nat.zero_le _, rfl, Below.refl _ _⟩
  case round =>
    obtain ⟨k, hk, rfl, hb⟩ := hrel
    by_cases hlt : k < n
    · have hkl : k < N.length := by rw [unhide Hl]; exact hlt
      obtain ⟨b, off, rfl, hbl, an, nn, cn, ak, nk, ck, c0, c1, c2, c3, c4, hN, hK⟩ := (h.below hb (Nat.le_refl _)).cells k hkl
      obtain ⟨b', off', rfl, hbl', an', nn', cn', ak', nk', ck', d0, d1, d2, d3, d4, hN', hK'⟩ := (h'.below hb (Nat.le_refl _)).cells k hkl
      have i3 : (k : Int) < (n : Int) := by omega
      generalize N[k] = x at c0 c1 c2 c3 c4 hN hK d0 d1 d2 d3 d4 hN' hK'
      obtain rfl : nn = nn' := by rw [hN.len, hN'.len]
      obtain rfl : nk = nk' := by rw [← hK.len, ← hK'.len]
      have Hlt := hide hlt
      clear hlt h h'
      go_wp2_with fail
      have D1 : Below wr.heap.size wr wr.drew := (Below.refl _ _).drew
      have q1 : wr.drew.cell? ⟨b, off + k * 5, none⟩ = some (.int .i64 x.op) ∧ wr.drew.cell? ⟨b, off + k * 5 + 1, none⟩ = some (.int .i64 x.num) ∧ wr.drew.cell? ⟨b, off + k * 5 + 2, none⟩ = some (.string x.text) ∧ wr.drew.cell? ⟨b, off + k * 5 + 3, none⟩ = some (.slice an nn cn) ∧ wr.drew.cell? ⟨b, off + k * 5 + 4, none⟩ = some (.slice ak nk ck) ∧ wr.drew.cell? ⟨b', off' + k * 5, none⟩ = some (.int .i64 x.op) ∧ wr.drew.cell? ⟨b', off' + k * 5 + 1, none⟩ = some (.int .i64 x.num) ∧ wr.drew.cell? ⟨b', off' + k * 5 + 2, none⟩ = some (.string x.text) ∧ wr.drew.cell? ⟨b', off' + k * 5 + 3, none⟩ = some (.slice an' nn cn') ∧ wr.drew.cell? ⟨b', off' + k * 5 + 4, none⟩ = some (.slice ak' nk ck') := ⟨c0, c1, c2, c3, c4, d0, d1, d2, d3, d4⟩
      go_region_held3 (fun w' => w'.cell? ⟨b, off + k * 5, none⟩ = some (.int .i64 x.op) ∧ w'.cell? ⟨b, off + k * 5 + 1, none⟩ = some (.int .i64 x.num) ∧ w'.cell? ⟨b, off + k * 5 + 2, none⟩ = some (.string x.text) ∧ w'.cell? ⟨b, off + k * 5 + 3, none⟩ = some (.slice an nn cn) ∧ w'.cell? ⟨b, off + k * 5 + 4, none⟩ = some (.slice ak nk ck) ∧ w'.cell? ⟨b', off' + k * 5, none⟩ = some (.int .i64 x.op) ∧ w'.cell? ⟨b', off' + k * 5 + 1, none⟩ = some (.int .i64 x.num) ∧ w'.cell? ⟨b', off' + k * 5 + 2, none⟩ = some (.string x.text) ∧ w'.cell? ⟨b', off' + k * 5 + 3, none⟩ = some (.slice an' nn cn') ∧ w'.cell? ⟨b', off' + k * 5 + 4, none⟩ = some (.slice ak' nk ck')) (first | assumption | go_keep)
        (first
          | (go_at_call 63; refine (eqNode_same x _ _ _ _ _ _ _ _ _ _ _ (hN.below D1 (Nat.le_refl _)) (hN'.below D1 (Nat.le_refl _)) (hK.below D1 (Nat.le_refl _)) (hK'.below D1 (Nat.le_refl _))).mono ?_; rintro e w2 ⟨rfl, hb2⟩; have E2 := D1.trans (hb2.mono D1.size); obtain ⟨ec, _⟩ := bcell E2; have q2 : w2.cell? ⟨b, off + k * 5, none⟩ = some (.int .i64 x.op) ∧ w2.cell? ⟨b, off + k * 5 + 1, none⟩ = some (.int .i64 x.num) ∧ w2.cell? ⟨b, off + k * 5 + 2, none⟩ = some (.string x.text) ∧ w2.cell? ⟨b, off + k * 5 + 3, none⟩ = some (.slice an nn cn) ∧ w2.cell? ⟨b, off + k * 5 + 4, none⟩ = some (.slice ak nk ck) ∧ w2.cell? ⟨b', off' + k * 5, none⟩ = some (.int .i64 x.op) ∧ w2.cell? ⟨b', off' + k * 5 + 1, none⟩ = some (.int .i64 x.num) ∧ w2.cell? ⟨b', off' + k * 5 + 2, none⟩ = some (.string x.text) ∧ w2.cell? ⟨b', off' + k * 5 + 3, none⟩ = some (.slice an' nn cn') ∧ w2.cell? ⟨b', off' + k * 5 + 4, none⟩ = some (.slice ak' nk ck') := ⟨(ec _ _ hbl).trans c0, (ec _ _ hbl).trans c1, (ec _ _ hbl).trans c2, (ec _ _ hbl).trans c3, (ec _ _ hbl).trans c4, (ec _ _ hbl').trans d0, (ec _ _ hbl').trans d1, (ec _ _ hbl').trans d2, (ec _ _ hbl').trans d3, (ec _ _ hbl').trans d4⟩))
      go_wp2_with fail
      go_roundw
      case rel => exact ⟨k + 1, unhide Hlt, by go_num, hb.trans (E2.mono hb.size)⟩
      case measure => have := unhide Hlt; simp [intOf]; omega
    · have i3 : ¬ ((k : Int) < (n : Int)) := by omega
      go_wp2_with fail
      go_ret
      exact ⟨rfl, hb⟩

set_option maxHeartbeats 800000 in
theorem eqStmt_same (s : St) (w : World) :
    Calls Tryz.prog 64 #[.agg #[.int .i64 s.kind, .string s.name, .int .i64 s.cond, .int .i64 s.grant], .agg #[.int .i64 s.kind, .string s.name, .int .i64 s.cond, .int .i64 s.grant]] w fun e w' => e = .returned (.bool true) ∧ Below w.heap.size w w' := by
  go_enter Tryz.func64, Tryz.ntmps64
  go_wp2
  go_ret
  exact ⟨rfl, ((Below.refl w.heap.size w).alloc (Nat.le_refl _) _).alloc (by simp) _⟩

set_option maxRecDepth 100000 in
set_option maxHeartbeats 1600000 in
theorem eqStmtS_same (a a' : Option Addr) (n c c' : Nat) (N : List St) (w : World) (h : Sts w a n c N) (h' : Sts w a' n c' N) :
    Calls Tryz.prog 30 #[.slice a n c, .slice a' n c'] w fun e w' => e = .returned (.bool true) ∧ Below w.heap.size w w' := by
  have hn := h.small
  have Hl := hide h.len
  go_enter Tryz.func30, Tryz.ntmps30
  go_wp2_with fail
  go_loopw [5] (fun i wr => ∃ k : Nat, k ≤ n ∧ i = .int .i64 k ∧ Below w.heap.size w wr) (fun i _ => n - (intOf i).toNat)
  case atStart => exact ⟨0, Nat.zero_le _, rfl, Below.refl _ _⟩
  case round =>
    obtain ⟨k, hk, rfl, hb⟩ := hrel
    by_cases hlt : k < n
    · have hkl : k < N.length := by rw [unhide Hl]; exact hlt
      obtain ⟨b, off, rfl, hbl, c0, c1, c2, c3⟩ := (h.below hb (Nat.le_refl _)).cells k hkl
      obtain ⟨b', off', rfl, hbl', d0, d1, d2, d3⟩ := (h'.below hb (Nat.le_refl _)).cells k hkl
      have i3 : (k : Int) < (n : Int) := by omega
      generalize N[k] = x at c0 c1 c2 c3 d0 d1 d2 d3
      have Hlt := hide hlt
      clear hlt h h'
      go_wp2_with fail
      have D1 : Below wr.heap.size wr wr.drew := (Below.refl _ _).drew
      have q1 : wr.drew.cell? ⟨b, off + k * 4, none⟩ = some (.int .i64 x.kind) ∧ wr.drew.cell? ⟨b, off + k * 4 + 1, none⟩ = some (.string x.name) ∧ wr.drew.cell? ⟨b, off + k * 4 + 2, none⟩ = some (.int .i64 x.cond) ∧ wr.drew.cell? ⟨b, off + k * 4 + 3, none⟩ = some (.int .i64 x.grant) ∧ wr.drew.cell? ⟨b', off' + k * 4, none⟩ = some (.int .i64 x.kind) ∧ wr.drew.cell? ⟨b', off' + k * 4 + 1, none⟩ = some (.string x.name) ∧ wr.drew.cell? ⟨b', off' + k * 4 + 2, none⟩ = some (.int .i64 x.cond) ∧ wr.drew.cell? ⟨b', off' + k * 4 + 3, none⟩ = some (.int .i64 x.grant) := ⟨c0, c1, c2, c3, d0, d1, d2, d3⟩
      go_region_held3 (fun w' => w'.cell? ⟨b, off + k * 4, none⟩ = some (.int .i64 x.kind) ∧ w'.cell? ⟨b, off + k * 4 + 1, none⟩ = some (.string x.name) ∧ w'.cell? ⟨b, off + k * 4 + 2, none⟩ = some (.int .i64 x.cond) ∧ w'.cell? ⟨b, off + k * 4 + 3, none⟩ = some (.int .i64 x.grant) ∧ w'.cell? ⟨b', off' + k * 4, none⟩ = some (.int .i64 x.kind) ∧ w'.cell? ⟨b', off' + k * 4 + 1, none⟩ = some (.string x.name) ∧ w'.cell? ⟨b', off' + k * 4 + 2, none⟩ = some (.int .i64 x.cond) ∧ w'.cell? ⟨b', off' + k * 4 + 3, none⟩ = some (.int .i64 x.grant)) (first | assumption | go_keep)
        (first
          | (go_at_call 64; refine (eqStmt_same x _).mono ?_; rintro e w2 ⟨rfl, hb2⟩; have E2 := D1.trans (hb2.mono D1.size); obtain ⟨ec, _⟩ := bcell E2; have q2 : w2.cell? ⟨b, off + k * 4, none⟩ = some (.int .i64 x.kind) ∧ w2.cell? ⟨b, off + k * 4 + 1, none⟩ = some (.string x.name) ∧ w2.cell? ⟨b, off + k * 4 + 2, none⟩ = some (.int .i64 x.cond) ∧ w2.cell? ⟨b, off + k * 4 + 3, none⟩ = some (.int .i64 x.grant) ∧ w2.cell? ⟨b', off' + k * 4, none⟩ = some (.int .i64 x.kind) ∧ w2.cell? ⟨b', off' + k * 4 + 1, none⟩ = some (.string x.name) ∧ w2.cell? ⟨b', off' + k * 4 + 2, none⟩ = some (.int .i64 x.cond) ∧ w2.cell? ⟨b', off' + k * 4 + 3, none⟩ = some (.int .i64 x.grant) := ⟨(ec _ _ hbl).trans c0, (ec _ _ hbl).trans c1, (ec _ _ hbl).trans c2, (ec _ _ hbl).trans c3, (ec _ _ hbl').trans d0, (ec _ _ hbl').trans d1, (ec _ _ hbl').trans d2, (ec _ _ hbl').trans d3⟩))
      go_wp2_with fail
      go_roundw
      case rel => exact ⟨k + 1, unhide Hlt, by go_num, hb.trans (E2.mono hb.size)⟩
      case measure => have := unhide Hlt; simp [intOf]; omega
    · have i3 : ¬ ((k : Int) < (n : Int)) := by omega
      go_wp2_with fail
      go_ret
      exact ⟨rfl, hb⟩

end Go.Proofs.YtpbopjgmiaoomaaGreatDoor

namespace Go.Proofs.YtpbopjgmiaoomaaGreatDoor
open Go.RowKit
set_option linter.unusedVariables false

set_option maxHeartbeats 1600000 in
theorem eqTyped_same (a a' b b' f f' : Option Addr) (n c c' m d d' p g g' : Nat) (N : List Nd) (L : List St) (T : List Int) (w : World) (h1 : Nds w a n c N) (h1' : Nds w a' n c' N) (h2 : Sts w b m d L) (h2' : Sts w b' m d' L) (h3 : Ints w f p g T) (h3' : Ints w f' p g' T) :
    Calls Tryz.prog 9 #[.agg #[.slice a n c, .slice b m d, .slice f p g], .agg #[.slice a' n c', .slice b' m d', .slice f' p g']] w fun e w' => e = .returned (.bool true) ∧ Below w.heap.size w w' := by
  have B0 := ((Below.refl w.heap.size w).alloc (Nat.le_refl _) (.cells #[.slice a n c, .slice b m d, .slice f p g] 36)).alloc (by simp) (.cells #[.slice a' n c', .slice b' m d', .slice f' p g'] 36)
  have R0 := (Row.new w #[.slice a n c, .slice b m d, .slice f p g] 36).alloc (.cells #[.slice a' n c', .slice b' m d', .slice f' p g'] 36)
  have R1 := Row.new (w.alloc (.cells #[.slice a n c, .slice b m d, .slice f p g] 36)) #[.slice a' n c', .slice b' m d', .slice f' p g'] 36
  simp only [World.size_alloc] at R1
  go_enter Tryz.func9, Tryz.ntmps9
  go_wp2_with fail
  refine (eqNodeS_same _ _ _ _ _ _ _ (h1.below B0 (Nat.le_refl _)) (h1'.below B0 (Nat.le_refl _))).mono ?_
  rintro e w1 ⟨rfl, hb1⟩
  have B1 := B0.trans (hb1.mono (by simp; omega))
  have A1 := R0.after hb1 (Nat.le_refl _)
  have A2 := R1.after hb1 (Nat.le_refl _)
  obtain ⟨q0, q1, q2⟩ := rowT3 A1
  obtain ⟨s0, s1, s2⟩ := rowT3 A2
  have z1 := hb1.size
  simp at z1
  clear R0 R1 B0 hb1
  try dsimp only
  go_wp2_with fail
  refine (eqStmtS_same _ _ _ _ _ _ _ (h2.below B1 (Nat.le_refl _)) (h2'.below B1 (Nat.le_refl _))).mono ?_
  rintro e w2 ⟨rfl, hb2⟩
  have B2 := B1.trans (hb2.mono (by omega))
  obtain ⟨t0, t1, t2⟩ := rowT3 (A1.after hb2 (Nat.le_refl _))
  obtain ⟨u0, u1, u2⟩ := rowT3 (A2.after hb2 (Nat.le_refl _))
  try dsimp only
  go_wp2_with fail
  refine (eqIntS_same _ _ _ _ _ _ _ (h3.below B2 (Nat.le_refl _)) (h3'.below B2 (Nat.le_refl _))).mono ?_
  rintro e w3 ⟨rfl, hb3⟩
  go_wp2_with fail
  go_ret
  exact ⟨rfl, B2.trans (hb3.mono (by have := hb2.size; omega))⟩

end Go.Proofs.YtpbopjgmiaoomaaGreatDoor

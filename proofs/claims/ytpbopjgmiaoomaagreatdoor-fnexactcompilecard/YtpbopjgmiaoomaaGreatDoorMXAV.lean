/-
  CON, COP, COQ, COR, COS, COT, COU. Own work.
-/
import Derived.Test.YtpbopjgmiaoomaaGreatDoorMXAU
namespace Go.Proofs.YtpbopjgmiaoomaaGreatDoor
open Go.RowKit
set_option linter.unusedVariables false

set_option maxRecDepth 100000 in
set_option maxHeartbeats 3200000 in
theorem expC (w0 : World) (cb mb : Nat) (S : TypeId) (xv : Value) (n1 : S ≠ 153) (n2 : S ≠ 154) (n3 : S ≠ 156) (n4 : S ≠ 158) (n5 : S ≠ 161) (v : Vl) (hcv : ∀ w, Below w0.heap.size w0 w → Calls Tryz.prog 88 #[.iface S xv] w (VaA v w)) (hv : okW v) (hvB : valB v = true) (s : Cs) (w : World) (h : Cst w0 cb mb s w) (hn : s.ins.length ≤ 1048576) (hp : s.pool.length ≤ 1048576) :
    Calls Tryz.prog 57 #[.pointer (some ⟨cb, 0, none⟩), .iface S xv] w fun r w' => r = .returned (.tuple #[]) ∧ Cst w0 cb mb (constP v s) w' ∧ Kf w w' := by
  have m1 := ta_miss (S := S) Tryz.underlying153 Tryz.zeroValue153 n1 75
  have m2 := ta_miss (S := S) Tryz.underlying154 Tryz.zeroValue154 n2 75
  have m3 := ta_miss (S := S) Tryz.underlying156 Tryz.zeroValue156 n3 75
  have m4 := ta_miss (S := S) Tryz.underlying158 Tryz.zeroValue158 n4 75
  have m5 := ta_miss (S := S) Tryz.underlying161 Tryz.zeroValue161 n5 75
  have HH := hide (And.intro h (And.intro hv (And.intro hvB (And.intro hn hp))))
  have HCV := hide hcv
  clear h hv hvB hn hp hcv n1 n2 n3 n4 n5
  go_enter Tryz.func57, Tryz.ntmps57
  go_wp2_with fail
  refine ((unhide HCV) w (unhide HH).1.2).mono ?_
  rintro r w1 ⟨⟨x, cx, rfl, N1⟩, b1⟩
  have HP := hide (placeS w0 cb mb s v x cx w w1 (unhide HH).1 b1 N1 (unhide HH).2.1 (unhide HH).2.2.1 (unhide HH).2.2.2.2)
  have hn := (unhide HH).2.2.2.1
  have HN := hide hn
  have F1 := hide (Kf.of_below b1)
  clear N1 b1 HCV hn HH
  dsimp only
  go_wp2_with fail
  refine (unhide HP).mono ?_
  rintro r w2 ⟨rfl, C2, k2⟩
  have F2 := hide ((unhide F1).trans k2)
  clear k2 F1
  have HW := hide (writeS w0 cb mb ⟨poolW s.pool v, s.slots, s.ins⟩ 1 (placeV s.pool v) w2 C2 (unhide HN))
  clear C2 HP
  dsimp only
  go_wp2_with fail
  refine (unhide HW).mono ?_
  rintro r w3 ⟨rfl, C3, k3⟩
  have F3 := hide ((unhide F2).trans k3)
  clear k3 F2
  have H3 := hide C3
  clear C3 HW
  dsimp only
  go_wp2_with fail
  go_end0
  refine ⟨rfl, ?_, unhide F3⟩
  rw [constP, putI, if_pos rfl]
  exact unhide H3

set_option maxRecDepth 100000 in
set_option maxHeartbeats 3200000 in
theorem exp_attr (w0 : World) (cb mb : Nat) (i n : Int) (s : Cs) (w : World) (h : Cst w0 cb mb s w) (hn : s.ins.length ≤ 1048576) :
    Calls Tryz.prog 57 #[.pointer (some ⟨cb, 0, none⟩), (Ex.attr i n).val] w fun r w' => r = .returned (.tuple #[]) ∧ Cst w0 cb mb (cpE (.attr i n) s) w' ∧ Kf w w' := by
  rw [Ex.val]
  have h1 := ta_hit (T := 153) Tryz.underlying153 75
  have HH := hide (And.intro h hn)
  clear h hn
  go_enter Tryz.func57, Tryz.ntmps57
  go_wp2_with fail
  refine (writeS w0 cb mb s 2 n _ ((unhide HH).1.below ((Below.refl w.heap.size w).alloc (Nat.le_refl _) _)) (unhide HH).2).mono ?_
  rintro r w3 ⟨rfl, C3, k3⟩
  have F3 := hide ((Kf.of_below ((Below.refl w.heap.size w).alloc (Nat.le_refl _) _)).trans k3)
  clear k3
  have H3 := hide C3
  clear C3 HH
  dsimp only
  go_wp2_with fail
  go_end0
  refine ⟨rfl, ?_, unhide F3⟩
  rw [cpE, putI, if_neg (by simp)]
  exact unhide H3

set_option maxRecDepth 100000 in
set_option maxHeartbeats 3200000 in
theorem exp_let (w0 : World) (cb mb : Nat) (i n : Int) (s : Cs) (w : World) (h : Cst w0 cb mb s w) (hn : s.ins.length ≤ 1048576) :
    Calls Tryz.prog 57 #[.pointer (some ⟨cb, 0, none⟩), (Ex.lett i n).val] w fun r w' => r = .returned (.tuple #[]) ∧ Cst w0 cb mb (cpE (.lett i n) s) w' ∧ Kf w w' := by
  rw [Ex.val]
  have h1 := ta_hit (T := 154) Tryz.underlying154 75
  have m0 := ta_miss (S := 154) Tryz.underlying153 Tryz.zeroValue153 (by decide) 75
  have HH := hide (And.intro h hn)
  clear h hn
  go_enter Tryz.func57, Tryz.ntmps57
  go_wp2_with fail
  refine (writeS w0 cb mb s 3 n _ ((unhide HH).1.below ((Below.refl w.heap.size w).alloc (Nat.le_refl _) _)) (unhide HH).2).mono ?_
  rintro r w3 ⟨rfl, C3, k3⟩
  have F3 := hide ((Kf.of_below ((Below.refl w.heap.size w).alloc (Nat.le_refl _) _)).trans k3)
  clear k3
  have H3 := hide C3
  clear C3 HH
  dsimp only
  go_wp2_with fail
  go_end0
  refine ⟨rfl, ?_, unhide F3⟩
  rw [cpE, putI, if_neg (by simp)]
  exact unhide H3

end Go.Proofs.YtpbopjgmiaoomaaGreatDoor

namespace Go.Proofs.YtpbopjgmiaoomaaGreatDoor
open Go.RowKit
set_option linter.unusedVariables false

/-- a step of the compiler adds no more than N, and takes nothing away -/
def GrN (f : Cs → Cs) (N : Nat) : Prop := ∀ s, s.ins.length ≤ (f s).ins.length ∧ (f s).ins.length ≤ s.ins.length + N ∧ (f s).pool.length ≤ s.pool.length + N

/-- what is said of an expression's compilation -/
def ExC (w0 : World) (cb mb : Nat) (x : Value) (f : Cs → Cs) (N : Nat) : Prop := ∀ s w, Cst w0 cb mb s w → s.ins.length + N ≤ 1048576 → s.pool.length + N ≤ 1048576 → Calls Tryz.prog 57 #[.pointer (some ⟨cb, 0, none⟩), x] w fun r w' => r = .returned (.tuple #[]) ∧ Cst w0 cb mb (f s) w' ∧ Kf w w'

set_option maxRecDepth 100000 in
set_option maxHeartbeats 3200000 in
theorem choice_any (w0 : World) (cb mb : Nat) (xc xt xe : Value) (fc ft fe : Cs → Cs) (Nc Nt Ne : Nat) (hc : ExC w0 cb mb xc fc Nc) (ht : ExC w0 cb mb xt ft Nt) (he : ExC w0 cb mb xe fe Ne) (gc : GrN fc Nc) (gt : GrN ft Nt) (ge : GrN fe Ne) (s : Cs) (w : World) (h : Cst w0 cb mb s w) (hn : s.ins.length + (Nc + Nt + Ne + 2) ≤ 1048576) (hp : s.pool.length + (Nc + Nt + Ne + 2) ≤ 1048576) :
    Calls Tryz.prog 86 #[.pointer (some ⟨cb, 0, none⟩), xc, xt, xe] w fun r w' => r = .returned (.tuple #[]) ∧ Cst w0 cb mb (choiceP fc ft fe s) w' ∧ Kf w w' := by
  have H1 := hide (hc s w h (by omega) (by omega))
  have l1 := gc s
  have p2 : ∀ (t : Cs) (o : Int), o ≠ 1 → putI t ⟨o, 0, zeroV⟩ = ⟨t.pool, t.slots, t.ins ++ [⟨o, 0⟩]⟩ := fun t o ho => by rw [putI, if_neg ho]
  have l3 := gt (putI (fc s) ⟨23, 0, zeroV⟩)
  rw [p2 _ 23 (by decide)] at l3
  simp only [List.length_append, List.length_singleton] at l3
  have H2 := hide (fun w h => writeS w0 cb mb (fc s) 23 0 w h (by omega))
  have H3 := hide (fun w h => ht ⟨(fc s).pool, (fc s).slots, (fc s).ins ++ [⟨23, 0⟩]⟩ w h (by simp only [List.length_append, List.length_singleton]; omega) (by show (fc s).pool.length + Nt ≤ _; omega))
  generalize e3 : ft ⟨(fc s).pool, (fc s).slots, (fc s).ins ++ [⟨23, 0⟩]⟩ = s3 at H3 l3
  have H4 := hide (fun w h => writeS w0 cb mb s3 22 0 w h (by omega))
  have H5 := hide (fun w h => leadS w0 cb mb ⟨s3.pool, s3.slots, s3.ins ++ [⟨22, 0⟩]⟩ (fc s).ins.length (by simp only [List.length_append, List.length_singleton]; omega) w h (by simp only [List.length_append, List.length_singleton]; omega))
  generalize e5 : (⟨s3.pool, s3.slots, (s3.ins ++ [(⟨22, 0⟩ : Is1)]).modify (fc s).ins.length fun i => ⟨i.op, ((s3.ins ++ [(⟨22, 0⟩ : Is1)]).length : Nat)⟩⟩ : Cs) = s5 at H5
  have l5 : s5.ins.length = s3.ins.length + 1 := by rw [← e5]; simp
  have q5 : s5.pool.length = s3.pool.length := by rw [← e5]
  have H6 := hide (fun w h => he s5 w h (by omega) (by omega))
  have l6 := ge s5
  have H7 := hide (fun w h => leadS w0 cb mb (fe s5) s3.ins.length (by omega) w h (by omega))
  have HE := hide (show choiceP fc ft fe s = ⟨(fe s5).pool, (fe s5).slots, (fe s5).ins.modify s3.ins.length fun i => ⟨i.op, (fe s5).ins.length⟩⟩ by
    unfold choiceP patchI
    simp only [p2 _ 23 (by decide), p2 _ 22 (by decide)]
    rw [e3, e5])
  rw [unhide HE]
  have E5 := hide e5
  clear l1 l3 l5 q5 l6 p2 e3 e5 hc ht he gc gt ge hn hp h HE
  go_enter Tryz.func86, Tryz.ntmps86
  go_wp2_with fail
  refine (unhide H1).mono ?_
  rintro r w1 ⟨rfl, C1, k1⟩
  have F1 := hide (k1)
  clear k1
  have K2 := hide ((unhide H2) w1 C1)
  clear C1 H1 H2
  dsimp only
  go_wp2_with fail
  refine (unhide K2).mono ?_
  rintro r w2 ⟨rfl, C2, k2⟩
  have F2 := hide ((unhide F1).trans k2)
  clear k2 F1
  have K3 := hide ((unhide H3) w2 C2)
  clear C2 K2 H3
  dsimp only
  go_wp2_with fail
  refine (unhide K3).mono ?_
  rintro r w3 ⟨rfl, C3, k3⟩
  have F3 := hide ((unhide F2).trans k3)
  clear k3 F2
  have K4 := hide ((unhide H4) w3 C3)
  clear C3 K3 H4
  dsimp only
  go_wp2_with fail
  refine (unhide K4).mono ?_
  rintro r w4 ⟨rfl, C4, k4⟩
  have F4 := hide ((unhide F3).trans k4)
  clear k4 F3
  have K5 := hide ((unhide H5) w4 C4)
  clear C4 K4 H5
  dsimp only
  go_wp2_with fail
  refine (unhide K5).mono ?_
  rintro r w5 ⟨rfl, C5, k5⟩
  have F5 := hide ((unhide F4).trans k5)
  clear k5 F4
  have K6 := hide ((unhide H6) w5 (by first | exact C5 | (have q := unhide E5; rw [← q]; exact C5)))
  clear C5 K5 H6
  dsimp only
  go_wp2_with fail
  refine (unhide K6).mono ?_
  rintro r w6 ⟨rfl, C6, k6⟩
  have F6 := hide ((unhide F5).trans k6)
  clear k6 F5
  have K7 := hide ((unhide H7) w6 C6)
  clear C6 K6 H7
  dsimp only
  go_wp2_with fail
  refine (unhide K7).mono ?_
  rintro r w7 ⟨rfl, C7, k7⟩
  have F7 := hide ((unhide F6).trans k7)
  clear k7 F6
  have K8 := hide C7
  clear C7 K7
  dsimp only
  go_wp2_with fail
  go_end0
  exact ⟨rfl, unhide K8, unhide F7⟩

end Go.Proofs.YtpbopjgmiaoomaaGreatDoor

namespace Go.Proofs.YtpbopjgmiaoomaaGreatDoor
open Go.RowKit
set_option linter.unusedVariables false

set_option maxRecDepth 100000 in
set_option maxHeartbeats 3200000 in
theorem exp_un (w0 : World) (cb mb : Nat) (i op : Int) (k : Ex) (f : Cs → Cs) (N : Nat) (hk : ExC w0 cb mb k.val f N) (gk : GrN f N) (hop : 4 < op ∧ op ≤ 100) (s : Cs) (w : World) (h : Cst w0 cb mb s w) (hn : s.ins.length + (N + 1) ≤ 1048576) (hp : s.pool.length + (N + 1) ≤ 1048576) :
    Calls Tryz.prog 57 #[.pointer (some ⟨cb, 0, none⟩), (Ex.un i op k).val] w fun r w' => r = .returned (.tuple #[]) ∧ Cst w0 cb mb (putI (f s) ⟨op - 3, 0, zeroV⟩) w' ∧ Kf w w' := by
  rw [Ex.val]
  obtain ⟨t1, u1, hf⟩ := Ex.form k
  rw [hf] at hk ⊢
  have h1 := ta_hit (T := 156) Tryz.underlying156 75
  have m1 := ta_miss (S := 156) Tryz.underlying153 Tryz.zeroValue153 (by decide) 75
  have m2 := ta_miss (S := 156) Tryz.underlying154 Tryz.zeroValue154 (by decide) 75
  have RU := Row.new w #[.int .i64 i, .int .i64 op, .iface t1 u1] 156
  have l1 := gk s
  have H1 := hide (hk s (w.alloc (.cells #[.int .i64 i, .int .i64 op, .iface t1 u1] 156)) (h.below ((Below.refl w.heap.size w).alloc (Nat.le_refl _) _)) (by omega) (by omega))
  have H2 := hide (fun w h => writeS w0 cb mb (f s) (op - 3) 0 w h (by omega))
  clear h hn hp hk gk l1 hf
  go_enter Tryz.func57, Tryz.ntmps57
  go_wp2_with fail
  refine (unhide H1).mono ?_
  rintro r w1 ⟨rfl, C1, k1⟩
  have R1 := k1 _ _ _ RU (by decide) (by decide) (by decide)
  have c1 := R1.cell 1
  have F1 := hide ((Kf.of_below ((Below.refl w.heap.size w).alloc (Nat.le_refl _) _)).trans k1)
  have K2 := hide ((unhide H2) w1 C1)
  have hop1 := hop.1
  have hop2 := hop.2
  have HO := hide hop
  clear C1 H1 H2 k1 R1 RU hop
  dsimp only
  go_wp2_with fail
  try rw [show (op - 3).bmod 18446744073709551616 = op - 3 by rw [Int.bmod_eq_of_le] <;> omega]
  refine (unhide K2).mono ?_
  rintro r w2 ⟨rfl, C2, k2⟩
  have F2 := hide (And.intro ((unhide F1).trans k2) C2)
  clear k2 C2 K2 F1
  dsimp only
  go_wp2_with fail
  go_end0
  refine ⟨rfl, ?_, (unhide F2).1⟩
  rw [putI, if_neg (by have := unhide HO; show ¬ op - 3 = 1; omega)]
  exact (unhide F2).2

end Go.Proofs.YtpbopjgmiaoomaaGreatDoor

namespace Go.Proofs.YtpbopjgmiaoomaaGreatDoor
open Go.RowKit
set_option linter.unusedVariables false

set_option maxRecDepth 100000 in
set_option maxHeartbeats 3200000 in
theorem exp_ite (w0 : World) (cb mb : Nat) (i : Int) (c t e : Ex) (fc ft fe : Cs → Cs) (Nc Nt Ne : Nat) (hc : ExC w0 cb mb c.val fc Nc) (ht : ExC w0 cb mb t.val ft Nt) (he : ExC w0 cb mb e.val fe Ne) (gc : GrN fc Nc) (gt : GrN ft Nt) (ge : GrN fe Ne) (s : Cs) (w : World) (h : Cst w0 cb mb s w) (hn : s.ins.length + (Nc + Nt + Ne + 2) ≤ 1048576) (hp : s.pool.length + (Nc + Nt + Ne + 2) ≤ 1048576) :
    Calls Tryz.prog 57 #[.pointer (some ⟨cb, 0, none⟩), (Ex.ite i c t e).val] w fun r w' => r = .returned (.tuple #[]) ∧ Cst w0 cb mb (choiceP fc ft fe s) w' ∧ Kf w w' := by
  rw [Ex.val]
  obtain ⟨t1, u1, hf1⟩ := Ex.form c
  obtain ⟨t2, u2, hf2⟩ := Ex.form t
  obtain ⟨t3, u3, hf3⟩ := Ex.form e
  rw [hf1] at hc ⊢
  rw [hf2] at ht ⊢
  rw [hf3] at he ⊢
  have h1 := ta_hit (T := 161) Tryz.underlying161 75
  have m1 := ta_miss (S := 161) Tryz.underlying153 Tryz.zeroValue153 (by decide) 75
  have m2 := ta_miss (S := 161) Tryz.underlying154 Tryz.zeroValue154 (by decide) 75
  have m3 := ta_miss (S := 161) Tryz.underlying156 Tryz.zeroValue156 (by decide) 75
  have m4 := ta_miss (S := 161) Tryz.underlying158 Tryz.zeroValue158 (by decide) 75
  have H1 := hide (fun W hW => choice_any w0 cb mb _ _ _ fc ft fe Nc Nt Ne hc ht he gc gt ge s W hW hn hp)
  have HH := hide h
  clear h hn hp hc ht he gc gt ge hf1 hf2 hf3
  go_enter Tryz.func57, Tryz.ntmps57
  go_wp2_with fail
  refine ((unhide H1) _ ((unhide HH).below ((Below.refl w.heap.size w).alloc (Nat.le_refl _) _))).mono ?_
  rintro r w1 ⟨rfl, C1, k1⟩
  have F1 := hide (And.intro ((Kf.of_below ((Below.refl w.heap.size w).alloc (Nat.le_refl _) _)).trans k1) C1)
  clear k1 C1 H1 HH
  dsimp only
  go_wp2_with fail
  go_end0
  exact ⟨rfl, (unhide F1).2, (unhide F1).1⟩

end Go.Proofs.YtpbopjgmiaoomaaGreatDoor

namespace Go.Proofs.YtpbopjgmiaoomaaGreatDoor
open Go.RowKit
set_option linter.unusedVariables false

set_option maxRecDepth 100000 in
set_option maxHeartbeats 3200000 in
theorem exp_bin (w0 : World) (cb mb : Nat) (i op : Int) (t1 t2 : TypeId) (u1 u2 : Value) (f : Cs → Cs) (s : Cs) (HB : ∀ W, Cst w0 cb mb s W → Calls Tryz.prog 85 #[.pointer (some ⟨cb, 0, none⟩), .agg #[.int .i64 i, .int .i64 op, .iface t1 u1, .iface t2 u2]] W fun r w' => r = .returned (.tuple #[]) ∧ Cst w0 cb mb (f s) w' ∧ Kf W w') (w : World) (h : Cst w0 cb mb s w) :
    Calls Tryz.prog 57 #[.pointer (some ⟨cb, 0, none⟩), .iface 158 (.agg #[.int .i64 i, .int .i64 op, .iface t1 u1, .iface t2 u2])] w fun r w' => r = .returned (.tuple #[]) ∧ Cst w0 cb mb (f s) w' ∧ Kf w w' := by
  have h1 := ta_hit (T := 158) Tryz.underlying158 75
  have m1 := ta_miss (S := 158) Tryz.underlying153 Tryz.zeroValue153 (by decide) 75
  have m2 := ta_miss (S := 158) Tryz.underlying154 Tryz.zeroValue154 (by decide) 75
  have m3 := ta_miss (S := 158) Tryz.underlying156 Tryz.zeroValue156 (by decide) 75
  have H1 := hide HB
  have HH := hide h
  clear h HB
  go_enter Tryz.func57, Tryz.ntmps57
  go_wp2_with fail
  refine ((unhide H1) _ ((unhide HH).below ((Below.refl w.heap.size w).alloc (Nat.le_refl _) _))).mono ?_
  rintro r w1 ⟨rfl, C1, k1⟩
  have F1 := hide (And.intro ((Kf.of_below ((Below.refl w.heap.size w).alloc (Nat.le_refl _) _)).trans k1) C1)
  clear k1 C1 H1 HH
  dsimp only
  go_wp2_with fail
  go_end0
  exact ⟨rfl, (unhide F1).2, (unhide F1).1⟩

end Go.Proofs.YtpbopjgmiaoomaaGreatDoor

namespace Go.Proofs.YtpbopjgmiaoomaaGreatDoor
open Go.RowKit
set_option linter.unusedVariables false

theorem poolW_len (P : List Vl) (v : Vl) : (poolW P v).length ≤ P.length + 1 := by
  unfold poolW; split
  · omega
  · simp

theorem putI_grow (s : Cs) (i : I5) : (putI s i).pool.length ≤ s.pool.length + 1 := by
  unfold putI; split
  · exact poolW_len _ _
  · show s.pool.length ≤ _; omega

theorem GrN.put (i : I5) : GrN (fun s => putI s i) 1 := fun s => ⟨by rw [putI_len]; omega, by rw [putI_len]; omega, putI_grow s i⟩

theorem GrN.const (v : Vl) : GrN (constP v) 1 := GrN.put _

theorem GrN.comp {f g : Cs → Cs} {n m : Nat} (hf : GrN f n) (hg : GrN g m) : GrN (fun s => g (f s)) (n + m) := fun s => by
  have a := hf s
  have b := hg (f s)
  dsimp only
  omega

theorem GrN.choice {fc ft fe : Cs → Cs} {n m k : Nat} (hc : GrN fc n) (ht : GrN ft m) (he : GrN fe k) : GrN (choiceP fc ft fe) (n + m + k + 2) := fun s => by
  unfold choiceP
  dsimp only
  have a := hc s
  have b := GrN.put ⟨23, 0, zeroV⟩ (fc s)
  have c := ht (putI (fc s) ⟨23, 0, zeroV⟩)
  have d := GrN.put ⟨22, 0, zeroV⟩ (ft (putI (fc s) ⟨23, 0, zeroV⟩))
  simp only at b d
  generalize e4 : putI (ft (putI (fc s) ⟨23, 0, zeroV⟩)) ⟨22, 0, zeroV⟩ = s4 at d ⊢
  have e := he (patchI s4 (fc s).ins.length s4.ins.length)
  have p1 : ∀ (t : Cs) (j : Nat) (x : Int), (patchI t j x).ins.length = t.ins.length := fun t j x => by simp [patchI]
  have p2 : ∀ (t : Cs) (j : Nat) (x : Int), (patchI t j x).pool.length = t.pool.length := fun t j x => rfl
  simp only [p1, p2] at e ⊢
  omega

/-- how many instructions a tree has, and values at most -/
theorem cpE_grow : ∀ e : Ex, GrN (cpE e) (sizeI e)
  | .int .. => GrN.const _
  | .text .. => GrN.const _
  | .bool .. => GrN.const _
  | .set .. => GrN.const _
  | .name .. => GrN.const _
  | .attr _ n => GrN.put ⟨2, n, zeroV⟩
  | .lett _ n => GrN.put ⟨3, n, zeroV⟩
  | .un _ op k => by
    have := (cpE_grow k).comp (GrN.put ⟨op - 3, 0, zeroV⟩)
    rw [sizeI, Nat.add_comm]
    exact this
  | .bin _ op l r => by
    rw [sizeI]
    by_cases h1 : op = 25
    · rw [if_pos (.inl h1)]
      have := (cpE_grow l).choice (cpE_grow r) (GrN.const ⟨1, 0, ⟨#[]⟩, []⟩)
      intro s
      have := this s
      rw [cpE, if_pos h1]
      omega
    by_cases h2 : op = 26
    · rw [if_pos (.inr h2)]
      have := (cpE_grow l).choice (GrN.const ⟨1, 1, ⟨#[]⟩, []⟩) (cpE_grow r)
      intro s
      have := this s
      rw [cpE, if_neg h1, if_pos h2]
      omega
    rw [if_neg (by omega)]
    have := ((cpE_grow l).comp (cpE_grow r)).comp (GrN.put ⟨op - 3, 0, zeroV⟩)
    intro s
    have := this s
    dsimp only at this
    rw [cpE, if_neg h1, if_neg h2]
    omega
  | .ite _ c t e => by
    rw [sizeI]
    have := (cpE_grow c).choice (cpE_grow t) (cpE_grow e)
    intro s
    have := this s
    rw [cpE]
    omega

theorem okW_bool (n : Int) (h : n = 0 ∨ n = 1) : okW ⟨1, n, ⟨#[]⟩, []⟩ := .inl ⟨rfl, h, rfl, rfl⟩

/-- true and false, as the compiler writes them itself -/
theorem exp_bool (w0 : World) (cb mb : Nat) (b : Bool) : ExC w0 cb mb (.iface 185 (.agg #[.int .i64 0, .bool b])) (constP ⟨1, if b then 1 else 0, ⟨#[]⟩, []⟩) 1 := fun s w h hn hp => by
  refine expC w0 cb mb 185 (.agg #[.int .i64 0, .bool b]) (by decide) (by decide) (by decide) (by decide) (by decide) _ (fun W _ => const_bool 0 b W) ?_ ?_ s w h (by omega) (by omega)
  · exact okW_bool _ (by cases b <;> simp)
  · cases b <;> rfl

set_option maxRecDepth 100000 in
set_option maxHeartbeats 3200000 in
theorem bin_and (w0 : World) (cb mb : Nat) (i : Int) (t1 t2 : TypeId) (u1 u2 : Value) (fl fr : Cs → Cs) (Nl Nr : Nat) (hl : ExC w0 cb mb (.iface t1 u1) fl Nl) (hr : ExC w0 cb mb (.iface t2 u2) fr Nr) (gl : GrN fl Nl) (gr : GrN fr Nr) (s : Cs) (w : World) (h : Cst w0 cb mb s w) (hn : s.ins.length + (Nl + Nr + 1 + 2) ≤ 1048576) (hp : s.pool.length + (Nl + Nr + 1 + 2) ≤ 1048576) :
    Calls Tryz.prog 85 #[.pointer (some ⟨cb, 0, none⟩), .agg #[.int .i64 i, .int .i64 25, .iface t1 u1, .iface t2 u2]] w fun r w' => r = .returned (.tuple #[]) ∧ Cst w0 cb mb (choiceP fl fr (constP ⟨1, 0, ⟨#[]⟩, []⟩) s) w' ∧ Kf w w' := by
  have H1 := hide (fun W hW => choice_any w0 cb mb (.iface t1 u1) (.iface t2 u2) (.iface 185 (.agg #[.int .i64 0, .bool false])) fl fr (constP ⟨1, 0, ⟨#[]⟩, []⟩) Nl Nr 1 hl hr (exp_bool w0 cb mb false) gl gr (GrN.const _) s W hW hn hp)
  have HH := hide h
  clear h hn hp hl hr gl gr
  go_enter Tryz.func85, Tryz.ntmps85
  go_wp2_with fail
  have B1 := ((Below.refl w.heap.size w).alloc (Nat.le_refl _) (.cells #[.int .i64 i, .int .i64 25, .iface t1 u1, .iface t2 u2] 158))
  refine ((unhide H1) _ ((unhide HH).below B1)).mono ?_
  rintro r w1 ⟨rfl, C1, k1⟩
  have F1 := hide (And.intro ((Kf.of_below B1).trans k1) C1)
  clear k1 C1 H1 HH
  dsimp only
  go_wp2_with fail
  go_end0
  exact ⟨rfl, (unhide F1).2, (unhide F1).1⟩

set_option maxRecDepth 100000 in
set_option maxHeartbeats 3200000 in
theorem bin_or (w0 : World) (cb mb : Nat) (i : Int) (t1 t2 : TypeId) (u1 u2 : Value) (fl fr : Cs → Cs) (Nl Nr : Nat) (hl : ExC w0 cb mb (.iface t1 u1) fl Nl) (hr : ExC w0 cb mb (.iface t2 u2) fr Nr) (gl : GrN fl Nl) (gr : GrN fr Nr) (s : Cs) (w : World) (h : Cst w0 cb mb s w) (hn : s.ins.length + (Nl + Nr + 1 + 2) ≤ 1048576) (hp : s.pool.length + (Nl + Nr + 1 + 2) ≤ 1048576) :
    Calls Tryz.prog 85 #[.pointer (some ⟨cb, 0, none⟩), .agg #[.int .i64 i, .int .i64 26, .iface t1 u1, .iface t2 u2]] w fun r w' => r = .returned (.tuple #[]) ∧ Cst w0 cb mb (choiceP fl (constP ⟨1, 1, ⟨#[]⟩, []⟩) fr s) w' ∧ Kf w w' := by
  have H1 := hide (fun W hW => choice_any w0 cb mb (.iface t1 u1) (.iface 185 (.agg #[.int .i64 0, .bool true])) (.iface t2 u2) fl (constP ⟨1, 1, ⟨#[]⟩, []⟩) fr Nl 1 Nr hl (exp_bool w0 cb mb true) hr gl (GrN.const _) gr s W hW (by omega) (by omega))
  have HH := hide h
  clear h hn hp hl hr gl gr
  go_enter Tryz.func85, Tryz.ntmps85
  go_wp2_with fail
  have B1 := ((Below.refl w.heap.size w).alloc (Nat.le_refl _) (.cells #[.int .i64 i, .int .i64 26, .iface t1 u1, .iface t2 u2] 158))
  refine ((unhide H1) _ ((unhide HH).below B1)).mono ?_
  rintro r w1 ⟨rfl, C1, k1⟩
  have F1 := hide (And.intro ((Kf.of_below B1).trans k1) C1)
  clear k1 C1 H1 HH
  dsimp only
  go_wp2_with fail
  go_end0
  exact ⟨rfl, (unhide F1).2, (unhide F1).1⟩

set_option maxRecDepth 100000 in
set_option maxHeartbeats 3200000 in
theorem bin_op (w0 : World) (cb mb : Nat) (i op : Int) (t1 t2 : TypeId) (u1 u2 : Value) (fl fr : Cs → Cs) (Nl Nr : Nat) (hl : ExC w0 cb mb (.iface t1 u1) fl Nl) (hr : ExC w0 cb mb (.iface t2 u2) fr Nr) (gl : GrN fl Nl) (gr : GrN fr Nr) (hop : 4 < op ∧ op ≤ 100) (n1 : ¬ op = 25) (n2 : ¬ op = 26) (s : Cs) (w : World) (h : Cst w0 cb mb s w) (hn : s.ins.length + (1 + Nl + Nr) ≤ 1048576) (hp : s.pool.length + (1 + Nl + Nr) ≤ 1048576) :
    Calls Tryz.prog 85 #[.pointer (some ⟨cb, 0, none⟩), .agg #[.int .i64 i, .int .i64 op, .iface t1 u1, .iface t2 u2]] w fun r w' => r = .returned (.tuple #[]) ∧ Cst w0 cb mb (putI (fr (fl s)) ⟨op - 3, 0, zeroV⟩) w' ∧ Kf w w' := by
  have RU := Row.new w #[.int .i64 i, .int .i64 op, .iface t1 u1, .iface t2 u2] 158
  have l1 := gl s
  have l2 := gr (fl s)
  have H1 := hide (hl s (w.alloc (.cells #[.int .i64 i, .int .i64 op, .iface t1 u1, .iface t2 u2] 158)) (h.below ((Below.refl w.heap.size w).alloc (Nat.le_refl _) _)) (by omega) (by omega))
  have H2 := hide (fun w h => hr (fl s) w h (by omega) (by omega))
  have H3 := hide (fun w h => writeS w0 cb mb (fr (fl s)) (op - 3) 0 w h (by omega))
  have e1 : (op == 25) = false := beq_eq_false_iff_ne.2 n1
  have e2 : (op == 26) = false := beq_eq_false_iff_ne.2 n2
  have HO := hide hop
  clear h hn hp hl hr gl gr l1 l2 n1 n2 hop
  go_enter Tryz.func85, Tryz.ntmps85
  go_wp2_with fail
  refine (unhide H1).mono ?_
  rintro r w1 ⟨rfl, C1, k1⟩
  have R1 := k1 _ _ _ RU (by decide) (by decide) (by decide)
  have c1 := R1.cell 3
  have F1 := hide ((Kf.of_below ((Below.refl w.heap.size w).alloc (Nat.le_refl _) (.cells #[.int .i64 i, .int .i64 op, .iface t1 u1, .iface t2 u2] 158))).trans k1)
  have K2 := hide ((unhide H2) w1 C1)
  clear C1 H1 H2 k1 RU
  dsimp only
  go_wp2_with fail
  refine (unhide K2).mono ?_
  rintro r w2 ⟨rfl, C2, k2⟩
  have R2 := k2 _ _ _ R1 (by decide) (by decide) (by decide)
  have c2 := R2.cell 1
  have F2 := hide ((unhide F1).trans k2)
  have K3 := hide ((unhide H3) w2 C2)
  have hop1 := (unhide HO).1
  have hop2 := (unhide HO).2
  clear C2 H3 K2 k2 F1 R1 R2 c1
  dsimp only
  go_wp2_with fail
  try rw [show (op - 3).bmod 18446744073709551616 = op - 3 by rw [Int.bmod_eq_of_le] <;> omega]
  refine (unhide K3).mono ?_
  rintro r w3 ⟨rfl, C3, k3⟩
  have F3 := hide (And.intro ((unhide F2).trans k3) C3)
  clear k3 C3 K3 F2
  dsimp only
  go_wp2_with fail
  go_end0
  refine ⟨rfl, ?_, (unhide F3).1⟩
  rw [putI, if_neg (by have := unhide HO; show ¬ op - 3 = 1; omega)]
  exact (unhide F3).2

end Go.Proofs.YtpbopjgmiaoomaaGreatDoor

namespace Go.Proofs.YtpbopjgmiaoomaaGreatDoor
open Go.RowKit
set_option linter.unusedVariables false

/-- what a tree is like that is compiled -/
def Ex.cok (w0 : World) : Ex → Prop
  | .name .. => False
  | .attr .. => True
  | .lett .. => True
  | .un _ op k => (4 < op ∧ op ≤ 100) ∧ k.cok w0
  | .bin _ op l r => (4 < op ∧ op ≤ 100) ∧ l.cok w0 ∧ r.cok w0
  | .ite _ c t e => c.cok w0 ∧ t.cok w0 ∧ e.cok w0
  | .int i n => okW (exV (.int i n)) ∧ valB (exV (.int i n)) = true
  | .text i s => okW (exV (.text i s)) ∧ valB (exV (.text i s)) = true
  | .bool _ _ => True
  | .set i a n c ss => (okW (exV (.set i a n c ss)) ∧ valB (exV (.set i a n c ss)) = true) ∧ Strs w0 a n c ss ∧ ss.length ≤ 1048576

theorem exp_bin_any (w0 : World) (cb mb : Nat) (i op : Int) (l r : Ex) (hop : 4 < op ∧ op ≤ 100) (hl : ExC w0 cb mb l.val (cpE l) (sizeI l)) (hr : ExC w0 cb mb r.val (cpE r) (sizeI r)) : ExC w0 cb mb (Ex.bin i op l r).val (cpE (.bin i op l r)) (sizeI (.bin i op l r)) := fun s w h hn hp => by
  rw [Ex.val]
  obtain ⟨t1, u1, hf1⟩ := Ex.form l
  obtain ⟨t2, u2, hf2⟩ := Ex.form r
  rw [hf1] at hl ⊢
  rw [hf2] at hr ⊢
  refine exp_bin w0 cb mb i op t1 t2 u1 u2 _ s (fun W hW => ?_) w h
  rw [sizeI] at hn hp
  by_cases h1 : op = 25
  · subst h1
    rw [cpE, if_pos rfl]
    rw [if_pos (.inl rfl)] at hn hp
    exact bin_and w0 cb mb i t1 t2 u1 u2 _ _ _ _ hl hr (cpE_grow l) (cpE_grow r) s W hW (by omega) (by omega)
  by_cases h2 : op = 26
  · subst h2
    rw [cpE, if_neg (by decide), if_pos rfl]
    rw [if_pos (.inr rfl)] at hn hp
    exact bin_or w0 cb mb i t1 t2 u1 u2 _ _ _ _ hl hr (cpE_grow l) (cpE_grow r) s W hW (by omega) (by omega)
  rw [cpE, if_neg h1, if_neg h2]
  rw [if_neg (by omega)] at hn hp
  exact bin_op w0 cb mb i op t1 t2 u1 u2 _ _ _ _ hl hr (cpE_grow l) (cpE_grow r) hop h1 h2 s W hW (by omega) (by omega)

theorem expression_any (w0 : World) (cb mb : Nat) : ∀ e : Ex, e.cok w0 → ExC w0 cb mb e.val (cpE e) (sizeI e)
  | .int i n, h => fun s w hC hn hp => expC w0 cb mb 181 _ (by decide) (by decide) (by decide) (by decide) (by decide) (exV (.int i n)) (fun W _ => const_int i n W) h.1 h.2 s w hC (Nat.le_of_succ_le hn) (Nat.le_of_succ_le hp)
  | .text i n, h => fun s w hC hn hp => expC w0 cb mb 183 _ (by decide) (by decide) (by decide) (by decide) (by decide) (exV (.text i n)) (fun W _ => const_text i n W) h.1 h.2 s w hC (Nat.le_of_succ_le hn) (Nat.le_of_succ_le hp)
  | .bool i b, h => fun s w hC hn hp => expC w0 cb mb 185 _ (by decide) (by decide) (by decide) (by decide) (by decide) (exV (.bool i b)) (fun W _ => const_bool i b W) (okW_bool _ (by cases b <;> simp)) (by cases b <;> rfl) s w hC (Nat.le_of_succ_le hn) (Nat.le_of_succ_le hp)
  | .set i a n c ss, h => fun s w hC hn hp => expC w0 cb mb 187 _ (by decide) (by decide) (by decide) (by decide) (by decide) (exV (.set i a n c ss)) (fun W hW => const_set i a n c ss W (h.2.1.below hW (Nat.le_refl _)) h.2.2) h.1.1 h.1.2 s w hC (Nat.le_of_succ_le hn) (Nat.le_of_succ_le hp)
  | .name .., h => h.elim
  | .attr i n, _ => fun s w hC hn hp => exp_attr w0 cb mb i n s w hC (Nat.le_of_succ_le hn)
  | .lett i n, _ => fun s w hC hn hp => exp_let w0 cb mb i n s w hC (Nat.le_of_succ_le hn)
  | .un i op k, h => fun s w hC hn hp => exp_un w0 cb mb i op k (cpE k) (sizeI k) (expression_any w0 cb mb k h.2) (cpE_grow k) h.1 s w hC (by rw [sizeI] at hn; omega) (by rw [sizeI] at hp; omega)
  | .bin i op l r, h => exp_bin_any w0 cb mb i op l r h.1 (expression_any w0 cb mb l h.2.1) (expression_any w0 cb mb r h.2.2)
  | .ite i c t e, h => fun s w hC hn hp => exp_ite w0 cb mb i c t e _ _ _ _ _ _ (expression_any w0 cb mb c h.1) (expression_any w0 cb mb t h.2.1) (expression_any w0 cb mb e h.2.2) (cpE_grow c) (cpE_grow t) (cpE_grow e) s w hC (by rw [sizeI] at hn; omega) (by rw [sizeI] at hp; omega)

end Go.Proofs.YtpbopjgmiaoomaaGreatDoor

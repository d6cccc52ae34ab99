/-
  The program's verifier: what instructions take. Own work.
-/
import Derived.Test.YteefbljehlepjaaDoorYC
namespace Go.Proofs.YteefbljehlepjaaDoor
open Go.RowKit
set_option linter.unusedVariables false

theorem takesV_op {i : Is1} {s : Vs} (h0 : 5 ≤ i.op) (h1 : i.op ≤ 21) : takesV i s = (resV i.op s.stack).isSome := by
  unfold takesV
  rw [if_neg (by omega), if_neg (by omega), if_neg (by omega), if_neg (by omega)]

theorem errV_nil (b : Bool) (aT : Addr) : b = true ∧ errV b aT = .nilIface ∨ b = false ∧ errV b aT = .iface 111 (.pointer (some aT)) := by
  cases b
  · exact .inr ⟨rfl, rfl⟩
  · exact .inl ⟨rfl, rfl⟩

set_option maxRecDepth 100000 in
set_option maxHeartbeats 6400000 in
theorem takes_any (i : Is1) (q : Nat) (s : Vs) (aT : Addr) (w : World) (h : StAt w q s) (hv : Vok w aT) (h0 : 1 ≤ i.op) (h1 : i.op ≤ 25) (hp : popV i.op ≤ s.stack.length) (ha : i.op = 4 → 0 ≤ i.arg ∧ i.arg < s.slots.length) :
    Calls Tryd.prog 36 #[.agg #[.int .i64 i.op, .int .i64 i.arg], .pointer (some ⟨q, 0, none⟩)] w fun e w' => e = .returned (.bool (takesV i s)) ∧ Below w.heap.size w w' := by
  obtain ⟨op, arg⟩ := i
  simp only at h0 h1 hp ha
  have B0 := (Below.refl w.heap.size w).alloc (Nat.le_refl _) (.cells #[.int .i64 op, .int .i64 arg] 64)
  have S0 := h.below B0 (Nat.le_refl _)
  have V0 := hv.below B0 (Nat.le_refl _)
  have R0 := Row.new w #[.int .i64 op, .int .i64 arg] 64
  obtain ⟨r0, r1⟩ := rowS R0
  by_cases hop : 5 ≤ op ∧ op ≤ 21
  · have HX := hide (takesV_op (i := ⟨op, arg⟩) (s := s) hop.1 hop.2)
    have HR := hide (resultType_any op q s aT _ S0 V0 hop.1 hop.2 hp)
    simp only at HX
    generalize resV op s.stack = ro at HX HR
    have e1 : (op == 1) = false := beq_eq_false_iff_ne.2 (by omega)
    have e2 : (op == 2) = false := beq_eq_false_iff_ne.2 (by omega)
    have e3 : (op == 3) = false := beq_eq_false_iff_ne.2 (by omega)
    have e4 : (op == 4) = false := beq_eq_false_iff_ne.2 (by omega)
    have e22 : (op == 22) = false := beq_eq_false_iff_ne.2 (by omega)
    have e23 : (op == 23) = false := beq_eq_false_iff_ne.2 (by omega)
    have e24 : (op == 24) = false := beq_eq_false_iff_ne.2 (by omega)
    have e25 : (op == 25) = false := beq_eq_false_iff_ne.2 (by omega)
    clear h hv S0 V0 ha hp
    go_enter Tryd.func36, Tryd.ntmps36
    go_wp2_with fail
    refine (unhide HR).mono ?_
    rintro e w2 ⟨he, hb2⟩
    unfold OtAns at he
    obtain rfl := he
    rcases errV_nil ro.isSome aT with ⟨hb, hv⟩ | ⟨hb, hv⟩
    all_goals
      rw [hv]
      have HY := hide ((unhide HX).trans hb)
      clear hv hb
      go_wp2_with fail
      go_ret
      rw [unhide HY]
      exact ⟨rfl, B0.trans (hb2.mono B0.size)⟩
  by_cases hj : op = 1 ∨ op = 2 ∨ op = 3 ∨ op = 22 ∨ op = 24
  · have HX := hide (show takesV ⟨op, arg⟩ s = true by unfold takesV; rw [if_pos hj])
    clear h hv S0 V0 ha hp hop
    rcases hj with rfl | rfl | rfl | rfl | rfl
    all_goals
      go_enter Tryd.func36, Tryd.ntmps36
      go_wp2_with fail
      go_ret
      rw [unhide HX]
      exact ⟨rfl, B0⟩
  have HT := hide (fun W (hW : StAt W q s) => top_any q s W hW)
  by_cases h23 : op = 23
  · subst h23
    have HX := hide (show takesV ⟨23, arg⟩ s = decide (topV s.stack = 1) from rfl)
    generalize topV s.stack = tp at HT HX
    clear hv V0 ha hp hop hj
    go_enter Tryd.func36, Tryd.ntmps36
    go_wp2_with (go_at_call 49; refine (unhide HT _ S0).mono ?_; rintro e w2 ⟨rfl, hb2⟩)
    go_ret
    rw [unhide HX]
    refine ⟨?_, B0.trans (hb2.mono B0.size)⟩
    first | rfl | (congr 2; by_cases e : tp = 1 <;> simp [e])
  by_cases h25 : op = 25
  · subst h25
    have HX := hide (show takesV ⟨25, arg⟩ s = decide (topV s.stack = 4) from rfl)
    generalize topV s.stack = tp at HT HX
    clear hv V0 ha hp hop hj h23
    go_enter Tryd.func36, Tryd.ntmps36
    go_wp2_with (go_at_call 49; refine (unhide HT _ S0).mono ?_; rintro e w2 ⟨rfl, hb2⟩)
    go_ret
    rw [unhide HX]
    refine ⟨?_, B0.trans (hb2.mono B0.size)⟩
    first | rfl | (congr 2; by_cases e : tp = 4 <;> simp [e])
  have h4 : op = 4 := by omega
  subst h4
  have HX := hide (show takesV ⟨4, arg⟩ s = decide (atV s.slots arg = 0 ∨ atV s.slots arg = topV s.stack) from rfl)
  obtain ⟨ha0, ha1⟩ := ha rfl
  obtain ⟨k, rfl⟩ := Int.eq_ofNat_of_zero_le ha0
  obtain ⟨a, n, c, b, m, d, R, i1, i2, l1, l2, l3, l4⟩ := id S0
  have hm := i2.len
  have hsm := i2.small
  have hkm : k < m := by omega
  obtain ⟨g, off, hb', hgl, hc⟩ := i2.at k hkm
  subst hb'
  have HX2 := hide (show takesV ⟨4, (k : Int)⟩ s = decide (s.slots.getD k 0 = 0 ∨ s.slots.getD k 0 = topV s.stack) from rfl)
  generalize s.slots.getD k 0 = sv at hc HX2
  generalize topV s.stack = tp at HT HX2
  obtain ⟨q0, q1⟩ := rowS R
  have ikm : (k : Int) < (m : Int) := by omega
  clear hv V0 ha hp hop hj h23 h25 HX i1 i2 ha0 ha1 hm
  by_cases hs0 : sv = 0
  · subst hs0
    have HY := hide (show takesV ⟨4, (k : Int)⟩ s = true by rw [unhide HX2]; simp)
    clear HX2
    go_enter Tryd.func36, Tryd.ntmps36
    go_wp2_with fail
    go_region
    all_goals
      go_wp2_with fail
      go_ret
      rw [unhide HY]
      exact ⟨rfl, B0.drew⟩
  · have hs1 : (sv == 0) = false := beq_eq_false_iff_ne.2 hs0
    have HY := hide (show takesV ⟨4, (k : Int)⟩ s = decide (sv = tp) by rw [unhide HX2]; simp [hs0])
    clear HX2 hs0
    go_enter Tryd.func36, Tryd.ntmps36
    go_wp2_with fail
    go_region
    all_goals
      have D0 := (Below.refl (w.alloc (.cells #[.int .i64 4, .int .i64 k] 64)).heap.size (w.alloc (.cells #[.int .i64 4, .int .i64 k] 64))).drew
      go_wp2_with (go_at_call 49; refine (unhide HT _ (S0.below D0 (Nat.le_refl _))).mono ?_; rintro e w2 ⟨rfl, hb2⟩)
      go_ret
      rw [unhide HY]
      refine ⟨?_, B0.drew.trans (hb2.mono B0.size)⟩
      first | rfl | (congr 2; by_cases e : sv = tp <;> simp [e])

end Go.Proofs.YteefbljehlepjaaDoor

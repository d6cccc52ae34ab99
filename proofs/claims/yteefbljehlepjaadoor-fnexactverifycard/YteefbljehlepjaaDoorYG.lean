/-
  The program's verifier: what instructions push. Own work.
-/
import Derived.Test.YteefbljehlepjaaDoorYF
namespace Go.Proofs.YteefbljehlepjaaDoor
open Go.RowKit Go.Lib
set_option linter.unusedVariables false

theorem Vls.at {w : World} {a : Option Addr} {n c : Nat} {L : List Vl} (h : Vls w a n c L) (j : Nat) (hj : j < n) : ∃ b off, a = some ⟨b, off, none⟩ ∧ b < w.heap.size ∧ w.cell? ⟨b, off + j * 4, none⟩ = some (.int .i64 ((L.map Vl.kind).getD j 0)) := by
  have hjl : j < L.length := by rw [h.len]; exact hj
  obtain ⟨b, off, ha, h1, an, nn, cn, c0, _⟩ := h.cells j hjl
  have e : (L.map Vl.kind).getD j 0 = L[j].kind := by rw [List.getD, List.getElem?_map, List.getElem?_eq_getElem hjl]; rfl
  rw [e]
  exact ⟨b, off, ha, h1, c0⟩

theorem pushV_op {PK : List Int} {i : Is1} {s : Vs} (h0 : 5 ≤ i.op) (h1 : i.op ≤ 21) : pushV PK i s = (resV i.op s.stack).getD 0 := by
  unfold pushV
  rw [if_neg (by omega), if_neg (by omega), if_neg (by omega), if_neg (by omega)]

/-- nothing is wrong with the instruction's Arg -/
def argOk (np S : Nat) (i : Is1) : Prop := 0 ≤ i.arg ∧ (i.op = 1 → i.arg < np) ∧ (i.op = 2 → i.arg < 6) ∧ (i.op = 3 ∨ i.op = 4 → i.arg < S)

set_option maxRecDepth 100000 in
set_option maxHeartbeats 6400000 in
theorem pushed_any (vb : Nat) (a : Option Addr) (n c : Nat) (v1 v2 v3 v4 : Value) (P : List Vl) (i : Is1) (q : Nat) (s : Vs) (aT : Addr) (w : World) (hR : Row w vb #[.slice a n c, v1, v2, v3, v4] 54) (hP : Vls w a n c P) (h : StAt w q s) (hv : Vok w aT) (h0 : 1 ≤ i.op) (h1 : i.op ≤ 25) (hp : popV i.op ≤ s.stack.length) (ha : argOk n s.slots.length i) :
    Calls Tryd.prog 52 #[.pointer (some ⟨vb, 0, none⟩), .agg #[.int .i64 i.op, .int .i64 i.arg], .pointer (some ⟨q, 0, none⟩)] w fun e w' => e = .returned (.int .i64 (pushV (P.map Vl.kind) i s)) ∧ Below w.heap.size w w' := by
  obtain ⟨op, arg⟩ := i
  obtain ⟨hA0, hA1, hA2, hA3⟩ := ha
  simp only at h0 h1 hp hA0 hA1 hA2 hA3
  have B0 := (Below.refl w.heap.size w).alloc (Nat.le_refl _) (.cells #[.int .i64 op, .int .i64 arg] 64)
  have S0 := h.below B0 (Nat.le_refl _)
  have V0 := hv.below B0 (Nat.le_refl _)
  obtain ⟨r0, r1⟩ := rowS (Row.new w #[.int .i64 op, .int .i64 arg] 64)
  obtain ⟨p0, p1, p2, p3, p4⟩ := rowR (hR.alloc (.cells #[.int .i64 op, .int .i64 arg] 64))
  obtain ⟨k, rfl⟩ := Int.eq_ofNat_of_zero_le hA0
  by_cases hop : 5 ≤ op ∧ op ≤ 21
  · have HX := hide (pushV_op (PK := P.map Vl.kind) (i := ⟨op, (k : Int)⟩) (s := s) hop.1 hop.2)
    have HR := hide (resultType_any op q s aT _ S0 V0 hop.1 hop.2 hp)
    simp only at HX
    generalize resV op s.stack = ro at HX HR
    have e1 : (op == 1) = false := beq_eq_false_iff_ne.2 (by omega)
    have e2 : (op == 2) = false := beq_eq_false_iff_ne.2 (by omega)
    have e3 : (op == 3) = false := beq_eq_false_iff_ne.2 (by omega)
    have e4 : (op == 4) = false := beq_eq_false_iff_ne.2 (by omega)
    have e22 : (op == 22) = false := beq_eq_false_iff_ne.2 (by omega)
    have e23 : (op == 23) = false := beq_eq_false_iff_ne.2 (by omega)
    have e24 : (op == 24) = false := beq_eq_false_iff_ne.2 (by omega)
    have e25 : (op == 25) = false := beq_eq_false_iff_ne.2 (by omega)
    clear h hv S0 V0 hA0 hA1 hA2 hA3 hp hP hR
    go_enter Tryd.func52, Tryd.ntmps52
    go_wp2_with fail
    refine (unhide HR).mono ?_
    rintro e w2 ⟨he, hb2⟩
    unfold OtAns at he
    obtain rfl := he
    go_wp2_with fail
    go_ret
    rw [unhide HX]
    exact ⟨rfl, B0.trans (hb2.mono B0.size)⟩
  by_cases hj : op = 4 ∨ op = 22 ∨ op = 23 ∨ op = 24 ∨ op = 25
  · have HX := hide (show pushV (P.map Vl.kind) ⟨op, (k : Int)⟩ s = 0 by
      unfold pushV
      rw [if_neg (by show ¬ op = 1; omega), if_neg (by show ¬ op = 2; omega), if_neg (by show ¬ op = 3; omega), if_pos hj])
    clear h hv S0 V0 hA0 hA1 hA2 hA3 hp hP hR hop
    rcases hj with rfl | rfl | rfl | rfl | rfl
    all_goals
      go_enter Tryd.func52, Tryd.ntmps52
      go_wp2_with fail
      go_ret
      rw [unhide HX]
      exact ⟨rfl, B0⟩
  by_cases o1 : op = 1
  · subst o1
    have hkn : k < n := by have := hA1 rfl; omega
    have HX := hide (show pushV (P.map Vl.kind) ⟨1, (k : Int)⟩ s = (P.map Vl.kind).getD k 0 from rfl)
    obtain ⟨g, off, hb', hgl, hc⟩ := (hP.below B0 (Nat.le_refl _)).at k hkn
    subst hb'
    have hsm := hP.small
    generalize (P.map Vl.kind).getD k 0 = y at HX hc
    have ik : (k : Int) < (n : Int) := by omega
    clear h hv S0 V0 hA0 hA1 hA2 hA3 hp hP hR hop hj
    go_enter Tryd.func52, Tryd.ntmps52
    go_wp2_with fail
    go_region
    all_goals
      go_wp2_with fail
      go_ret
      rw [unhide HX]
      exact ⟨rfl, B0.drew⟩
  by_cases o3 : op = 3
  · subst o3
    have hks : k < s.slots.length := by have := hA3 (.inl rfl); omega
    have HX := hide (show pushV (P.map Vl.kind) ⟨3, (k : Int)⟩ s = s.slots.getD k 0 from rfl)
    obtain ⟨sa, sn, sc, sb, sm, sd, SR, i1, i2, l1, l2, l3, l4⟩ := S0
    have hm := i2.len
    have hsm := i2.small
    obtain ⟨g, off, hb', hgl, hc⟩ := i2.at k (by omega)
    subst hb'
    generalize s.slots.getD k 0 = y at HX hc
    obtain ⟨t0, t1⟩ := rowS SR
    have ik : (k : Int) < (sm : Int) := by omega
    clear h hv V0 hA0 hA1 hA2 hA3 hp hP hR hop hj i1 i2 hm hks
    go_enter Tryd.func52, Tryd.ntmps52
    go_wp2_with fail
    go_region
    all_goals
      go_wp2_with fail
      go_ret
      rw [unhide HX]
      exact ⟨rfl, B0.drew⟩
  have o2 : op = 2 := by omega
  subst o2
  have hk6 : k < 6 := by have := hA2 rfl; omega
  have HX := hide (show pushV (P.map Vl.kind) ⟨2, (k : Int)⟩ s = attrT k from rfl)
  have hac : (w.alloc (.cells #[.int .i64 2, .int .i64 k] 64)).cell? ⟨0, k * 2 + 1, none⟩ = some (.int .i64 (attrT k)) := by
    rw [V0.ac]
    have : k = 0 ∨ k = 1 ∨ k = 2 ∨ k = 3 ∨ k = 4 ∨ k = 5 := by omega
    rcases this with rfl | rfl | rfl | rfl | rfl | rfl <;> rfl
  have ik : (k : Int) < 6 := by omega
  generalize attrT k = y at HX hac
  clear h hv S0 V0 hA0 hA1 hA2 hA3 hp hP hR hop hj o1 o3
  go_enter Tryd.func52, Tryd.ntmps52
  go_wp2_with fail
  go_ret
  rw [unhide HX]
  exact ⟨rfl, B0⟩

end Go.Proofs.YteefbljehlepjaaDoor

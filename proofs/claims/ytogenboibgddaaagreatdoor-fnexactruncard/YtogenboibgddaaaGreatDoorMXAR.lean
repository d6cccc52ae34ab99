/-
  YF, YG. Own work.
-/
import Derived.Test.YtogenboibgddaaaGreatDoorMXAQ
namespace Go.Proofs.YtogenboibgddaaaGreatDoor
open Go.RowKit Go.Lib
set_option linter.unusedVariables false

theorem rowR {w : World} {b : Nat} {v0 v1 v2 v3 v4 : Value} {t : TypeId} (R : Row w b #[v0, v1, v2, v3, v4] t) : w.cell? ⟨b, 0, none⟩ = some v0 ∧ w.cell? ⟨b, 1, none⟩ = some v1 ∧ w.cell? ⟨b, 2, none⟩ = some v2 ∧ w.cell? ⟨b, 3, none⟩ = some v3 ∧ w.cell? ⟨b, 4, none⟩ = some v4 :=
  ⟨by simpa using R.cell 0, by simpa using R.cell 1, by simpa using R.cell 2, by simpa using R.cell 3, by simpa using R.cell 4⟩

theorem Iss.at {w : World} {a : Option Addr} {n c : Nat} {L : List Is1} (h : Iss w a n c L) (j : Nat) (hj : j < n) : ∃ b off, a = some ⟨b, off, none⟩ ∧ b < w.heap.size ∧ w.cell? ⟨b, off + j * 2, none⟩ = some (.int .i64 (L.getD j ⟨0, 0⟩).op) ∧ w.cell? ⟨b, off + j * 2 + 1, none⟩ = some (.int .i64 (L.getD j ⟨0, 0⟩).arg) := by
  have hjl : j < L.length := by rw [h.len]; exact hj
  obtain ⟨b, off, ha, h1, c0, c1⟩ := h.cells j hjl
  have e : L.getD j ⟨0, 0⟩ = L[j] := by rw [List.getD, List.getElem?_eq_getElem hjl]; rfl
  rw [e]
  exact ⟨b, off, ha, h1, c0, c1⟩

set_option maxRecDepth 100000 in
set_option maxHeartbeats 3200000 in
theorem inRange_any (vb : Nat) (a b : Option Addr) (n c m d : Nat) (s : Int) (kv : Value) (bd : Int) (I : List Is1) (k : Nat) (w : World) (hR : Row w vb #[.slice a n c, .int .i64 s, .slice b m d, kv, .int .i64 bd] 101) (hI : Iss w b m d I) (hk : k < m) (hn : n ≤ 1048576) (hs : 0 ≤ s) (hop : 1 ≤ (I.getD k ⟨0, 0⟩).op ∧ (I.getD k ⟨0, 0⟩).op ≤ 25) :
    Calls Tryz.prog 79 #[.pointer (some ⟨vb, 0, none⟩), .int .i64 k] w fun e w' => e = .returned (.bool (rangeV n s.toNat m k (I.getD k ⟨0, 0⟩))) ∧ Below w.heap.size w w' := by
  obtain ⟨g, off, hb, hgl, i0, i1⟩ := hI.at k hk
  subst hb
  have hsm := hI.small
  obtain ⟨q0, q1, q2, q3, q4⟩ := rowR hR
  generalize I.getD k ⟨0, 0⟩ = i at i0 i1 hop
  obtain ⟨op, arg⟩ := i
  simp only at i0 i1 hop
  have ik : (k : Int) < (m : Int) := by omega
  have B0 := (Below.refl w.heap.size w).alloc (Nat.le_refl _) (.cells #[.int .i64 op, .int .i64 arg] 87)
  obtain ⟨S, rfl⟩ := Int.eq_ofNat_of_zero_le hs
  clear hs hI
  rw [Int.toNat_natCast]
  obtain ⟨p0, p1, p2, p3, p4⟩ := rowR (hR.alloc (.cells #[.int .i64 op, .int .i64 arg] 87))
  obtain ⟨r0, r1⟩ := rowS (Row.new w #[.int .i64 op, .int .i64 arg] 87)
  clear hR
  by_cases h1 : op = 1
  · subst h1
    have HX := hide (show rangeV n S m k ⟨1, arg⟩ = decide (arg < n) from rfl)
    go_enter Tryz.func79, Tryz.ntmps79
    go_wp2_with fail
    go_region
    all_goals
      go_wp2_with fail
      go_ret
      rw [unhide HX]
      exact ⟨rfl, B0.drew⟩
  by_cases h2 : op = 2
  · subst h2
    have HX := hide (show rangeV n S m k ⟨2, arg⟩ = decide (arg < 6) from rfl)
    go_enter Tryz.func79, Tryz.ntmps79
    go_wp2_with fail
    go_ret
    rw [unhide HX]
    exact ⟨rfl, B0⟩
  by_cases h3 : op = 3 ∨ op = 4
  · have HX := hide (show rangeV n S m k ⟨op, arg⟩ = decide (arg < S) by unfold rangeV; rw [if_neg h1, if_neg h2, if_pos h3])
    rcases h3 with rfl | rfl
    all_goals
      go_enter Tryz.func79, Tryz.ntmps79
      go_wp2_with fail
      go_region
      all_goals
        go_wp2_with fail
        go_ret
        rw [unhide HX]
        exact ⟨rfl, B0.drew⟩
  by_cases h22 : op = 22 ∨ op = 23
  · have HX := hide (show rangeV n S m k ⟨op, arg⟩ = decide ((k : Int) < arg ∧ arg < m) by unfold rangeV; rw [if_neg h1, if_neg h2, if_neg h3, if_pos h22])
    by_cases hka : (k : Int) < arg
    · have HY := hide (show rangeV n S m k ⟨op, arg⟩ = decide (arg < m) by rw [unhide HX]; simp [hka])
      clear HX h1 h2 h3
      rcases h22 with rfl | rfl
      all_goals
        go_enter Tryz.func79, Tryz.ntmps79
        go_wp2_with fail
        go_region
        all_goals
          go_wp2_with fail
          go_ret
          rw [unhide HY]
          exact ⟨rfl, B0.drew⟩
    · have HY := hide (show rangeV n S m k ⟨op, arg⟩ = false by rw [unhide HX]; simp [hka])
      have hka2 : decide ((k : Int) < arg) = false := decide_eq_false hka
      clear HX h1 h2 h3
      rcases h22 with rfl | rfl
      all_goals
        go_enter Tryz.func79, Tryz.ntmps79
        go_wp2_with fail
        go_region
        all_goals
          go_wp2_with fail
          go_ret
          rw [unhide HY]
          exact ⟨rfl, B0.drew⟩
  · have HX := hide (show rangeV n S m k ⟨op, arg⟩ = true by unfold rangeV; rw [if_neg h1, if_neg h2, if_neg h3, if_neg h22])
    have e1 : (op == 1) = false := beq_eq_false_iff_ne.2 h1
    have e2 : (op == 2) = false := beq_eq_false_iff_ne.2 h2
    have e3 : (op == 3) = false := beq_eq_false_iff_ne.2 (fun e => h3 (.inl e))
    have e4 : (op == 4) = false := beq_eq_false_iff_ne.2 (fun e => h3 (.inr e))
    have e22 : (op == 22) = false := beq_eq_false_iff_ne.2 (fun e => h22 (.inl e))
    have e23 : (op == 23) = false := beq_eq_false_iff_ne.2 (fun e => h22 (.inr e))
    clear h1 h2 h3 h22
    go_enter Tryz.func79, Tryz.ntmps79
    go_wp2_with fail
    go_ret
    rw [unhide HX]
    exact ⟨rfl, B0⟩

end Go.Proofs.YtogenboibgddaaaGreatDoor

namespace Go.Proofs.YtogenboibgddaaaGreatDoor
open Go.RowKit Go.Lib
set_option linter.unusedVariables false

theorem Vls.at {w : World} {a : Option Addr} {n c : Nat} {L : List Vl} (h : Vls w a n c L) (j : Nat) (hj : j < n) : ∃ b off, a = some ⟨b, off, none⟩ ∧ b < w.heap.size ∧ w.cell? ⟨b, off + j * 4, none⟩ = some (.int .i64 ((L.map Vl.kind).getD j 0)) := by
  have hjl : j < L.length := by rw [h.len]; exact hj
  obtain ⟨b, off, ha, h1, an, nn, cn, c0, _⟩ := h.cells j hjl
  have e : (L.map Vl.kind).getD j 0 = L[j].kind := by rw [List.getD, List.getElem?_map, List.getElem?_eq_getElem hjl]; rfl
  rw [e]
  exact ⟨b, off, ha, h1, c0⟩

theorem pushV_op {PK : List Int} {i : Is1} {s : Vs} (h0 : 5 ≤ i.op) (h1 : i.op ≤ 21) : pushV PK i s = (resV i.op s.stack).getD 0 := by
  unfold pushV
  rw [if_neg (by omega), if_neg (by omega), if_neg (by omega), if_neg (by omega)]

/-- nothing is wrong with the instruction's Arg -/
def argOk (np S : Nat) (i : Is1) : Prop := 0 ≤ i.arg ∧ (i.op = 1 → i.arg < np) ∧ (i.op = 2 → i.arg < 6) ∧ (i.op = 3 ∨ i.op = 4 → i.arg < S)

set_option maxRecDepth 100000 in
set_option maxHeartbeats 6400000 in
theorem pushed_any (vb : Nat) (a : Option Addr) (n c : Nat) (v1 v2 v3 v4 : Value) (P : List Vl) (i : Is1) (q : Nat) (s : Vs) (aT : Addr) (w : World) (hR : Row w vb #[.slice a n c, v1, v2, v3, v4] 101) (hP : Vls w a n c P) (h : StAt w q s) (hv : Vok w aT) (h0 : 1 ≤ i.op) (h1 : i.op ≤ 25) (hp : popV i.op ≤ s.stack.length) (ha : argOk n s.slots.length i) :
    Calls Tryz.prog 106 #[.pointer (some ⟨vb, 0, none⟩), .agg #[.int .i64 i.op, .int .i64 i.arg], .pointer (some ⟨q, 0, none⟩)] w fun e w' => e = .returned (.int .i64 (pushV (P.map Vl.kind) i s)) ∧ Below w.heap.size w w' := by
  obtain ⟨op, arg⟩ := i
  obtain ⟨hA0, hA1, hA2, hA3⟩ := ha
  simp only at h0 h1 hp hA0 hA1 hA2 hA3
  have B0 := (Below.refl w.heap.size w).alloc (Nat.le_refl _) (.cells #[.int .i64 op, .int .i64 arg] 87)
  have S0 := h.below B0 (Nat.le_refl _)
  have V0 := hv.below B0 (Nat.le_refl _)
  obtain ⟨r0, r1⟩ := rowS (Row.new w #[.int .i64 op, .int .i64 arg] 87)
  obtain ⟨p0, p1, p2, p3, p4⟩ := rowR (hR.alloc (.cells #[.int .i64 op, .int .i64 arg] 87))
  obtain ⟨k, rfl⟩ := Int.eq_ofNat_of_zero_le hA0
  by_cases hop : 5 ≤ op ∧ op ≤ 21
  · have HX := hide (pushV_op (PK := P.map Vl.kind) (i := ⟨op, (k : Int)⟩) (s := s) hop.1 hop.2)
    have HR := hide (resultType_any op q s aT _ S0 V0 hop.1 hop.2 hp)
    simp only at HX
    generalize resV op s.stack = ro at HX HR
    have e1 : (op == 1) = false := beq_eq_false_iff_ne.2 (by omega)
    have e2 : (op == 2) = false := beq_eq_false_iff_ne.2 (by omega)
    have e3 : (op == 3) = false := beq_eq_false_iff_ne.2 (by omega)
    have e4 : (op == 4) = false := beq_eq_false_iff_ne.2 (by omega)
    have e22 : (op == 22) = false := beq_eq_false_iff_ne.2 (by omega)
    have e23 : (op == 23) = false := beq_eq_false_iff_ne.2 (by omega)
    have e24 : (op == 24) = false := beq_eq_false_iff_ne.2 (by omega)
    have e25 : (op == 25) = false := beq_eq_false_iff_ne.2 (by omega)
    clear h hv S0 V0 hA0 hA1 hA2 hA3 hp hP hR
    go_enter Tryz.func106, Tryz.ntmps106
    go_wp2_with fail
    refine (unhide HR).mono ?_
    rintro e w2 ⟨he, hb2⟩
    unfold OtAns at he
    obtain rfl := he
    go_wp2_with fail
    go_ret
    rw [unhide HX]
    exact ⟨rfl, B0.trans (hb2.mono B0.size)⟩
  by_cases hj : op = 4 ∨ op = 22 ∨ op = 23 ∨ op = 24 ∨ op = 25
  · have HX := hide (show pushV (P.map Vl.kind) ⟨op, (k : Int)⟩ s = 0 by
      unfold pushV
      rw [if_neg (by show ¬ op = 1; omega), if_neg (by show ¬ op = 2; omega), if_neg (by show ¬ op = 3; omega), if_pos hj])
    clear h hv S0 V0 hA0 hA1 hA2 hA3 hp hP hR hop
    rcases hj with rfl | rfl | rfl | rfl | rfl
    all_goals
      go_enter Tryz.func106, Tryz.ntmps106
      go_wp2_with fail
      go_ret
      rw [unhide HX]
      exact ⟨rfl, B0⟩
  by_cases o1 : op = 1
  · subst o1
    have hkn : k < n := by have := hA1 rfl; omega
    have HX := hide (show pushV (P.map Vl.kind) ⟨1, (k : Int)⟩ s = (P.map Vl.kind).getD k 0 from rfl)
    obtain ⟨g, off, hb', hgl, hc⟩ := (hP.below B0 (Nat.le_refl _)).at k hkn
    subst hb'
    have hsm := hP.small
    generalize (P.map Vl.kind).getD k 0 = y at HX hc
    have ik : (k : Int) < (n : Int) := by omega
    clear h hv S0 V0 hA0 hA1 hA2 hA3 hp hP hR hop hj
    go_enter Tryz.func106, Tryz.ntmps106
    go_wp2_with fail
    go_region
    all_goals
      go_wp2_with fail
      go_ret
      rw [unhide HX]
      exact ⟨rfl, B0.drew⟩
  by_cases o3 : op = 3
  · subst o3
    have hks : k < s.slots.length := by have := hA3 (.inl rfl); omega
    have HX := hide (show pushV (P.map Vl.kind) ⟨3, (k : Int)⟩ s = s.slots.getD k 0 from rfl)
    obtain ⟨sa, sn, sc, sb, sm, sd, SR, i1, i2, l1, l2, l3, l4⟩ := S0
    have hm := i2.len
    have hsm := i2.small
    obtain ⟨g, off, hb', hgl, hc⟩ := i2.at k (by omega)
    subst hb'
    generalize s.slots.getD k 0 = y at HX hc
    obtain ⟨t0, t1⟩ := rowS SR
    have ik : (k : Int) < (sm : Int) := by omega
    clear h hv V0 hA0 hA1 hA2 hA3 hp hP hR hop hj i1 i2 hm hks
    go_enter Tryz.func106, Tryz.ntmps106
    go_wp2_with fail
    go_region
    all_goals
      go_wp2_with fail
      go_ret
      rw [unhide HX]
      exact ⟨rfl, B0.drew⟩
  have o2 : op = 2 := by omega
  subst o2
  have hk6 : k < 6 := by have := hA2 rfl; omega
  have HX := hide (show pushV (P.map Vl.kind) ⟨2, (k : Int)⟩ s = attrT k from rfl)
  have hac : (w.alloc (.cells #[.int .i64 2, .int .i64 k] 87)).cell? ⟨3, k * 2 + 1, none⟩ = some (.int .i64 (attrT k)) := by
    rw [V0.ac]
    have : k = 0 ∨ k = 1 ∨ k = 2 ∨ k = 3 ∨ k = 4 ∨ k = 5 := by omega
    rcases this with rfl | rfl | rfl | rfl | rfl | rfl <;> rfl
  have ik : (k : Int) < 6 := by omega
  generalize attrT k = y at HX hac
  clear h hv S0 V0 hA0 hA1 hA2 hA3 hp hP hR hop hj o1 o3
  go_enter Tryz.func106, Tryz.ntmps106
  go_wp2_with fail
  go_ret
  rw [unhide HX]
  exact ⟨rfl, B0⟩

end Go.Proofs.YtogenboibgddaaaGreatDoor

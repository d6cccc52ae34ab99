/-
  Checked arithmetic: the program's own functions. Own work.
-/
import Derived.Test.YtemekdkeggibaaaDoorHid
import Derived.Test.YtemekdkeggibaaaDoorIs
import Derived.Test.YtemekdkeggibaaaDoorCPlain
import Derived.WalkSpells
import Derived.WalkLawsBesides
import Derived.RegionTactic
import Derived.ChangeAlike
import Derived.Deep.QuietTactic
import Derived.BigQuiet
namespace Go.Proofs.YtemekdkeggibaaaDoor
open Go.RowKit

/-- it is an int64 -/
structure I64 (a : Int) : Prop where
  lo : -9223372036854775808 ≤ a
  hi : a ≤ 9223372036854775807

/-- What the program's four sentinels are, in memory. -/
structure Sent (w : World) (aS aO aZ aW : Addr) : Prop where
  g0 : w.cell? ⟨0, 0, none⟩ = some (.iface 66 (.pointer (some aS)))
  g1 : w.cell? ⟨1, 0, none⟩ = some (.iface 66 (.pointer (some aO)))
  g2 : w.cell? ⟨2, 0, none⟩ = some (.iface 66 (.pointer (some aZ)))
  g3 : w.cell? ⟨3, 0, none⟩ = some (.iface 66 (.pointer (some aW)))
  big : 4 ≤ w.heap.size
  rS : ∃ c t, w.heap[aS.block]? = some (.cells c t (0, 0))
  rO : ∃ c t, w.heap[aO.block]? = some (.cells c t (0, 0))
  rZ : ∃ c t, w.heap[aZ.block]? = some (.cells c t (0, 0))
  rW : ∃ c t, w.heap[aW.block]? = some (.cells c t (0, 0))
  nSO : aS ≠ aO
  nSZ : aS ≠ aZ
  nSW : aS ≠ aW
  nOZ : aO ≠ aZ
  nOW : aO ≠ aW
  nZW : aZ ≠ aW

theorem row_below {w w' : World} {B : Nat} {a : Addr} (h : ∃ c t, w.heap[a.block]? = some (.cells c t (0, 0))) (hb : Below B w w') (hB : w.heap.size ≤ B) : ∃ c t, w'.heap[a.block]? = some (.cells c t (0, 0)) := by
  obtain ⟨c, t, h⟩ := h
  have hlt : a.block < w.heap.size := (Array.getElem?_eq_some_iff.1 h).1
  exact ⟨c, t, (hb.block _ (by omega)).trans h⟩

theorem Sent.below {w w' : World} {B : Nat} {aS aO aZ aW : Addr} (h : Sent w aS aO aZ aW) (hb : Below B w w') (hB : w.heap.size ≤ B) : Sent w' aS aO aZ aW where
  g0 := (hb.cell (p := ⟨0, 0, none⟩) (by have := h.big; show 0 < B; omega)).trans h.g0
  g1 := (hb.cell (p := ⟨1, 0, none⟩) (by have := h.big; show 1 < B; omega)).trans h.g1
  g2 := (hb.cell (p := ⟨2, 0, none⟩) (by have := h.big; show 2 < B; omega)).trans h.g2
  g3 := (hb.cell (p := ⟨3, 0, none⟩) (by have := h.big; show 3 < B; omega)).trans h.g3
  big := Nat.le_trans h.big hb.size
  rS := row_below h.rS hb hB
  rO := row_below h.rO hb hB
  rZ := row_below h.rZ hb hB
  rW := row_below h.rW hb hB
  nSO := h.nSO
  nSZ := h.nSZ
  nSW := h.nSW
  nOZ := h.nOZ
  nOW := h.nOW
  nZW := h.nZW

variable {aS aO aZ aW : Addr}

/-- the error of a code -/
def errV (aS aO aZ aW : Addr) (c : Int) : Value := if c = 0 then .nilIface else if c = 1 then .iface 66 (.pointer (some aO)) else if c = 2 then .iface 66 (.pointer (some aZ)) else if c = 3 then .iface 66 (.pointer (some aW)) else .iface 66 (.pointer (some aS))

def fit (v : Int) : Int × Int := if -9223372036854775808 ≤ v ∧ v ≤ 9223372036854775807 then (v, 0) else (0, 1)

theorem fit_yes {v : Int} (h1 : -9223372036854775808 ≤ v) (h2 : v ≤ 9223372036854775807) : fit v = (v, 0) := if_pos ⟨h1, h2⟩
theorem fit_no {v : Int} (h : v < -9223372036854775808 ∨ 9223372036854775807 < v) : fit v = (0, 1) := if_neg (by omega)

/-- number and error -/
def pairV (aS aO aZ aW : Addr) (p : Int × Int) : Value := .tuple #[.int .i64 p.1, errV aS aO aZ aW p.2]

theorem ret_yes {v : Int} {p : Int × Int} (h : p = (v, 0)) : Ending.returned (.tuple #[.int .i64 v, .nilIface]) = .returned (pairV aS aO aZ aW p) := by subst h; rfl
theorem ret_over {p : Int × Int} (h : p = (0, 1)) : Ending.returned (.tuple #[.int .i64 0, .iface 66 (.pointer (some aO))]) = .returned (pairV aS aO aZ aW p) := by subst h; rfl
theorem ret_zero {p : Int × Int} (h : p = (0, 2)) : Ending.returned (.tuple #[.int .i64 0, .iface 66 (.pointer (some aZ))]) = .returned (pairV aS aO aZ aW p) := by subst h; rfl
theorem ret_shape {p : Int × Int} (h : p = (0, 4)) : Ending.returned (.tuple #[.int .i64 0, .iface 66 (.pointer (some aS))]) = .returned (pairV aS aO aZ aW p) := by subst h; rfl

set_option maxHeartbeats 800000 in
theorem add_any (a b : Int) (w : World) (hs : Sent w aS aO aZ aW) (ha : I64 a) (hb : I64 b) :
    Calls Tryd.prog 16 #[.int .i64 a, .int .i64 b] w fun e w' => e = .returned (pairV aS aO aZ aW (fit (a + b))) ∧ Below w.heap.size w w' := by
  obtain ⟨ha1, ha2⟩ := ha
  obtain ⟨hb1, hb2⟩ := hb
  have hg := hs.g1
  by_cases h0 : 0 < b
  · by_cases h1 : 9223372036854775807 - b < a
    · go_enter Tryd.func16, Tryd.ntmps16
      go_wp2
      go_quiet (fail)
      go_wp2
      go_ret2
      exact ⟨ret_over (fit_no (by omega)), below_drewN (Below.refl _ _) _⟩
    · have h1' : a ≤ 9223372036854775807 - b := by omega
      have h2 : ¬ b < 0 := by omega
      go_enter Tryd.func16, Tryd.ntmps16
      go_wp2
      go_ret2
      exact ⟨ret_yes (fit_yes (by omega) (by omega)), Below.refl _ _⟩
  · have h0' : b ≤ 0 := by omega
    by_cases h2 : b < 0
    · by_cases h1 : a < -9223372036854775808 - b
      · go_enter Tryd.func16, Tryd.ntmps16
        go_wp2
        go_quiet (fail)
        go_wp2
        go_ret2
        exact ⟨ret_over (fit_no (by omega)), below_drewN (Below.refl _ _) _⟩
      · have h1' : -9223372036854775808 - b ≤ a := by omega
        go_enter Tryd.func16, Tryd.ntmps16
        go_wp2
        go_ret2
        exact ⟨ret_yes (fit_yes (by omega) (by omega)), Below.refl _ _⟩
    · have e : b = 0 := by omega
      subst e
      go_enter Tryd.func16, Tryd.ntmps16
      go_wp2
      go_ret2
      exact ⟨ret_yes (by rw [fit_yes] <;> first | omega | simp), Below.refl _ _⟩

set_option maxHeartbeats 800000 in
theorem subtract_any (a b : Int) (w : World) (hs : Sent w aS aO aZ aW) (ha : I64 a) (hb : I64 b) :
    Calls Tryd.prog 17 #[.int .i64 a, .int .i64 b] w fun e w' => e = .returned (pairV aS aO aZ aW (fit (a - b))) ∧ Below w.heap.size w w' := by
  obtain ⟨ha1, ha2⟩ := ha
  obtain ⟨hb1, hb2⟩ := hb
  have hg := hs.g1
  by_cases h0 : b < 0
  · by_cases h1 : 9223372036854775807 + b < a
    · go_enter Tryd.func17, Tryd.ntmps17
      go_wp2
      go_quiet (fail)
      go_wp2
      go_ret2
      exact ⟨ret_over (fit_no (by omega)), below_drewN (Below.refl _ _) _⟩
    · have h1' : a ≤ 9223372036854775807 + b := by omega
      have h2 : ¬ 0 < b := by omega
      go_enter Tryd.func17, Tryd.ntmps17
      go_wp2
      go_ret2
      exact ⟨ret_yes (fit_yes (by omega) (by omega)), Below.refl _ _⟩
  · have h0' : 0 ≤ b := by omega
    by_cases h2 : 0 < b
    · by_cases h1 : a < -9223372036854775808 + b
      · go_enter Tryd.func17, Tryd.ntmps17
        go_wp2
        go_quiet (fail)
        go_wp2
        go_ret2
        exact ⟨ret_over (fit_no (by omega)), below_drewN (Below.refl _ _) _⟩
      · have h1' : -9223372036854775808 + b ≤ a := by omega
        go_enter Tryd.func17, Tryd.ntmps17
        go_wp2
        go_ret2
        exact ⟨ret_yes (fit_yes (by omega) (by omega)), Below.refl _ _⟩
    · have e : b = 0 := by omega
      subst e
      go_enter Tryd.func17, Tryd.ntmps17
      go_wp2
      go_ret2
      exact ⟨ret_yes (by rw [fit_yes] <;> first | omega | simp), Below.refl _ _⟩

set_option maxHeartbeats 800000 in
theorem multiply_any (a b : Int) (w : World) (hs : Sent w aS aO aZ aW) (ha : I64 a) (hb : I64 b) :
    Calls Tryd.prog 18 #[.int .i64 a, .int .i64 b] w fun e w' => e = .returned (pairV aS aO aZ aW (fit (a * b))) ∧ Below w.heap.size w w' := by
  have ha' := ha
  have hb' := hb
  obtain ⟨ha1, ha2⟩ := ha
  obtain ⟨hb1, hb2⟩ := hb
  have hg := hs.g1
  by_cases h0 : a = 0
  · subst h0
    go_enter Tryd.func18, Tryd.ntmps18
    go_wp2
    go_ret2
    exact ⟨ret_yes (by rw [Int.zero_mul]; rfl), Below.refl _ _⟩
  · have e0 : (a == 0) = false := beq_eq_false_iff_ne.2 h0
    by_cases h1 : a = -1
    · subst h1
      go_enter Tryd.func18, Tryd.ntmps18
      go_wp2_with fail
      refine (subtract_any 0 b w hs ⟨by omega, by omega⟩ hb').mono ?_
      rintro e w1 ⟨rfl, hb3⟩
      have e5 : (0 : Int) - b = -1 * b := by omega
      rw [e5, pairV]
      generalize hf : fit (-1 * b) = f
      have Hf := hide hf
      clear hf
      go_wp2
      go_ret2
      exact ⟨by rw [unhide Hf]; rfl, hb3⟩
    · have e1 : (a == -1) = false := beq_eq_false_iff_ne.2 h1
      by_cases hf : -9223372036854775808 ≤ a * b ∧ a * b ≤ 9223372036854775807
      · obtain ⟨hv, hw⟩ := mul_ok h0 hb1 hb2 hf.1 hf.2
        have Hf := hide (fit_yes hf.1 hf.2)
        have Hw := hide hw
        clear hf hw
        go_enter Tryd.func18, Tryd.ntmps18
        go_wp2
        go_ret2
        exact ⟨by rw [unhide Hw]; exact ret_yes (unhide Hf), Below.refl _ _⟩
      · have hf' : a * b < -9223372036854775808 ∨ 9223372036854775807 < a * b := by generalize a * b = p at *; omega
        have hv := mul_bad ha1 ha2 h0 h1 hf'
        have Hf := hide (fit_no hf')
        clear hf hf'
        go_enter Tryd.func18, Tryd.ntmps18
        go_wp2
        go_quiet (fail)
        go_wp2
        go_ret2
        exact ⟨ret_over (unhide Hf), below_drewN (Below.refl _ _) _⟩

def divF (a b : Int) : Int × Int := if b = 0 then (0, 2) else fit (a.tdiv b)
def modF (a b : Int) : Int × Int := if b = 0 then (0, 2) else fit (a.tmod b)

set_option maxHeartbeats 800000 in
theorem divide_any (a b : Int) (w : World) (hs : Sent w aS aO aZ aW) (ha : I64 a) (hb : I64 b) :
    Calls Tryd.prog 19 #[.int .i64 a, .int .i64 b] w fun e w' => e = .returned (pairV aS aO aZ aW (divF a b)) ∧ Below w.heap.size w w' := by
  obtain ⟨ha1, ha2⟩ := ha
  obtain ⟨hb1, hb2⟩ := hb
  have hg := hs.g1
  have hg2 := hs.g2
  by_cases h0 : b = 0
  · subst h0
    go_enter Tryd.func19, Tryd.ntmps19
    go_wp2
    go_quiet (fail)
    go_wp2
    go_ret2
    exact ⟨ret_zero rfl, below_drewN (Below.refl _ _) _⟩
  · have e0 : (b == 0) = false := beq_eq_false_iff_ne.2 h0
    by_cases hm : a = -9223372036854775808 ∧ b = -1
    · obtain ⟨rfl, rfl⟩ := hm
      go_enter Tryd.func19, Tryd.ntmps19
      go_wp2
      go_quiet (fail)
      go_wp2
      go_ret2
      exact ⟨ret_over (by decide), below_drewN (Below.refl _ _) _⟩
    · have hr := tdiv_range ha1 ha2 h0 (by omega)
      have Hf := hide (show divF a b = (a.tdiv b, 0) by rw [divF, if_neg h0, fit_yes hr.1 hr.2])
      have Hw := hide (wrap_id hr.1 hr.2)
      clear hr
      by_cases h1 : a = -9223372036854775808
      · have e1 : (a == -9223372036854775808) = true := beq_iff_eq.2 h1
        have e2 : (b == -1) = false := beq_eq_false_iff_ne.2 (fun e => hm ⟨h1, e⟩)
        clear h1 hm
        go_enter Tryd.func19, Tryd.ntmps19
        go_wp2
        go_ret2
        exact ⟨by rw [unhide Hw]; exact ret_yes (unhide Hf), Below.refl _ _⟩
      · have e1 : (a == -9223372036854775808) = false := beq_eq_false_iff_ne.2 h1
        clear h1 hm
        go_enter Tryd.func19, Tryd.ntmps19
        go_wp2
        go_ret2
        exact ⟨by rw [unhide Hw]; exact ret_yes (unhide Hf), Below.refl _ _⟩

theorem tmod_range {x a : Int} (h1 : -9223372036854775808 ≤ x) (h2 : x ≤ 9223372036854775807) : -9223372036854775808 ≤ x.tmod a ∧ x.tmod a ≤ 9223372036854775807 := by
  have hn : (x.tmod a).natAbs ≤ x.natAbs := by rw [Int.natAbs_tmod]; exact Nat.mod_le _ _
  have hs : 0 ≤ x → 0 ≤ x.tmod a := fun h => Int.tmod_nonneg a h
  have hs' : x ≤ 0 → x.tmod a ≤ 0 := fun h => by
    have := Int.tmod_nonneg a (show 0 ≤ -x by omega)
    rw [Int.neg_tmod] at this
    omega
  omega

set_option maxHeartbeats 800000 in
theorem remainder_any (a b : Int) (w : World) (hs : Sent w aS aO aZ aW) (ha : I64 a) (hb : I64 b) :
    Calls Tryd.prog 20 #[.int .i64 a, .int .i64 b] w fun e w' => e = .returned (pairV aS aO aZ aW (modF a b)) ∧ Below w.heap.size w w' := by
  obtain ⟨ha1, ha2⟩ := ha
  obtain ⟨hb1, hb2⟩ := hb
  have hg2 := hs.g2
  by_cases h0 : b = 0
  · subst h0
    go_enter Tryd.func20, Tryd.ntmps20
    go_wp2
    go_quiet (fail)
    go_wp2
    go_ret2
    exact ⟨ret_zero rfl, below_drewN (Below.refl _ _) _⟩
  · have e0 : (b == 0) = false := beq_eq_false_iff_ne.2 h0
    by_cases h1 : b = -1
    · subst h1
      go_enter Tryd.func20, Tryd.ntmps20
      go_wp2
      go_ret2
      exact ⟨ret_yes (by rw [modF, if_neg h0, Int.tmod_neg, Int.tmod_one]; rfl), Below.refl _ _⟩
    · have e1 : (b == -1) = false := beq_eq_false_iff_ne.2 h1
      have hr := tmod_range (a := b) ha1 ha2
      have Hf := hide (show modF a b = (a.tmod b, 0) by rw [modF, if_neg h0, fit_yes hr.1 hr.2])
      have Hw := hide (wrap_id hr.1 hr.2)
      clear hr
      go_enter Tryd.func20, Tryd.ntmps20
      go_wp2
      go_ret2
      exact ⟨by first | (rw [unhide Hw]; exact ret_yes (unhide Hf)) | exact ret_yes (unhide Hf), Below.refl _ _⟩

def calcF (op a b : Int) : Int × Int :=
  if op = 1 then fit (a + b) else if op = 2 then fit (a - b) else if op = 3 then fit (a * b) else if op = 4 then divF a b else if op = 5 then modF a b else (0, 4)

set_option maxHeartbeats 1600000 in
theorem calculate_any (op a b : Int) (w : World) (hs : Sent w aS aO aZ aW) (ha : I64 a) (hb : I64 b) :
    Calls Tryd.prog 12 #[.int .i64 op, .int .i64 a, .int .i64 b] w fun e w' => e = .returned (pairV aS aO aZ aW (calcF op a b)) ∧ Below w.heap.size w w' := by
  have hg := hs.g0
  by_cases h1 : op = 1
  · subst h1
    go_enter Tryd.func12, Tryd.ntmps12
    go_wp2_with fail
    refine (add_any a b w hs ha hb).mono ?_
    rintro e w1 ⟨rfl, hb1⟩
    rw [pairV]
    go_wp2
    go_ret2
    exact ⟨rfl, hb1⟩
  by_cases h2 : op = 2
  · subst h2
    go_enter Tryd.func12, Tryd.ntmps12
    go_wp2_with fail
    refine (subtract_any a b w hs ha hb).mono ?_
    rintro e w1 ⟨rfl, hb1⟩
    rw [pairV]
    go_wp2
    go_ret2
    exact ⟨rfl, hb1⟩
  by_cases h3 : op = 3
  · subst h3
    go_enter Tryd.func12, Tryd.ntmps12
    go_wp2_with fail
    refine (multiply_any a b w hs ha hb).mono ?_
    rintro e w1 ⟨rfl, hb1⟩
    rw [pairV]
    go_wp2
    go_ret2
    exact ⟨rfl, hb1⟩
  by_cases h4 : op = 4
  · subst h4
    go_enter Tryd.func12, Tryd.ntmps12
    go_wp2_with fail
    refine (divide_any a b w hs ha hb).mono ?_
    rintro e w1 ⟨rfl, hb1⟩
    rw [pairV]
    go_wp2
    go_ret2
    exact ⟨rfl, hb1⟩
  by_cases h5 : op = 5
  · subst h5
    go_enter Tryd.func12, Tryd.ntmps12
    go_wp2_with fail
    refine (remainder_any a b w hs ha hb).mono ?_
    rintro e w1 ⟨rfl, hb1⟩
    rw [pairV]
    go_wp2
    go_ret2
    exact ⟨rfl, hb1⟩
  have e1 : (op == 1) = false := beq_eq_false_iff_ne.2 h1
  have e2 : (op == 2) = false := beq_eq_false_iff_ne.2 h2
  have e3 : (op == 3) = false := beq_eq_false_iff_ne.2 h3
  have e4 : (op == 4) = false := beq_eq_false_iff_ne.2 h4
  have e5 : (op == 5) = false := beq_eq_false_iff_ne.2 h5
  have Hf := hide (show calcF op a b = (0, 4) by rw [calcF, if_neg h1, if_neg h2, if_neg h3, if_neg h4, if_neg h5])
  clear h1 h2 h3 h4 h5
  go_enter Tryd.func12, Tryd.ntmps12
  go_wp2
  go_quiet (fail)
  go_wp2
  go_ret2
  exact ⟨ret_shape (unhide Hf), below_drewN (Below.refl _ _) _⟩

end Go.Proofs.YtemekdkeggibaaaDoor

/-
  Checked arithmetic: the specification's own counting. Own work.
-/
import Derived.Test.YtogenboibgddaaaGreatDoorMXAB
namespace Go.Proofs.YtogenboibgddaaaGreatDoor
open Go.RowKit

set_option maxHeartbeats 800000 in
theorem l1bigOf_neg (a : Int) (w : World) (ha : I64 a) (h0 : a < 0) :
    Calls Tryz.prog 97 #[.int .i64 a] w fun e w' => e = .returned (.agg #[.bool true, .int .u64 0, .int .u64 (-a)]) ∧ Below w.heap.size w w' := by
  obtain ⟨ha1, ha2⟩ := ha
  go_enter Tryz.func97, Tryz.ntmps97
  go_wp2
  rw [show -(a + 1) + 1 = -a from by omega]
  exact bodyPost_ret (v := .agg #[.bool true, .int .u64 0, .int .u64 (-a)]) (by simp [results, Tryz.results97, go_sem]) rfl ⟨rfl, (Below.refl _ _).alloc (Nat.le_refl _) _⟩

set_option maxHeartbeats 800000 in
theorem l1bigOf_pos (a : Int) (w : World) (ha : I64 a) (h0 : 0 ≤ a) :
    Calls Tryz.prog 97 #[.int .i64 a] w fun e w' => e = .returned (.agg #[.bool false, .int .u64 0, .int .u64 a]) ∧ Below w.heap.size w w' := by
  obtain ⟨ha1, ha2⟩ := ha
  have h0' : ¬ a < 0 := by omega
  go_enter Tryz.func97, Tryz.ntmps97
  go_wp2
  exact bodyPost_ret (v := .agg #[.bool false, .int .u64 0, .int .u64 a]) (by simp [results, Tryz.results97, go_sem]) rfl ⟨rfl, (Below.refl _ _).alloc (Nat.le_refl _) _⟩

theorem l1bigOf_any (a : Int) (w : World) (ha : I64 a) :
    Calls Tryz.prog 97 #[.int .i64 a] w fun e w' => e = .returned (.agg #[.bool (decide (a < 0)), .int .u64 0, .int .u64 (a.natAbs : Int)]) ∧ Below w.heap.size w w' := by
  by_cases h0 : a < 0
  · rw [show decide (a < 0) = true from by simp [h0], show (a.natAbs : Int) = -a from by omega]
    exact l1bigOf_neg a w ha h0
  · rw [show decide (a < 0) = false from by simpa using h0, show (a.natAbs : Int) = a from by omega]
    exact l1bigOf_pos a w ha (by omega)

theorem u64_eq {x y : Int} (h : x = y) : Value.int IntKind.u64 x = .int .u64 y := by rw [h]

set_option maxHeartbeats 1600000 in
theorem l1times_any (a b : Int) (w : World) (ha : 0 ≤ a ∧ a ≤ 9223372036854775808) (hb : 0 ≤ b ∧ b ≤ 9223372036854775808) :
    Calls Tryz.prog 100 #[.int .u64 a, .int .u64 b] w fun e w' => (∃ hi lo : Int, e = .returned (.tuple #[.int .u64 hi, .int .u64 lo]) ∧ 0 ≤ hi ∧ hi < 18446744073709551616 ∧ 0 ≤ lo ∧ lo < 18446744073709551616 ∧ hi * 18446744073709551616 + lo = a * b) ∧ w' = w := by
  go_enter Tryz.func100, Tryz.ntmps100
  go_wp2
  go_loop [6, 7, 8, 9] (fun h l i _ => ∃ (hi lo : Int) (k : Nat), h = .int .u64 hi ∧ l = .int .u64 lo ∧ i = .int .i64 ((k : Int) - 1) ∧ k ≤ 64 ∧ 0 ≤ hi ∧ hi < 18446744073709551616 ∧ 0 ≤ lo ∧ lo < 18446744073709551616 ∧ hi * 18446744073709551616 + lo = (a / 2 ^ k) * b) (fun _ _ i _ => (intOf i + 1).toNat)
  case atStart => exact ⟨0, 0, 64, rfl, rfl, rfl, by omega, by omega, by omega, by omega, by omega, by rw [show a / 2 ^ 64 = 0 from Int.ediv_eq_zero_of_lt ha.1 (by omega)]; omega⟩
  case round =>
    obtain ⟨hi, lo, k, rfl, rfl, rfl, hk, h1, h2, h3, h4, hv⟩ := hrel
    by_cases hk0 : k = 0
    · subst hk0
      have Hv := hide hv
      clear hv
      go_wp2
      go_ret2
      exact ⟨⟨hi, lo, rfl, h1, h2, h3, h4, by rw [unhide Hv]; simp⟩, rfl⟩
    · have hkp : (0 : Int) ≤ (k : Int) - 1 := by omega
      have Hv := hide hv
      clear hv
      go_wp2
      · obtain ⟨hi', lo', e1, e2, q⟩ := times_one (by omega) ha hb h1 h2 h3 h4 (unhide Hv) (by assumption) (by assumption)
        exact ⟨⟨hi', lo', k - 1, u64_eq e1.symm, u64_eq e2.symm, by rw [show (((k - 1 : Nat) : Int)) = (k : Int) - 1 from by omega], by omega, q⟩, by simp [intOf]; omega⟩
      · obtain ⟨hi', lo', e1, e2, q⟩ := times_two (by omega) ha hb h1 h2 h3 h4 (unhide Hv) (by assumption) (by assumption)
        exact ⟨⟨hi', lo', k - 1, u64_eq e1.symm, u64_eq e2.symm, by rw [show (((k - 1 : Nat) : Int)) = (k : Int) - 1 from by omega], by omega, q⟩, by simp [intOf]; omega⟩
      · obtain ⟨hi', lo', e1, e2, q⟩ := times_three (by omega) ha hb h1 h2 h3 h4 (unhide Hv) (by assumption)
        exact ⟨⟨hi', lo', k - 1, u64_eq e1.symm, u64_eq e2.symm, by rw [show (((k - 1 : Nat) : Int)) = (k : Int) - 1 from by omega], by omega, q⟩, by simp [intOf]; omega⟩

/-- the number that a sign and two words are -/
def bigI (n : Bool) (hi lo : Int) : Int := if n then -(hi * 18446744073709551616 + lo) else hi * 18446744073709551616 + lo

theorem ret_pair {v x c : Int} (h : fit v = (x, c)) : Ending.returned (.tuple #[.int .i64 x, .int .i64 c]) = .returned (.tuple #[.int .i64 (fit v).1, .int .i64 (fit v).2]) := by rw [h]

set_option maxHeartbeats 800000 in
theorem l1small_any (n : Bool) (hi lo : Int) (w : World) (h1 : 0 ≤ hi) (h2 : hi < 18446744073709551616) (h3 : 0 ≤ lo) (h4 : lo < 18446744073709551616) :
    Calls Tryz.prog 98 #[.agg #[.bool n, .int .u64 hi, .int .u64 lo]] w fun e w' => e = .returned (.tuple #[.int .i64 (fit (bigI n hi lo)).1, .int .i64 (fit (bigI n hi lo)).2]) ∧ Below w.heap.size w w' := by
  have B := (Below.refl w.heap.size w).alloc (Nat.le_refl _) (.cells #[.bool n, .int .u64 hi, .int .u64 lo] 150)
  by_cases e0 : hi = 0
  · subst e0
    by_cases e1 : 9223372036854775808 < lo
    · have Hf := hide (show fit (bigI n 0 lo) = (0, 1) from fit_no (by cases n <;> simp [bigI] <;> omega))
      go_enter Tryz.func98, Tryz.ntmps98
      go_wp2
      go_ret2
      exact ⟨ret_pair (unhide Hf), B⟩
    · by_cases e2 : lo = 9223372036854775808
      · subst e2
        cases n
        · have Hf := hide (show fit (bigI false 0 9223372036854775808) = (0, 1) from fit_no (by simp [bigI]))
          go_enter Tryz.func98, Tryz.ntmps98
          go_wp2
          go_ret2
          exact ⟨ret_pair (unhide Hf), B⟩
        · have Hf := hide (show fit (bigI true 0 9223372036854775808) = (-9223372036854775808, 0) from fit_yes (by simp [bigI]) (by simp [bigI]))
          go_enter Tryz.func98, Tryz.ntmps98
          go_wp2
          go_ret2
          exact ⟨ret_pair (unhide Hf), B⟩
      · have e1' : lo ≤ 9223372036854775807 := by omega
        have e1'' : lo ≤ 9223372036854775808 := by omega
        have e2' : (lo == 9223372036854775808) = false := beq_eq_false_iff_ne.2 e2
        clear e1 e2
        cases n
        · have Hf := hide (show fit (bigI false 0 lo) = (lo, 0) by rw [show bigI false 0 lo = lo by simp [bigI]]; exact fit_yes (by omega) (by omega))
          go_enter Tryz.func98, Tryz.ntmps98
          go_wp2
          go_ret2
          exact ⟨ret_pair (unhide Hf), B⟩
        · have Hf := hide (show fit (bigI true 0 lo) = (-lo, 0) by rw [show bigI true 0 lo = -lo by simp [bigI]]; exact fit_yes (by omega) (by omega))
          go_enter Tryz.func98, Tryz.ntmps98
          go_wp2
          go_ret2
          exact ⟨ret_pair (unhide Hf), B⟩
  · have e0' : (hi != 0) = true := by simpa using e0
    have Hf := hide (show fit (bigI n hi lo) = (0, 1) from fit_no (by cases n <;> simp [bigI] <;> omega))
    go_enter Tryz.func98, Tryz.ntmps98
    go_wp2
    go_ret2
    exact ⟨ret_pair (unhide Hf), B⟩

/-- the value is that number -/
def IsBig (v : Value) (s : Int) : Prop := ∃ (q : Bool) (hi lo : Int), v = .agg #[.bool q, .int .u64 hi, .int .u64 lo] ∧ 0 ≤ hi ∧ hi < 18446744073709551616 ∧ 0 ≤ lo ∧ lo < 18446744073709551616 ∧ bigI q hi lo = s

set_option maxHeartbeats 800000 in
theorem l1sum_any (n : Bool) (x : Int) (m : Bool) (y : Int) (w : World) (h1 : 0 ≤ x) (h2 : x ≤ 9223372036854775808) (h3 : 0 ≤ y) (h4 : y ≤ 9223372036854775808) :
    Calls Tryz.prog 99 #[.agg #[.bool n, .int .u64 0, .int .u64 x], .agg #[.bool m, .int .u64 0, .int .u64 y]] w fun e w' =>
      ∃ v, e = .returned v ∧ IsBig v (bigI n 0 x + bigI m 0 y) ∧ Below w.heap.size w w' := by
  cases hnm : (n == m)
  · have hm : m = !n := by cases n <;> cases m <;> simp at hnm ⊢
    subst hm
    by_cases hge : y ≤ x
    · go_enter Tryz.func99, Tryz.ntmps99
      go_wp2
      refine bodyPost_ret (v := .agg #[.bool n, .int .u64 0, .int .u64 (x - y)]) (by simp [results, Tryz.results99, go_sem]) rfl ⟨_, rfl, ⟨n, 0, x - y, rfl, by omega, by omega, by omega, by omega, by cases n <;> simp [bigI] <;> omega⟩, ?_⟩
      exact (((Below.refl _ _).alloc (Nat.le_refl _) _).alloc (by simp) _).alloc (by simp; omega) _
    · have hlt : x < y := by omega
      go_enter Tryz.func99, Tryz.ntmps99
      go_wp2
      refine bodyPost_ret (v := .agg #[.bool !n, .int .u64 0, .int .u64 (y - x)]) (by simp [results, Tryz.results99, go_sem]) rfl ⟨_, rfl, ⟨!n, 0, y - x, rfl, by omega, by omega, by omega, by omega, by cases n <;> simp [bigI] <;> omega⟩, ?_⟩
      exact (((Below.refl _ _).alloc (Nat.le_refl _) _).alloc (by simp) _).alloc (by simp; omega) _
  · have hm : m = n := by cases n <;> cases m <;> simp at hnm ⊢
    subst hm
    by_cases hc : x = 9223372036854775808 ∧ y = 9223372036854775808
    · have hw : IntKind.u64.wrap (x + y) = 0 := by rw [wrapU]; omega
      have hx0 : 0 < x := by omega
      have Hc := hide hc
      clear hc
      go_enter Tryz.func99, Tryz.ntmps99
      go_wp2
      refine bodyPost_ret (v := .agg #[.bool m, .int .u64 1, .int .u64 0]) (by simp [results, Tryz.results99, go_sem]) rfl ⟨_, rfl, ⟨m, 1, 0, rfl, by omega, by omega, by omega, by omega, by have hc := unhide Hc; cases m <;> simp [bigI] <;> omega⟩, ?_⟩
      exact (((Below.refl _ _).alloc (Nat.le_refl _) _).alloc (by simp) _).alloc (by simp; omega) _
    · have hs : x + y ≤ 18446744073709551615 := by omega
      have hs2 : ¬ (x + y < x) := by omega
      clear hc
      go_enter Tryz.func99, Tryz.ntmps99
      go_wp2
      refine bodyPost_ret (v := .agg #[.bool m, .int .u64 0, .int .u64 (x + y)]) (by simp [results, Tryz.results99, go_sem]) rfl ⟨_, rfl, ⟨m, 0, x + y, rfl, by omega, by omega, by omega, by omega, by cases m <;> simp [bigI] <;> omega⟩, ?_⟩
      exact (((Below.refl _ _).alloc (Nat.le_refl _) _).alloc (by simp) _).alloc (by simp; omega) _

end Go.Proofs.YtogenboibgddaaaGreatDoor

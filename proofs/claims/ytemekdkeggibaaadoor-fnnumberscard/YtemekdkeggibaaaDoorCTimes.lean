/-
  Multiplying by adding halves: plain facts. Own work.
-/
import Derived.WalkKit
import Derived.Laws.BitsAllLaws
import Derived.WalkSmall
import Derived.Test.YtemekdkeggibaaaDoorRows
namespace Go.Proofs.YtemekdkeggibaaaDoor
open Go.RowKit

theorem wrapU_id {x : Int} (h1 : 0 ≤ x) (h2 : x < 18446744073709551616) : IntKind.u64.wrap x = x := by rw [IntKind.wrap_u64]; omega
theorem wrapU (x : Int) : IntKind.u64.wrap x = x % 18446744073709551616 := IntKind.wrap_u64 x

theorem or_bit (h t : Int) (h0 : 0 ≤ h) (h1 : h < 4611686018427387904) (t0 : 0 ≤ t) (t1 : t < 2) : bits .or .u64 (h * 2) t = h * 2 + t := by
  rw [u64_or (h * 2) t (by omega) (by omega) (by omega) (by omega)]
  have e : (h * 2).toNat = 2 ^ 1 * h.toNat := by omega
  rw [e, ← Nat.two_pow_add_eq_or_of_lt (by omega)]
  omega

theorem half_step (a : Int) (k : Nat) (hk : 1 ≤ k) : a / 2 ^ k = (a / 2 ^ (k - 1)) / 2 := by
  obtain ⟨m, rfl⟩ : ∃ m, k = m + 1 := ⟨k - 1, by omega⟩
  rw [show m + 1 - 1 = m from by omega, Int.pow_succ, Int.ediv_ediv_of_nonneg (Int.le_of_lt (Int.pow_pos (by omega)))]

/-- what a round does: the new high and low words, by the bit -/
theorem times_round {a b hi lo : Int} {k : Nat} (hk : 1 ≤ k) (ha : 0 ≤ a ∧ a ≤ 9223372036854775808) (hb : 0 ≤ b ∧ b ≤ 9223372036854775808) (h1 : 0 ≤ hi) (h2 : hi < 18446744073709551616) (h3 : 0 ≤ lo) (h4 : lo < 18446744073709551616)
    (hv : hi * 18446744073709551616 + lo = (a / 2 ^ k) * b) :
    ∃ V t A : Int, A = a / 2 ^ (k - 1) ∧ 0 ≤ A ∧ A < 18446744073709551616 ∧ t = A % 2 ∧ 0 ≤ V ∧ V < 170141183460469231731687303715884105728 ∧ A * b = V + t * b ∧
      bits .or .u64 (IntKind.u64.wrap (hi * 2)) (lo / 9223372036854775808) = V / 18446744073709551616 ∧ IntKind.u64.wrap (lo * 2) = V % 18446744073709551616 := by
  have hA := half_step a k hk
  generalize hA' : a / 2 ^ (k - 1) = A at *
  have hpos : (0 : Int) < 2 ^ (k - 1) := Int.pow_pos (by omega)
  have hA0 : 0 ≤ A := by rw [← hA']; exact Int.ediv_nonneg ha.1 (by omega)
  have hA1 : A ≤ a := by rw [← hA']; exact Int.ediv_le_self _ ha.1
  rw [hA] at hv
  have hle : (A / 2) * b ≤ 4611686018427387904 * 9223372036854775808 := Int.mul_le_mul (by omega) hb.2 hb.1 (by omega)
  have hge : 0 ≤ (A / 2) * b := Int.mul_nonneg (by omega) hb.1
  have hAb : A * b = 2 * ((A / 2) * b) + (A % 2) * b := by
    have : A = 2 * (A / 2) + A % 2 := by omega
    conv => lhs; rw [this]
    rw [Int.add_mul, Int.mul_assoc]
  generalize (A / 2) * b = P at *
  have hhi : hi ≤ 2305843009213693952 := by omega
  refine ⟨2 * P, A % 2, A, rfl, hA0, by omega, rfl, by omega, by omega, hAb, ?_, ?_⟩
  · rw [wrapU_id (by omega) (by omega), or_bit hi (lo / 9223372036854775808) h1 (by omega) (by omega) (by omega)]
    omega
  · rw [wrapU]; omega

variable {a b hi lo : Int} {k : Nat}

theorem times_one (hk : 1 ≤ k) (ha : 0 ≤ a ∧ a ≤ 9223372036854775808) (hb : 0 ≤ b ∧ b ≤ 9223372036854775808) (h1 : 0 ≤ hi) (h2 : hi < 18446744073709551616) (h3 : 0 ≤ lo) (h4 : lo < 18446744073709551616)
    (hv : hi * 18446744073709551616 + lo = (a / 2 ^ k) * b) (hbit : (bits BinOp.and IntKind.u64 (a / 2 ^ (k - 1)) 1 == 1) = true) (hc : IntKind.u64.wrap (IntKind.u64.wrap (lo * 2) + b) < IntKind.u64.wrap (lo * 2)) :
    ∃ hi' lo' : Int, hi' = IntKind.u64.wrap (bits BinOp.or IntKind.u64 (IntKind.u64.wrap (hi * 2)) (lo / 9223372036854775808) + 1) ∧ lo' = IntKind.u64.wrap (IntKind.u64.wrap (lo * 2) + b) ∧
      0 ≤ hi' ∧ hi' < 18446744073709551616 ∧ 0 ≤ lo' ∧ lo' < 18446744073709551616 ∧ hi' * 18446744073709551616 + lo' = (a / 2 ^ (k - 1)) * b := by
  obtain ⟨V, t, A, hA, hA0, hA1, ht, hV0, hV1, hAb, ho, hl⟩ := times_round hk ha hb h1 h2 h3 h4 hv
  rw [← hA, and_one_u64 A hA0 (by omega), beq_iff_eq] at hbit
  rw [hl, wrapU] at hc
  refine ⟨_, _, rfl, rfl, ?_⟩
  rw [ho, hl, wrapU, wrapU, ← hA, hAb, ht, hbit]
  omega

theorem times_two (hk : 1 ≤ k) (ha : 0 ≤ a ∧ a ≤ 9223372036854775808) (hb : 0 ≤ b ∧ b ≤ 9223372036854775808) (h1 : 0 ≤ hi) (h2 : hi < 18446744073709551616) (h3 : 0 ≤ lo) (h4 : lo < 18446744073709551616)
    (hv : hi * 18446744073709551616 + lo = (a / 2 ^ k) * b) (hbit : (bits BinOp.and IntKind.u64 (a / 2 ^ (k - 1)) 1 == 1) = true) (hc : IntKind.u64.wrap (lo * 2) ≤ IntKind.u64.wrap (IntKind.u64.wrap (lo * 2) + b)) :
    ∃ hi' lo' : Int, hi' = bits BinOp.or IntKind.u64 (IntKind.u64.wrap (hi * 2)) (lo / 9223372036854775808) ∧ lo' = IntKind.u64.wrap (IntKind.u64.wrap (lo * 2) + b) ∧
      0 ≤ hi' ∧ hi' < 18446744073709551616 ∧ 0 ≤ lo' ∧ lo' < 18446744073709551616 ∧ hi' * 18446744073709551616 + lo' = (a / 2 ^ (k - 1)) * b := by
  obtain ⟨V, t, A, hA, hA0, hA1, ht, hV0, hV1, hAb, ho, hl⟩ := times_round hk ha hb h1 h2 h3 h4 hv
  rw [← hA, and_one_u64 A hA0 (by omega), beq_iff_eq] at hbit
  rw [hl, wrapU] at hc
  refine ⟨_, _, rfl, rfl, ?_⟩
  rw [ho, hl, wrapU, ← hA, hAb, ht, hbit]
  omega

theorem times_three (hk : 1 ≤ k) (ha : 0 ≤ a ∧ a ≤ 9223372036854775808) (hb : 0 ≤ b ∧ b ≤ 9223372036854775808) (h1 : 0 ≤ hi) (h2 : hi < 18446744073709551616) (h3 : 0 ≤ lo) (h4 : lo < 18446744073709551616)
    (hv : hi * 18446744073709551616 + lo = (a / 2 ^ k) * b) (hbit : (bits BinOp.and IntKind.u64 (a / 2 ^ (k - 1)) 1 == 1) = false) :
    ∃ hi' lo' : Int, hi' = bits BinOp.or IntKind.u64 (IntKind.u64.wrap (hi * 2)) (lo / 9223372036854775808) ∧ lo' = IntKind.u64.wrap (lo * 2) ∧
      0 ≤ hi' ∧ hi' < 18446744073709551616 ∧ 0 ≤ lo' ∧ lo' < 18446744073709551616 ∧ hi' * 18446744073709551616 + lo' = (a / 2 ^ (k - 1)) * b := by
  obtain ⟨V, t, A, hA, hA0, hA1, ht, hV0, hV1, hAb, ho, hl⟩ := times_round hk ha hb h1 h2 h3 h4 hv
  rw [← hA, and_one_u64 A hA0 (by omega), beq_eq_false_iff_ne] at hbit
  have h0 : A % 2 = 0 := by omega
  refine ⟨_, _, rfl, rfl, ?_⟩
  rw [ho, hl, ← hA, hAb, ht, h0]
  omega

end Go.Proofs.YtemekdkeggibaaaDoor

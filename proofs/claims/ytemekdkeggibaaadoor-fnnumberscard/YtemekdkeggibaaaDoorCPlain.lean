/-
  Checked arithmetic: plain facts. Own work.
-/
import Derived.WalkKit
import Derived.Test.YtemekdkeggibaaaDoorRows
namespace Go.Proofs.YtemekdkeggibaaaDoor
open Go.RowKit

theorem wrap_id {x : Int} (h1 : -9223372036854775808 ≤ x) (h2 : x ≤ 9223372036854775807) : wrap64 x = x := by unfold wrap64; omega
theorem wrap_range (x : Int) : -9223372036854775808 ≤ wrap64 x ∧ wrap64 x ≤ 9223372036854775807 := by unfold wrap64; omega
theorem wrap_far (x : Int) : ∃ k : Int, wrap64 x = x + k * 18446744073709551616 := ⟨-((x + 9223372036854775808) / 18446744073709551616), by unfold wrap64; omega⟩

theorem tdiv_range {x a : Int} (h1 : -9223372036854775808 ≤ x) (h2 : x ≤ 9223372036854775807) (h0 : a ≠ 0) (hm : a ≠ -1 ∨ x ≠ -9223372036854775808) : -9223372036854775808 ≤ x.tdiv a ∧ x.tdiv a ≤ 9223372036854775807 := by
  have hn : (x.tdiv a).natAbs ≤ x.natAbs := by rw [Int.natAbs_tdiv]; exact Nat.div_le_self _ _
  have he := Int.mul_tdiv_add_tmod x a
  have hr : (x.tmod a).natAbs < a.natAbs := by rw [Int.natAbs_tmod]; exact Nat.mod_lt _ (by omega)
  refine ⟨by omega, ?_⟩
  by_cases e : x.tdiv a = 9223372036854775808
  · rw [e] at he hn
    omega
  · omega

theorem mul_ok {a b : Int} (h0 : a ≠ 0) (hb1 : -9223372036854775808 ≤ b) (hb2 : b ≤ 9223372036854775807) (h1 : -9223372036854775808 ≤ a * b) (h2 : a * b ≤ 9223372036854775807) : (wrap64 ((wrap64 (a * b)).tdiv a) != b) = false ∧ wrap64 (a * b) = a * b := by
  have e := wrap_id h1 h2
  refine ⟨?_, e⟩
  rw [e, Int.mul_tdiv_cancel_left b h0, wrap_id hb1 hb2]
  simp

theorem mul_bad {a b : Int} (ha1 : -9223372036854775808 ≤ a) (ha2 : a ≤ 9223372036854775807) (h0 : a ≠ 0) (hm : a ≠ -1) (h : a * b < -9223372036854775808 ∨ 9223372036854775807 < a * b) : (wrap64 ((wrap64 (a * b)).tdiv a) != b) = true := by
  obtain ⟨r1, r2⟩ := wrap_range (a * b)
  obtain ⟨k, hk⟩ := wrap_far (a * b)
  generalize wrap64 (a * b) = x at *
  obtain ⟨t1, t2⟩ := tdiv_range r1 r2 h0 (.inl hm)
  rw [wrap_id t1 t2]
  have he := Int.mul_tdiv_add_tmod x a
  have hr : (x.tmod a).natAbs < a.natAbs := by rw [Int.natAbs_tmod]; exact Nat.mod_lt _ (by omega)
  simp only [bne_iff_ne, ne_eq]
  intro e
  rw [e] at he
  generalize a * b = p at *
  omega

end Go.Proofs.YtemekdkeggibaaaDoor

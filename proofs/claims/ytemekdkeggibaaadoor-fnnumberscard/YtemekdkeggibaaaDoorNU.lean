/-
  FnNumbers: the law. Own work.
-/
import Derived.Test.YtemekdkeggibaaaDoorCalc2
import Derived.Test.YtemekdkeggibaaaDoorCalc6
import Derived.Test.YtemekdkeggibaaaDoorNum
namespace Go.Proofs.YtemekdkeggibaaaDoor
open Go.RowKit Go.ChangeShapes

theorem fit_zero (v : Int) : (fit v).2 = 0 ∨ (fit v).1 = 0 := by unfold fit; split <;> simp
theorem calcF_zero (op a b : Int) : (calcF op a b).2 = 0 ∨ (calcF op a b).1 = 0 := by
  unfold calcF divF modF
  repeat' split
  all_goals first | exact fit_zero _ | simp
theorem fit_ok {v : Int} (h : (fit v).2 = 0) : fit v = (v, 0) ∧ I64 v := by
  unfold fit at h ⊢
  by_cases k : -9223372036854775808 ≤ v ∧ v ≤ 9223372036854775807
  · rw [if_pos k]; exact ⟨rfl, ⟨k.1, k.2⟩⟩
  · rw [if_neg k] at h; simp at h

theorem fit_i64 {v : Int} (h : I64 v) : fit v = (v, 0) := fit_yes h.lo h.hi

/-- what the quotient and the remainder give back -/
theorem div_back {a b : Int} (ha : I64 a) (h : (calcF 4 a b).2 = 0) : calcF 4 a b = (a.tdiv b, 0) ∧ I64 (a.tdiv b) ∧ calcF 5 a b = (a.tmod b, 0) ∧ I64 (a.tmod b) ∧ calcF 3 (a.tdiv b) b = (a.tdiv b * b, 0) ∧ I64 (a.tdiv b * b) ∧ calcF 1 (a.tdiv b * b) (a.tmod b) = (a, 0) := by
  have hd : calcF 4 a b = divF a b := rfl
  have hm : calcF 5 a b = modF a b := rfl
  have h3 : ∀ x y, calcF 3 x y = fit (x * y) := fun _ _ => rfl
  have h1 : ∀ x y, calcF 1 x y = fit (x + y) := fun _ _ => rfl
  rw [hd] at h ⊢
  rw [hm, h3, h1]
  by_cases b0 : b = 0
  · rw [divF, if_pos b0] at h; simp at h
  · rw [divF, if_neg b0] at h ⊢
    rw [modF, if_neg b0]
    obtain ⟨e, hq⟩ := fit_ok h
    have hr := tmod_range (a := b) ha.lo ha.hi
    have he := Int.mul_tdiv_add_tmod a b
    rw [Int.mul_comm] at he
    have hs : 0 ≤ a → 0 ≤ a.tmod b := fun h => Int.tmod_nonneg b h
    have hs' : a ≤ 0 → a.tmod b ≤ 0 := fun h => by
      have := Int.tmod_nonneg b (show 0 ≤ -a by omega)
      rw [Int.neg_tmod] at this
      omega
    have hn : (a.tmod b).natAbs ≤ a.natAbs := by rw [Int.natAbs_tmod]; exact Nat.mod_le _ _
    have hlo := ha.lo
    have hhi := ha.hi
    have hp : I64 (a.tdiv b * b) := by
      generalize a.tdiv b * b = P at *
      exact ⟨by omega, by omega⟩
    exact ⟨e, hq, fit_i64 ⟨hr.1, hr.2⟩, ⟨hr.1, hr.2⟩, fit_i64 hp, hp, by rw [he]; exact fit_i64 ha⟩

theorem sum_back {a b : Int} (ha : I64 a) (h : (calcF 1 a b).2 = 0) : calcF 1 a b = (a + b, 0) ∧ I64 (a + b) ∧ calcF 2 (a + b) b = (a, 0) := by
  have h1 : calcF 1 a b = fit (a + b) := rfl
  have h2 : calcF 2 (a + b) b = fit (a + b - b) := rfl
  rw [h1] at h ⊢
  obtain ⟨e, hq⟩ := fit_ok h
  rw [h2, show a + b - b = a from by omega]
  exact ⟨e, hq, fit_i64 ha⟩

variable {aS aO aZ aW : Addr}

set_option maxRecDepth 100000 in
set_option maxHeartbeats 4000000 in
theorem fnNumbers_walk (a : Option Addr) (n c : Nat) (zs : List Int) (w : World) (hs : Sent w aS aO aZ aW) (h : Bytes w a n c zs) :
    Calls Tryd.prog 4 #[.slice a n c] w fun e w' => e = .returned (.bool true) ∧ Below w.heap.size w w' := by
  by_cases hn : n ≤ 1048576
  · have ih : (n : Int) ≤ 1048576 := by omega
    go_enter Tryd.func4, Tryd.ntmps4
    go_wp2_with fail
    refine (DrawCalc_any a n c zs w h hn).mono ?_
    rintro e w1 ⟨o, x, y, rfl, hx, hy, hb1⟩
    go_wp2_with fail
    go_loopw [6, 7, 8, 9, 10] (fun i _ _ _ _ wr => ∃ k : Nat, k ≤ 5 ∧ i = .int .i64 ((k : Int) + 1) ∧ Below w.heap.size w wr) (fun i _ _ _ _ _ => 6 - (intOf i).toNat)
    case atStart => exact ⟨0, by omega, rfl, hb1⟩
    case round =>
      obtain ⟨k, hk, rfl, hb⟩ := hrel
      clear hb1
      by_cases hk5 : k < 5
      · have ik : (k : Int) + 1 ≤ 5 := by omega
        have hz := calcF_zero ((k : Int) + 1) x y
        go_wp2_with fail
        refine (iCalc_any _ x y _ (hs.below hb (Nat.le_refl _)) hx hy).mono ?_
        rintro e w2 ⟨rfl, hb2⟩
        generalize hc : calcF ((k : Int) + 1) x y = cc at *
        have Hc := hide hc
        clear hc
        go_wp2_with fail
        refine (sCalc_any _ hx hy).mono ?_
        rintro e w3 ⟨rfl, hb3⟩
        rw [unhide Hc]
        have hb' := (hb.trans (hb2.mono hb.size)).trans (hb3.mono (Nat.le_trans hb.size hb2.size))
        clear Hc hb2 hb3 hb
        by_cases h0 : cc.2 = 0
        · have e0 : (cc.2 != 0) = false := by simp [h0]
          clear h0 hz
          go_wp2
          go_roundw
          case rel => exact ⟨k + 1, by omega, by go_num, hb'⟩
          case measure => simp [intOf]; omega
        · have e0 : (cc.2 != 0) = true := by simp [h0]
          have e1 : (cc.1 != 0) = false := by rcases hz with hz | hz <;> simp [hz] ; exact absurd hz h0
          clear h0 hz
          go_wp2
          go_roundw
          case rel => exact ⟨k + 1, by omega, by go_num, hb'⟩
          case measure => simp [intOf]; omega
      · have ik : ¬ ((k : Int) + 1 ≤ 5) := by omega
        go_wp2_with fail
        refine (iCalc_any 4 x y _ (hs.below hb (Nat.le_refl _)) hx hy).mono ?_
        rintro e w2 ⟨rfl, hb2⟩
        have B2 := hb.trans (hb2.mono hb.size)
        by_cases hA : (calcF 4 x y).2 = 0
        · obtain ⟨f4, q4, f5, q5, f3, q3, f1⟩ := div_back hx hA
          rw [f4]
          have F5 := hide f5
          have F3 := hide f3
          have F1 := hide f1
          clear f4 f5 f3 f1 hA hb2 hb
          generalize x.tdiv y = q at *
          generalize x.tmod y = r at *
          go_wp2_with fail
          refine (iCalc_any 5 x y _ (hs.below B2 (Nat.le_refl _)) hx hy).mono ?_
          rintro e w3 ⟨rfl, hb3⟩
          rw [unhide F5]
          have B3 := B2.trans (hb3.mono B2.size)
          clear F5 hb3 B2
          go_wp2_with fail
          refine (iCalc_any 3 q y _ (hs.below B3 (Nat.le_refl _)) q4 hy).mono ?_
          rintro e w4 ⟨rfl, hb4⟩
          rw [unhide F3]
          have B4 := B3.trans (hb4.mono B3.size)
          clear F3 hb4 B3
          generalize q * y = pp at *
          go_wp2_with fail
          refine (iCalc_any 1 pp r _ (hs.below B4 (Nat.le_refl _)) q3 q5).mono ?_
          rintro e w5 ⟨rfl, hb5⟩
          rw [unhide F1]
          have B5 := B4.trans (hb5.mono B4.size)
          clear F1 hb5 B4
          go_wp2_with fail
          refine (iCalc_any 1 x y _ (hs.below B5 (Nat.le_refl _)) hx hy).mono ?_
          rintro e w8 ⟨rfl, hb8⟩
          have B8 := B5.trans (hb8.mono B5.size)
          by_cases hB : (calcF 1 x y).2 = 0
          · obtain ⟨f1, f2, f3⟩ := sum_back hx hB
            rw [f1]
            have F3 := hide f3
            clear f1 f3 hB hb8
            go_wp2_with fail
            refine (iCalc_any 2 (x + y) y _ (hs.below B8 (Nat.le_refl _)) f2 hy).mono ?_
            rintro e w9 ⟨rfl, hb9⟩
            rw [unhide F3]
            have B9 := B8.trans (hb9.mono B8.size)
            go_wp2
            go_ret
            exact ⟨rfl, B9⟩
          · generalize calcF 1 x y = g at *
            have eB : (g.2 == 0) = false := beq_eq_false_iff_ne.2 hB
            clear hB
            go_wp2
            go_ret
            exact ⟨rfl, B8⟩
        · generalize calcF 4 x y = g4 at *
          have eA : (g4.2 == 0) = false := beq_eq_false_iff_ne.2 hA
          clear hA hb2 hb
          go_wp2_with fail
          refine (iCalc_any 5 x y _ (hs.below B2 (Nat.le_refl _)) hx hy).mono ?_
          rintro e w3 ⟨rfl, hb3⟩
          generalize calcF 5 x y = g5 at *
          have B3 := B2.trans (hb3.mono B2.size)
          clear hb3 B2
          go_wp2_with fail
          refine (iCalc_any 1 x y _ (hs.below B3 (Nat.le_refl _)) hx hy).mono ?_
          rintro e w8 ⟨rfl, hb8⟩
          have B8 := B3.trans (hb8.mono B3.size)
          by_cases hB : (calcF 1 x y).2 = 0
          · obtain ⟨f1, f2, f3⟩ := sum_back hx hB
            rw [f1]
            have F3 := hide f3
            clear f1 f3 hB hb8
            go_wp2_with fail
            refine (iCalc_any 2 (x + y) y _ (hs.below B8 (Nat.le_refl _)) f2 hy).mono ?_
            rintro e w9 ⟨rfl, hb9⟩
            rw [unhide F3]
            have B9 := B8.trans (hb9.mono B8.size)
            go_wp2
            go_ret
            exact ⟨rfl, B9⟩
          · generalize calcF 1 x y = g at *
            have eB : (g.2 == 0) = false := beq_eq_false_iff_ne.2 hB
            clear hB
            go_wp2
            go_ret
            exact ⟨rfl, B8⟩
  · have ih : (1048576 : Int) < (n : Int) := by omega
    go_enter Tryd.func4, Tryd.ntmps4
    go_wp2
    go_ret
    exact ⟨rfl, Below.refl _ _⟩

end Go.Proofs.YtemekdkeggibaaaDoor

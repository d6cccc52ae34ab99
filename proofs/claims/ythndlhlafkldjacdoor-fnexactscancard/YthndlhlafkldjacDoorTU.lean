/-
  The walk over the program's reader of numbers. Own work.
-/
import Derived.Test.YthndlhlafkldjacDoorTT
import Derived.Lib.ParseIntB
import Derived.Lib.AtoiErrMem
namespace Go.Proofs.YthndlhlafkldjacDoor
open Go.RowKit
set_option linter.unusedVariables false
variable {aS aB aT : Addr}

theorem parse_digits (M : Nat) (hM : 10000000000000000000 ≤ M) : ∀ (d : List UInt8) (acc : Nat), d.all dgB = true → (acc + 1) * 10 ^ d.length ≤ 10000000000000000000 → ∃ u, Lib.parseUintM M acc d = .ok u ∧ (u : Int) = (acc : Int) * 10 ^ d.length + lvV d
  | [], acc, _, _ => ⟨acc, rfl, by simp [lvV]⟩
  | c :: r, acc, h, hb => by
    rw [List.all_cons, Bool.and_eq_true] at h
    obtain ⟨h1, h2⟩ := (dgB_iff c).1 h.1
    have hp : 1 ≤ 10 ^ r.length := Nat.one_le_pow _ _ (by decide)
    rw [List.length_cons, Nat.pow_succ] at hb
    have hb2 : (acc + 1) * 10 ≤ 10000000000000000000 := by
      refine Nat.le_trans ?_ hb
      rw [Nat.mul_comm (10 ^ r.length) 10, ← Nat.mul_assoc]
      exact Nat.le_mul_of_pos_right _ (by omega)
    obtain ⟨u, e1, e2⟩ := parse_digits M hM r (acc * 10 + (c.toNat - 48)) h.2 (by
      refine Nat.le_trans ?_ hb
      rw [Nat.mul_comm (10 ^ r.length) 10, ← Nat.mul_assoc]
      exact Nat.mul_le_mul_right _ (by omega))
    refine ⟨u, ?_, ?_⟩
    · rw [Lib.parseUintM, if_pos (by omega), if_neg (by omega), if_neg (by omega)]
      exact e1
    · rw [e2, lvV_cons, List.length_cons, Int.pow_succ, ← Int.add_assoc]
      congr 1
      rw [Int.natCast_add, Int.natCast_mul, Int.natCast_sub (by omega), Int.add_mul, Int.mul_comm (10 ^ r.length) 10, ← Int.mul_assoc]
      rfl

theorem parse_int {d : List UInt8} (h0 : d ≠ []) (h19 : d.length ≤ 19) (h : d.all dgB = true) : Lib.parseIntB 64 d = if 9223372036854775807 < lvV d then .range else .ok (lvV d) := by
  obtain ⟨u, e1, e2⟩ := parse_digits (2 ^ 64 - 1) (by decide) d 0 h (by
    have : 10 ^ d.length ≤ 10 ^ 19 := Nat.pow_le_pow_right (by decide) h19
    have e : 10 ^ 19 = 10000000000000000000 := rfl
    omega)
  simp only [Int.natCast_zero, Int.zero_mul, Int.zero_add] at e2
  cases d with
  | nil => exact absurd rfl h0
  | cons c r =>
    have hc := (dgB_iff c).1 (by rw [List.all_cons, Bool.and_eq_true] at h; exact h.1)
    have n1 : ¬ c.toNat = 43 := by omega
    have n2 : ¬ c.toNat = 45 := by omega
    have e3 : Lib.parseUintB 64 (c :: r) = .ok u := by rw [Lib.parseUintB, if_neg (by simp)]; exact e1
    rw [Lib.parseIntB]
    simp only [n1, n2, or_self, if_false, e3]
    by_cases hu : 9223372036854775807 < lvV (c :: r)
    · rw [if_pos hu, if_pos ⟨not_false, by show 9223372036854775808 ≤ u; omega⟩]
    · rw [if_neg hu, if_neg (fun k => by have : 9223372036854775808 ≤ u := k.2; omega), if_neg (fun k => k.1), e2]

set_option maxHeartbeats 3200000 in
theorem readNumber_any (r : ByteArray) (w : World) (hs : r.size ≤ 1048576) (h0 : 1 ≤ runL dgB (toL r)) (S : Snt w aS aB aT) :
    Calls Tryd.prog 80 #[.string r] w fun e w' => e = .returned (rdV aS aB aT (oneNum (toL r))) ∧ Below w.heap.size w w' := by
  obtain ⟨W, hW, R0, B0, SW⟩ := rd_start w S
  have hg := SW.gT
  have hbig := S.big
  have n1 : w.heap.size ≠ 7 := by omega
  have n2 : 7 ≠ w.heap.size := by omega
  have hrl := runL_le dgB (toL r)
  rw [toL_size] at hrl
  obtain ⟨d0, d1, d2, d3, df⟩ := row4 R0
  have Hx := hide (show toL (r.extract 0 (runL dgB (toL r))) = (toL r).take (runL dgB (toL r)) by rw [toL_extract, List.drop_zero, Nat.sub_zero])
  have HA := hide (runL_all dgB (toL r))
  have HO := hide (show oneNum (toL r) = if 19 < runL dgB (toL r) ∨ follows (toL r) (runL dgB (toL r)) = true ∨ 9223372036854775807 < lvV ((toL r).take (runL dgB (toL r))) then .bad 3 else .tok 1 (lvV ((toL r).take (runL dgB (toL r)))) [] (runL dgB (toL r)) from rfl)
  have hxs : (r.extract 0 (runL dgB (toL r))).size = runL dgB (toL r) := by rw [ByteArray.size_extract]; omega
  go_enter Tryd.func80, Tryd.ntmps80
  go_wp2_with fail
  clear hW
  refine (runOf_dg r _ (by unfold maxLen; omega)).mono ?_
  rintro e w1 ⟨rfl, hw⟩
  rw [hw]
  clear hw
  generalize runL dgB (toL r) = n at h0 hrl HO Hx HA hxs ⊢
  have irl : (n : Int) ≤ (r.size : Int) := by omega
  by_cases h19 : 19 < n
  · have i19 : (19 : Int) < (n : Int) := by omega
    have HO := hide ((unhide HO).trans (if_pos (.inl h19)))
    go_wp2_with fail
    go_region
    go_wp2_with fail
    have BF := put4_below (b := w.heap.size) B0 (Nat.le_refl _) (.int .i64 0) (.int .i64 0) (.string ⟨#[]⟩) (.int .i64 0)
    obtain ⟨g0, g1, g2, g3⟩ := put4_drew R0 (.int .i64 0) (.int .i64 0) (.string ⟨#[]⟩) (.int .i64 0)
    exact bodyPost_ret (res_tok3 Tryd.results80 rfl g0 g1 g2 g3) rfl ⟨by rw [unhide HO, rd_bad3]; rfl, BF.drew⟩
  have i19 : ¬ ((19 : Int) < (n : Int)) := by omega
  by_cases hlt : n < r.size
  · have ilt : (n : Int) < (r.size : Int) := by omega
    have hf : follows (toL r) n = (ltB r[n] || decide (r[n] = 95)) := by
      have := follows_at (s := r) (j := 0) hlt (Nat.zero_le _)
      rwa [List.drop_zero, Nat.sub_zero] at this
    cases hL : ltI (r[n].toNat : Int)
    · by_cases h95 : (r[n].toNat : Int) = 95
      · have e : follows (toL r) n = true := by rw [hf]; simp [ltB, byte95 h95]
        have HO := hide ((unhide HO).trans (if_pos (.inr (.inl e))))
        clear e hf hL
        go_wp2_with (go_at_call 81; refine (isLetter_any _ _).mono ?_; rintro e w' ⟨rfl, hw⟩; rw [show ltI 95 = false from by decide, hw]; clear hw)
        go_region
        go_wp2_with fail
        have BF := put4_below (b := w.heap.size) B0 (Nat.le_refl _) (.int .i64 0) (.int .i64 0) (.string ⟨#[]⟩) (.int .i64 0)
        obtain ⟨g0, g1, g2, g3⟩ := put4_drew R0 (.int .i64 0) (.int .i64 0) (.string ⟨#[]⟩) (.int .i64 0)
        exact bodyPost_ret (res_tok3 Tryd.results80 rfl g0 g1 g2 g3) rfl ⟨by rw [unhide HO, rd_bad3]; rfl, BF.drew⟩
      · have e : follows (toL r) n = false := by rw [hf]; simp [ltB, hL, byte95n h95]
        have e95 := beq_eq_false_iff_ne.2 h95
        have Hf := hide e
        have HL := hide hL
        clear e hf hL
        go_wp2_with (go_at_call 81; refine (isLetter_any _ _).mono ?_; rintro e w' ⟨rfl, hw⟩; rw [unhide HL, hw]; clear hw)
        generalize r.extract 0 n = x at Hx hxs ⊢
        have hne : toL x ≠ [] := fun k => by have := congrArg List.length k; rw [toL_size, List.length_nil] at this; omega
        have hpi := parse_int (d := toL x) hne (by rw [toL_size]; omega) (by rw [unhide Hx]; exact unhide HA)
        rw [unhide Hx] at hpi
        clear d0 d1 d2 d3 df hne hg
        by_cases hmx : 9223372036854775807 < lvV ((toL r).take n)
        · have HO := hide ((unhide HO).trans (if_pos (.inr (.inr hmx))))
          rw [if_pos hmx] at hpi
          obtain ⟨tp, p, hvar⟩ := SW.gR
          have hP := Tryd.strconv_ParseInt_10_at64_range_var x (by omega) (by rw [show x.data.toList = (toL r).take n from unhide Hx]; exact hpi) tp p W hvar
          clear hvar hpi hmx
          refine hP.mono ?_
          rintro e w2 ⟨N, rfl, _, _, hb2⟩
          clear hP
          have R2 := R0.after hb2 (Nat.le_refl _)
          have B2 := B0.trans (hb2.mono B0.size)
          have hg := (SW.below hb2 (Nat.le_refl _)).gT
          clear hb2
          obtain ⟨d0, d1, d2, d3, df⟩ := row4 R2
          go_wp2_with fail
          go_region
          go_wp2_with fail
          have BF := put4_below (b := w.heap.size) B2 (Nat.le_refl _) (.int .i64 0) (.int .i64 0) (.string ⟨#[]⟩) (.int .i64 0)
          obtain ⟨g0, g1, g2, g3⟩ := put4_drew R2 (.int .i64 0) (.int .i64 0) (.string ⟨#[]⟩) (.int .i64 0)
          exact bodyPost_ret (res_tok3 Tryd.results80 rfl g0 g1 g2 g3) rfl ⟨by rw [unhide HO, rd_bad3]; rfl, BF.drew⟩
        · have e : ¬ (19 < n ∨ follows (toL r) n = true ∨ 9223372036854775807 < lvV ((toL r).take n)) := by
            rintro (k | k | k)
            · exact h19 k
            · rw [unhide Hf] at k; cases k
            · exact hmx k
          have HO := hide ((unhide HO).trans (if_neg e))
          rw [if_neg hmx] at hpi
          have hP := Tryd.strconv_ParseInt_10_at64_ok x (by omega) _ (by rw [show x.data.toList = (toL r).take n from unhide Hx]; exact hpi) W
          clear hpi hmx e
          refine hP.mono ?_
          rintro e w2 ⟨rfl, hw⟩
          clear hP
          have hb2 : Below W.heap.size W w2 := by
            rcases hw with rfl | ⟨t, rfl⟩
            · exact Below.refl _ _
            · exact Lib.bytesWorld_below W _ t
          clear hw
          generalize lvV ((toL r).take n) = v at HO ⊢
          have R2 := R0.after hb2 (Nat.le_refl _)
          have B2 := B0.trans (hb2.mono B0.size)
          clear hb2
          obtain ⟨d0, d1, d2, d3, df⟩ := row4 R2
          go_wp2_with fail
          have BF := put4_below (b := w.heap.size) B2 (Nat.le_refl _) (.int .i64 1) (.int .i64 v) (.string ⟨#[]⟩) (.int .i64 0)
          obtain ⟨g0, g1, g2, g3, _⟩ := row4 (put4_row R2 (.int .i64 1) (.int .i64 v) (.string ⟨#[]⟩) (.int .i64 0))
          simp only [put4] at g0 g1 g2 g3
          refine bodyPost_ret (res_tok3 Tryd.results80 rfl g0 g1 g2 g3) rfl ⟨?_, BF⟩
          rw [unhide HO]
          rfl
    · have e : follows (toL r) n = true := by rw [hf]; simp [ltB, hL]
      have HO := hide ((unhide HO).trans (if_pos (.inr (.inl e))))
      have HL := hide hL
      clear e hf hL
      go_wp2_with (go_at_call 81; refine (isLetter_any _ _).mono ?_; rintro e w' ⟨rfl, hw⟩; rw [unhide HL, hw]; clear hw)
      go_region
      go_wp2_with fail
      have BF := put4_below (b := w.heap.size) B0 (Nat.le_refl _) (.int .i64 0) (.int .i64 0) (.string ⟨#[]⟩) (.int .i64 0)
      obtain ⟨g0, g1, g2, g3⟩ := put4_drew R0 (.int .i64 0) (.int .i64 0) (.string ⟨#[]⟩) (.int .i64 0)
      exact bodyPost_ret (res_tok3 Tryd.results80 rfl g0 g1 g2 g3) rfl ⟨by rw [unhide HO, rd_bad3]; rfl, BF.drew⟩
  · have ilt : ¬ ((n : Int) < (r.size : Int)) := by omega
    have Hf := hide (show follows (toL r) n = false by have := follows_end (s := r) (j := 0) (k := n) (by omega); rwa [List.drop_zero, Nat.sub_zero] at this)
    go_wp2_with fail
    generalize r.extract 0 n = x at Hx hxs ⊢
    have hne : toL x ≠ [] := fun k => by have := congrArg List.length k; rw [toL_size, List.length_nil] at this; omega
    have hpi := parse_int (d := toL x) hne (by rw [toL_size]; omega) (by rw [unhide Hx]; exact unhide HA)
    rw [unhide Hx] at hpi
    clear d0 d1 d2 d3 df hne hg
    by_cases hmx : 9223372036854775807 < lvV ((toL r).take n)
    · have HO := hide ((unhide HO).trans (if_pos (.inr (.inr hmx))))
      rw [if_pos hmx] at hpi
      obtain ⟨tp, p, hvar⟩ := SW.gR
      have hP := Tryd.strconv_ParseInt_10_at64_range_var x (by omega) (by rw [show x.data.toList = (toL r).take n from unhide Hx]; exact hpi) tp p W hvar
      clear hvar hpi hmx
      refine hP.mono ?_
      rintro e w2 ⟨N, rfl, _, _, hb2⟩
      clear hP
      have R2 := R0.after hb2 (Nat.le_refl _)
      have B2 := B0.trans (hb2.mono B0.size)
      have hg := (SW.below hb2 (Nat.le_refl _)).gT
      clear hb2
      obtain ⟨d0, d1, d2, d3, df⟩ := row4 R2
      go_wp2_with fail
      go_region
      go_wp2_with fail
      have BF := put4_below (b := w.heap.size) B2 (Nat.le_refl _) (.int .i64 0) (.int .i64 0) (.string ⟨#[]⟩) (.int .i64 0)
      obtain ⟨g0, g1, g2, g3⟩ := put4_drew R2 (.int .i64 0) (.int .i64 0) (.string ⟨#[]⟩) (.int .i64 0)
      exact bodyPost_ret (res_tok3 Tryd.results80 rfl g0 g1 g2 g3) rfl ⟨by rw [unhide HO, rd_bad3]; rfl, BF.drew⟩
    · have e : ¬ (19 < n ∨ follows (toL r) n = true ∨ 9223372036854775807 < lvV ((toL r).take n)) := by
        rintro (k | k | k)
        · exact h19 k
        · rw [unhide Hf] at k; cases k
        · exact hmx k
      have HO := hide ((unhide HO).trans (if_neg e))
      rw [if_neg hmx] at hpi
      have hP := Tryd.strconv_ParseInt_10_at64_ok x (by omega) _ (by rw [show x.data.toList = (toL r).take n from unhide Hx]; exact hpi) W
      clear hpi hmx e
      refine hP.mono ?_
      rintro e w2 ⟨rfl, hw⟩
      clear hP
      have hb2 : Below W.heap.size W w2 := by
        rcases hw with rfl | ⟨t, rfl⟩
        · exact Below.refl _ _
        · exact Lib.bytesWorld_below W _ t
      clear hw
      generalize lvV ((toL r).take n) = v at HO ⊢
      have R2 := R0.after hb2 (Nat.le_refl _)
      have B2 := B0.trans (hb2.mono B0.size)
      clear hb2
      obtain ⟨d0, d1, d2, d3, df⟩ := row4 R2
      go_wp2_with fail
      have BF := put4_below (b := w.heap.size) B2 (Nat.le_refl _) (.int .i64 1) (.int .i64 v) (.string ⟨#[]⟩) (.int .i64 0)
      obtain ⟨g0, g1, g2, g3, _⟩ := row4 (put4_row R2 (.int .i64 1) (.int .i64 v) (.string ⟨#[]⟩) (.int .i64 0))
      simp only [put4] at g0 g1 g2 g3
      refine bodyPost_ret (res_tok3 Tryd.results80 rfl g0 g1 g2 g3) rfl ⟨?_, BF⟩
      rw [unhide HO]
      rfl

end Go.Proofs.YthndlhlafkldjacDoor

/-
  The walk over the model's l2one: texts and signs. Own work.
-/
import Derived.Test.YtcehablmloleaaaGreatDoorMXAN
namespace Go.Proofs.YtcehablmloleaaaGreatDoor
open Go.RowKit
set_option linter.unusedVariables false

theorem text_end {s : ByteArray} {j k : Nat} (h : s.size ≤ k) (hj : j + 1 ≤ k) : ((toL s).drop (j + 1))[k - (j + 1)]? ≠ some 34 := by
  rw [List.getElem?_eq_none (by rw [List.length_drop, toL_size]; omega)]
  simp

theorem text_at {s : ByteArray} {j k : Nat} (h : k < s.size) (hj : j + 1 ≤ k) : ((toL s).drop (j + 1))[k - (j + 1)]? = some s[k] := by
  have h' : k < (toL s).length := by rw [toL_size]; exact h
  rw [List.getElem?_drop, show j + 1 + (k - (j + 1)) = k by omega, List.getElem?_eq_getElem h']
  rfl

set_option maxRecDepth 100000 in
set_option maxHeartbeats 6400000 in
theorem l2one_text (s : ByteArray) (j : Nat) (w : World) (hs : s.size ≤ 1048576) (hj : j < s.size) (hq : (s[j].toNat : Int) = 34) :
    Calls Tryz.prog 28 #[.string s, .int .i64 j] w fun e w' => onAns j (oneText ((toL s).drop (j + 1))) e ∧ Below w.heap.size w w' := by
  have ij : (j : Int) < (s.size : Int) := by omega
  obtain ⟨W, hW, R0, R1, B0, z0⟩ := one_start w j
  go_enter Tryz.func28, Tryz.ntmps28
  go_wp2_with (first | (go_at_call 46; refine (l2letter_any _ _).mono ?_; rintro e w' ⟨rfl, hw⟩; rw [show ltI 34 = false from by decide, hw]; clear hw) | (go_at_call 49; refine (l2digit_any _ _).mono ?_; rintro e w' ⟨rfl, hw⟩; rw [show dgI 34 = false from by decide, hw]; clear hw))
  clear hW
  obtain ⟨c0, c1, c2, c3, cf⟩ := row4 R1
  obtain ⟨d0, d1, d2, d3, df⟩ := row4 R0
  go_loop [13] (fun i => ∃ k : Nat, j + 1 ≤ k ∧ k ≤ s.size ∧ i = .int .i64 k ∧ endS nmB s (j + 1) = endS nmB s k) (fun i => s.size - (intOf i).toNat)
  case atStart => exact ⟨j + 1, Nat.le_refl _, hj, by go_num, rfl⟩
  case round =>
    obtain ⟨k, hjk, hk, rfl, he⟩ := hrel
    have He := hide he
    clear he
    have stop : ∀ (hq : endS nmB s k = k), endS nmB s (j + 1) = k := fun hq => by rw [unhide He, hq]
    by_cases hlt : k < s.size
    · have ilt : (k : Int) < (s.size : Int) := by omega
      cases hn : nmB s[k]
      · have HR := hide (show runL nmB ((toL s).drop (j + 1)) = k - (j + 1) by have := stop (endS_stop hlt hn); have := endS_runL nmB s (j + 1); omega)
        have H1 := hide (show nmI (s[k].toNat : Int) = false from hn)
        have HA := hide (text_at hlt hjk)
        clear hn stop
        by_cases h34 : (s[k].toNat : Int) = 34
        · have HB := hide (show s[k] = 34 from UInt8.toNat_inj.1 (by have : (34 : UInt8).toNat = 34 := rfl; omega))
          by_cases h32 : 32 < k - (j + 1)
          · have i32 : (32 : Int) < (k : Int) - (j : Int) - 1 := by omega
            go_wp2_with (go_at_call 50; refine (l1nameByte_any _ _).mono ?_; rintro e w' ⟨rfl, hw⟩; rw [show nmI 34 = false from by decide, hw]; clear hw)
            have BF := put4_below (b := w.heap.size) (B0.setCell (p := ⟨w.heap.size + 1, 0, none⟩) (by show w.heap.size ≤ w.heap.size + 1; omega) (.int .i64 2)) (Nat.le_refl _) (.int .i64 2) (.int .i64 0) (.string ⟨#[]⟩) (.int .i64 j)
            obtain ⟨g0, g1, g2, g3, _⟩ := row4 (put4_row (R0.setFar (p := ⟨w.heap.size + 1, 0, none⟩) (by show w.heap.size ≠ w.heap.size + 1; omega) (.int .i64 2)) (.int .i64 2) (.int .i64 0) (.string ⟨#[]⟩) (.int .i64 j))
            simp only [put4] at g0 g1 g2 g3
            refine bodyPost_ret (res_tok3 Tryz.results28 rfl g0 g1 g2 g3) rfl ⟨?_, BF⟩
            rw [oneText, if_pos (.inl (by rw [unhide HR]; exact h32))]
            exact ⟨_, _, _, _, rfl⟩
          · have i32 : ¬ ((32 : Int) < (k : Int) - (j : Int) - 1) := by omega
            go_wp2_with (go_at_call 50; refine (l1nameByte_any _ _).mono ?_; rintro e w' ⟨rfl, hw⟩; rw [show nmI 34 = false from by decide, hw]; clear hw)
            have BF := put4_below (b := w.heap.size) ((B0.setCell (p := ⟨w.heap.size + 1, 0, none⟩) (by show w.heap.size ≤ w.heap.size + 1; omega) (.int .i64 2)).setCell (p := ⟨w.heap.size + 1, 2, none⟩) (by show w.heap.size ≤ w.heap.size + 1; omega) (.string (s.extract (j + 1) k))) (Nat.le_refl _) (.int .i64 2) (.int .i64 0) (.string (s.extract (j + 1) k)) (.int .i64 j)
            obtain ⟨g0, g1, g2, g3, _⟩ := row4 (put4_row ((R0.setFar (p := ⟨w.heap.size + 1, 0, none⟩) (by show w.heap.size ≠ w.heap.size + 1; omega) (.int .i64 2)).setFar (p := ⟨w.heap.size + 1, 2, none⟩) (by show w.heap.size ≠ w.heap.size + 1; omega) (.string (s.extract (j + 1) k))) (.int .i64 2) (.int .i64 0) (.string (s.extract (j + 1) k)) (.int .i64 j))
            simp only [put4] at g0 g1 g2 g3
            refine bodyPost_ret (res_tok3 Tryz.results28 rfl g0 g1 g2 g3) rfl ⟨?_, BF⟩
            rw [oneText, unhide HR, unhide HA, if_neg (by rintro (h | h); omega; exact h (by rw [unhide HB])), ext_ofL]
            simp only [onAns]
            rw [show ((j + (k - (j + 1) + 2) : Nat) : Int) = (k : Int) + 1 by omega]; rfl
        · have e34 := beq_eq_false_iff_ne.2 h34
          go_wp2_with (go_at_call 50; refine (l1nameByte_any _ _).mono ?_; rintro e w' ⟨rfl, hw⟩; rw [unhide H1, hw]; clear hw)
          have BF := put4_below (b := w.heap.size) (B0.setCell (p := ⟨w.heap.size + 1, 0, none⟩) (by show w.heap.size ≤ w.heap.size + 1; omega) (.int .i64 2)) (Nat.le_refl _) (.int .i64 2) (.int .i64 0) (.string ⟨#[]⟩) (.int .i64 j)
          obtain ⟨g0, g1, g2, g3, _⟩ := row4 (put4_row (R0.setFar (p := ⟨w.heap.size + 1, 0, none⟩) (by show w.heap.size ≠ w.heap.size + 1; omega) (.int .i64 2)) (.int .i64 2) (.int .i64 0) (.string ⟨#[]⟩) (.int .i64 j))
          simp only [put4] at g0 g1 g2 g3
          refine bodyPost_ret (res_tok3 Tryz.results28 rfl g0 g1 g2 g3) rfl ⟨?_, BF⟩
          rw [oneText, if_pos (.inr (by rw [unhide HR, unhide HA]; exact fun e => h34 (by rw [Option.some.inj e]; rfl)))]
          exact ⟨_, _, _, _, rfl⟩
      · have Hf := hide (endS_step hlt hn)
        have H1 := hide (show nmI (s[k].toNat : Int) = true from hn)
        clear hn
        go_wp2_with (go_at_call 50; refine (l1nameByte_any _ _).mono ?_; rintro e w' ⟨rfl, hw⟩; rw [unhide H1, hw]; clear hw)
        go_round
        case rel => exact ⟨k + 1, by omega, by omega, by go_num, by rw [unhide He, unhide Hf]⟩
        case measure => simp [intOf]; omega
    · have HR := hide (show runL nmB ((toL s).drop (j + 1)) = k - (j + 1) by have := stop (endS_end (by omega)); have := endS_runL nmB s (j + 1); omega)
      have HA := hide (text_end (s := s) (j := j) (k := k) (by omega) hjk)
      have ilt : ¬ ((k : Int) < (s.size : Int)) := by omega
      have ile : (s.size : Int) ≤ (k : Int) := by omega
      go_wp2_with fail
      have BF := put4_below (b := w.heap.size) (B0.setCell (p := ⟨w.heap.size + 1, 0, none⟩) (by show w.heap.size ≤ w.heap.size + 1; omega) (.int .i64 2)) (Nat.le_refl _) (.int .i64 2) (.int .i64 0) (.string ⟨#[]⟩) (.int .i64 j)
      obtain ⟨g0, g1, g2, g3, _⟩ := row4 (put4_row (R0.setFar (p := ⟨w.heap.size + 1, 0, none⟩) (by show w.heap.size ≠ w.heap.size + 1; omega) (.int .i64 2)) (.int .i64 2) (.int .i64 0) (.string ⟨#[]⟩) (.int .i64 j))
      simp only [put4] at g0 g1 g2 g3
      refine bodyPost_ret (res_tok3 Tryz.results28 rfl g0 g1 g2 g3) rfl ⟨?_, BF⟩
      rw [oneText, if_pos (.inr (by rw [unhide HR]; exact unhide HA))]
      exact ⟨_, _, _, _, rfl⟩

end Go.Proofs.YtcehablmloleaaaGreatDoor

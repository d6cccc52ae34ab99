/-
  The walk over the model's l2one: numbers. Own work.
-/
import Derived.Test.YtcehablmloleaaaGreatDoorMXAN
namespace Go.Proofs.YtcehablmloleaaaGreatDoor
open Go.RowKit
set_option linter.unusedVariables false

theorem mem_toL {x : ByteArray} {q : Nat} (h : q < x.size) : x[q] ∈ toL x := by
  have h' : q < (toL x).length := by rw [toL_size]; exact h
  exact List.getElem_mem (l := toL x) h'

theorem follows_at {s : ByteArray} {j k : Nat} (h : k < s.size) (hj : j ≤ k) : follows ((toL s).drop j) (k - j) = (ltB s[k] || decide (s[k] = 95)) := by
  have e : ((toL s).drop j)[k - j]? = some s[k] := by
    have h' : k < (toL s).length := by rw [toL_size]; exact h
    rw [List.getElem?_drop, show j + (k - j) = k by omega, List.getElem?_eq_getElem h']
    rfl
  rw [follows, e]

theorem follows_end {s : ByteArray} {j k : Nat} (h : s.size ≤ k) : follows ((toL s).drop j) (k - j) = false := by
  have e : ((toL s).drop j)[k - j]? = none := by
    rw [List.getElem?_eq_none]
    rw [List.length_drop, toL_size]; omega
  rw [follows, e]

theorem byte95 {c : UInt8} (h : (c.toNat : Int) = 95) : c = 95 := UInt8.toNat_inj.1 (by have : (95 : UInt8).toNat = 95 := rfl; omega)
theorem byte95n {c : UInt8} (h : ¬ (c.toNat : Int) = 95) : ¬ c = 95 := fun e => h (by rw [e]; rfl)

theorem num_iff {r : List UInt8} {n : Nat} (hr : runL dgB r = n) (hn : n = 19) : (r.take n < maxT ↔ lvV (r.take n) < 9223372036854775807) ∧ (maxT < r.take n ↔ 9223372036854775807 < lvV (r.take n)) := by
  have h := runL_le dgB r
  have hl : (r.take n).length = maxT.length := by
    rw [List.length_take]
    show _ = 19
    omega
  have ha : (r.take n).all dgB = true := by rw [← hr]; exact runL_all dgB r
  have hm : maxT.all dgB = true := by decide
  have h1 := lvV_lt _ _ hl ha hm
  have h2 := lvV_lt _ _ hl.symm hm ha
  rw [maxT_v] at h1 h2
  exact ⟨h1, h2⟩

theorem bl_iff {x : ByteArray} {l : List UInt8} (hx : toL x = l) : Op.bytesLess x.toList [57, 50, 50, 51, 51, 55, 50, 48, 51, 54, 56, 53, 52, 55, 55, 53, 56, 48, 55] = true ↔ l < maxT := by
  have h0 : Op.bytesLess x.toList [57, 50, 50, 51, 51, 55, 50, 48, 51, 54, 56, 53, 52, 55, 55, 53, 56, 48, 55] = sl x (ofL maxT) := by
    unfold sl
    rw [ByteArray.toList_eq (ofL maxT)]
    rfl
  rw [h0, sl_iff, ← hx]
  exact Iff.rfl

theorem num_less {r : List UInt8} {n : Nat} (hr : runL dgB r = n) (hn : n = 19) {x : ByteArray} (hx : toL x = r.take n) (h : Op.bytesLess x.toList [57, 50, 50, 51, 51, 55, 50, 48, 51, 54, 56, 53, 52, 55, 55, 53, 56, 48, 55] = true) : lvV (r.take n) ≤ 9223372036854775807 := by
  have := (num_iff hr hn).1.1 ((bl_iff hx).1 h)
  omega

theorem num_same {r : List UInt8} {n : Nat} {x : ByteArray} (hx : toL x = r.take n) (h : (x.toList == [57, 50, 50, 51, 51, 55, 50, 48, 51, 54, 56, 53, 52, 55, 55, 53, 56, 48, 55]) = true) : lvV (r.take n) ≤ 9223372036854775807 := by
  rw [beq_iff_eq, ByteArray.toList_eq] at h
  have e : toL x = maxT := h
  rw [← hx, e, maxT_v]
  omega

theorem num_great {r : List UInt8} {n : Nat} (hr : runL dgB r = n) (hn : n = 19) {x : ByteArray} (hx : toL x = r.take n) (h : Op.bytesLess x.toList [57, 50, 50, 51, 51, 55, 50, 48, 51, 54, 56, 53, 52, 55, 55, 53, 56, 48, 55] = false)
    (h' : (x.toList == [57, 50, 50, 51, 51, 55, 50, 48, 51, 54, 56, 53, 52, 55, 55, 53, 56, 48, 55]) = false) : 9223372036854775807 < lvV (r.take n) := by
  refine (num_iff hr hn).2.1 ?_
  have h1 : ¬ r.take n < maxT := fun k => by rw [(bl_iff hx).2 k] at h; cases h
  rw [beq_eq_false_iff_ne, ByteArray.toList_eq] at h'
  have h2 : r.take n ≠ maxT := fun k => h' (hx.trans k)
  rcases List.le_iff_lt_or_eq.1 (List.not_lt.1 h1) with k | k
  · exact k
  · exact absurd k.symm h2

theorem num_short {r : List UInt8} {n : Nat} (hr : runL dgB r = n) (hn : n ≤ 18) : lvV (r.take n) ≤ 9223372036854775807 := by
  have := runL_le dgB r
  have hb := lvV_bound n (r.take n) (by rw [List.length_take]; omega) (by rw [← hr]; exact runL_all dgB r)
  have h1 : 10 ^ n ≤ 10 ^ 18 := Nat.pow_le_pow_right (n := 10) (by decide) hn
  have e1 : 10 ^ 18 = 1000000000000000000 := rfl
  have h2 : (10 : Int) ^ n ≤ 1000000000000000000 := by
    show ((10 : Nat) : Int) ^ n ≤ _
    rw [← Int.natCast_pow]
    omega
  omega

set_option maxRecDepth 100000 in
set_option maxHeartbeats 6400000 in
theorem l2one_num (s : ByteArray) (j : Nat) (w : World) (hs : s.size ≤ 1048576) (hj : j < s.size) (hl : ltI (s[j].toNat : Int) = false) (hd : dgI (s[j].toNat : Int) = true) :
    Calls Tryz.prog 28 #[.string s, .int .i64 j] w fun e w' => onAns j (oneNum ((toL s).drop j)) e ∧ Below w.heap.size w w' := by
  have ij : (j : Int) < (s.size : Int) := by omega
  obtain ⟨hE1, hE2⟩ := endS_le (p := dgB) (s := s) (Nat.le_of_lt hj)
  have HE := hide (endS_runL dgB s j)
  obtain ⟨W, hW, R0, R1, B0, z0⟩ := one_start w j
  have Hl := hide hl
  have Hd := hide hd
  clear hl hd
  go_enter Tryz.func28, Tryz.ntmps28
  go_wp2_with (first | (go_at_call 46; refine (l2letter_any _ _).mono ?_; rintro e w' ⟨rfl, hw⟩; rw [unhide Hl, hw]; clear hw) | (go_at_call 49; refine (l2digit_any _ _).mono ?_; rintro e w' ⟨rfl, hw⟩; rw [unhide Hd, hw]; clear hw))
  clear hW
  go_loop [10] (fun i => ∃ k : Nat, j ≤ k ∧ k ≤ s.size ∧ i = .int .i64 k ∧ endS dgB s j = endS dgB s k) (fun i => s.size - (intOf i).toNat)
  case atStart => exact ⟨j, Nat.le_refl _, Nat.le_of_lt hj, rfl, rfl⟩
  case round =>
    obtain ⟨k, hjk, hk, rfl, he⟩ := hrel
    have He := hide he
    clear he
    have stop : ∀ (hq : endS dgB s k = k), endS dgB s j = k := fun hq => by rw [unhide He, hq]
    obtain ⟨c0, c1, c2, c3, cf⟩ := row4 R1
    obtain ⟨d0, d1, d2, d3, df⟩ := row4 R0
    by_cases hlt : k < s.size
    · have ilt : (k : Int) < (s.size : Int) := by omega
      cases hn : dgB s[k]
      · have HR := hide (show runL dgB ((toL s).drop j) = k - j by have := stop (endS_stop hlt hn); have := endS_runL dgB s j; omega)
        have H1 := hide (show dgI (s[k].toNat : Int) = false from hn)
        have HF := hide (follows_at hlt hjk)
        clear hn stop
        by_cases h19 : 19 < k - j
        · have i19 : (19 : Int) < (k : Int) - (j : Int) := by omega
          go_wp2_with (first | (go_at_call 49; refine (l2digit_any _ _).mono ?_; rintro e w' ⟨rfl, hw⟩; rw [unhide H1, hw]; clear hw) | (go_at_call 46; refine (l2letter_any _ _).mono ?_; rintro e w' ⟨rfl, hw⟩; rw [unhide H1, hw]; clear hw))
          have BF := put4_below (b := w.heap.size) (B0.setCell (p := ⟨w.heap.size + 1, 0, none⟩) (by show w.heap.size ≤ w.heap.size + 1; omega) (.int .i64 1)) (Nat.le_refl _) (.int .i64 1) (.int .i64 0) (.string ⟨#[]⟩) (.int .i64 j)
          obtain ⟨g0, g1, g2, g3, _⟩ := row4 (put4_row (R0.setFar (p := ⟨w.heap.size + 1, 0, none⟩) (by show w.heap.size ≠ w.heap.size + 1; omega) (.int .i64 1)) (.int .i64 1) (.int .i64 0) (.string ⟨#[]⟩) (.int .i64 j))
          simp only [put4] at g0 g1 g2 g3
          refine bodyPost_ret (res_tok3 Tryz.results28 rfl g0 g1 g2 g3) rfl ⟨?_, BF⟩
          rw [oneNum, if_pos (.inl (by rw [unhide HR]; exact h19))]
          exact ⟨_, _, _, _, rfl⟩
        have i19 : ¬ ((19 : Int) < (k : Int) - (j : Int)) := by omega
        cases hL : ltI (s[k].toNat : Int)
        · have HL := hide hL
          by_cases h95 : (s[k].toNat : Int) = 95
          · have Hfl := hide (show follows ((toL s).drop j) (k - j) = true by rw [unhide HF]; simp [ltB, byte95 h95])
            clear hL
            go_wp2_with (first | (go_at_call 49; refine (l2digit_any _ _).mono ?_; rintro e w' ⟨rfl, hw⟩; rw [show dgI 95 = false from by decide, hw]; clear hw) | (go_at_call 46; refine (l2letter_any _ _).mono ?_; rintro e w' ⟨rfl, hw⟩; rw [show ltI 95 = false from by decide, hw]; clear hw))
            have BF := put4_below (b := w.heap.size) (B0.setCell (p := ⟨w.heap.size + 1, 0, none⟩) (by show w.heap.size ≤ w.heap.size + 1; omega) (.int .i64 1)) (Nat.le_refl _) (.int .i64 1) (.int .i64 0) (.string ⟨#[]⟩) (.int .i64 j)
            obtain ⟨g0, g1, g2, g3, _⟩ := row4 (put4_row (R0.setFar (p := ⟨w.heap.size + 1, 0, none⟩) (by show w.heap.size ≠ w.heap.size + 1; omega) (.int .i64 1)) (.int .i64 1) (.int .i64 0) (.string ⟨#[]⟩) (.int .i64 j))
            simp only [put4] at g0 g1 g2 g3
            refine bodyPost_ret (res_tok3 Tryz.results28 rfl g0 g1 g2 g3) rfl ⟨?_, BF⟩
            rw [oneNum, if_pos (.inr (.inl (by rw [unhide HR]; exact unhide Hfl)))]
            exact ⟨_, _, _, _, rfl⟩
          · have Hfl := hide (show follows ((toL s).drop j) (k - j) = false by rw [unhide HF]; simp [ltB, hL, byte95n h95])
            have e95 := beq_eq_false_iff_ne.2 h95
            clear hL
            have hxs : (s.extract j k).size = k - j := by rw [ByteArray.size_extract]; omega
            have Hx := hide (toL_extract s j k)
            by_cases h19 : k - j = 19
            · have e19 : (((k - j : Nat) : Int) == 19) = true := by rw [h19]; rfl
              cases hv1 : Op.bytesLess (s.extract j k).toList [57, 50, 50, 51, 51, 55, 50, 48, 51, 54, 56, 53, 52, 55, 55, 53, 56, 48, 55]
              · cases hv2 : ((s.extract j k).toList == [57, 50, 50, 51, 51, 55, 50, 48, 51, 54, 56, 53, 52, 55, 55, 53, 56, 48, 55])
                · have Hbig := hide (show 9223372036854775807 < lvV (((toL s).drop j).take (k - j)) from num_great (unhide HR) h19 (unhide Hx) hv1 hv2)
                  go_wp2_with (first | (go_at_call 49; refine (l2digit_any _ _).mono ?_; rintro e w' ⟨rfl, hw⟩; rw [unhide H1, hw]; clear hw) | (go_at_call 46; refine (l2letter_any _ _).mono ?_; rintro e w' ⟨rfl, hw⟩; rw [unhide HL, hw]; clear hw))
                  have BF := put4_below (b := w.heap.size) (B0.setCell (p := ⟨w.heap.size + 1, 0, none⟩) (by show w.heap.size ≤ w.heap.size + 1; omega) (.int .i64 1)) (Nat.le_refl _) (.int .i64 1) (.int .i64 0) (.string ⟨#[]⟩) (.int .i64 j)
                  obtain ⟨g0, g1, g2, g3, _⟩ := row4 (put4_row (R0.setFar (p := ⟨w.heap.size + 1, 0, none⟩) (by show w.heap.size ≠ w.heap.size + 1; omega) (.int .i64 1)) (.int .i64 1) (.int .i64 0) (.string ⟨#[]⟩) (.int .i64 j))
                  simp only [put4] at g0 g1 g2 g3
                  refine bodyPost_ret (res_tok3 Tryz.results28 rfl g0 g1 g2 g3) rfl ⟨?_, BF⟩
                  rw [oneNum, if_pos (.inr (.inr (by rw [unhide HR]; exact unhide Hbig)))]
                  exact ⟨_, _, _, _, rfl⟩
                · have Hok := hide (show lvV (((toL s).drop j).take (k - j)) ≤ 9223372036854775807 from num_same (unhide Hx) hv2)
                  go_wp2_with (first | (go_at_call 49; refine (l2digit_any _ _).mono ?_; rintro e w' ⟨rfl, hw⟩; rw [unhide H1, hw]; clear hw) | (go_at_call 46; refine (l2letter_any _ _).mono ?_; rintro e w' ⟨rfl, hw⟩; rw [unhide HL, hw]; clear hw))
                  generalize s.extract j k = x at *
                  have Hall := hide (show (toL x).all dgB = true by rw [unhide Hx, ← unhide HR]; exact runL_all dgB _)
                  have Hmx := hide (show lvV (toL x) ≤ 9223372036854775807 by rw [unhide Hx]; exact unhide Hok)
                  go_loopw [12] (fun i wr => ∃ (q : Nat) (v : Int), q ≤ k - j ∧ i = .int .i64 q ∧ v = lvV ((toL x).take q) ∧ Row wr w.heap.size #[.int .i64 0, .int .i64 0, .string ⟨#[]⟩, .int .i64 0] 42 ∧ Row wr (w.heap.size + 1) #[.int .i64 1, .int .i64 v, .string ⟨#[]⟩, .int .i64 j] 42 ∧ Below w.heap.size w wr) (fun i _ => (k - j) - (intOf i).toNat)
                  case atStart => exact ⟨0, 0, Nat.zero_le _, rfl, rfl, R0.setFar (p := ⟨w.heap.size + 1, 0, none⟩) (by show w.heap.size ≠ w.heap.size + 1; omega) (.int .i64 1), R1.set 0 (.int .i64 1), B0.setCell (p := ⟨w.heap.size + 1, 0, none⟩) (by show w.heap.size ≤ w.heap.size + 1; omega) (.int .i64 1)⟩
                  case round =>
                    obtain ⟨q, v, hq, rfl, hv, Q0, Q1, QB⟩ := hrel
                    clear c0 c1 c2 c3 cf d0 d1 d2 d3 df R0 R1 B0
                    obtain ⟨c0, c1, c2, c3, cf⟩ := row4 Q1
                    obtain ⟨d0, d1, d2, d3, df⟩ := row4 Q0
                    by_cases hql : q < k - j
                    · have hqx : q < x.size := by omega
                      have iq : (q : Int) < ((k - j : Nat) : Int) := by omega
                      have hdg : dgB x[q] = true := List.all_eq_true.1 (unhide Hall) _ (mem_toL hqx)
                      obtain ⟨b1, b2⟩ := (dgB_iff _).1 hdg
                      have hstep : v * 10 + ((x[q].toNat : Int) - 48) = lvV ((toL x).take (q + 1)) := by rw [toL, take_snoc x q hqx, lvV_snoc, ← toL, ← hv]
                      have hle := lvV_take_le (q + 1) (toL x) (unhide Hall)
                      have hv0 := (lvV_take_le q (toL x) (unhide Hall)).1
                      have hmx := unhide Hmx
                      have m1 : 0 ≤ v := by omega
                      have m2 : v * 10 + ((x[q].toNat : Int) - 48) ≤ 9223372036854775807 := by omega
                      have Hv := hide hstep
                      clear hstep hle hv0 hmx hv hdg
                      go_wp2
                      go_region
                      go_wp2
                      go_roundw
                      case rel => exact ⟨q + 1, v * 10 + ((x[q].toNat : Int) - 48), by omega, by go_num, unhide Hv, ⟨(Q0.setFar (p := ⟨w.heap.size + 1, 1, none⟩) (by show w.heap.size ≠ w.heap.size + 1; omega) (.int .i64 (v * 10 + ((x[q].toNat : Int) - 48)))).out⟩, ⟨(Q1.set 1 (.int .i64 (v * 10 + ((x[q].toNat : Int) - 48)))).out⟩, (QB.setCell (p := ⟨w.heap.size + 1, 1, none⟩) (by show w.heap.size ≤ w.heap.size + 1; omega) (.int .i64 (v * 10 + ((x[q].toNat : Int) - 48)))).drew⟩
                      case measure => simp [intOf]; omega
                    · have iq : ¬ ((q : Int) < ((k - j : Nat) : Int)) := by omega
                      have Hv := hide (show v = lvV (((toL s).drop j).take (k - j)) by rw [hv, ← unhide Hx, List.take_of_length_le (by rw [toL_size]; omega)])
                      clear hv
                      go_wp2_with fail
                      have BF := put4_below (b := w.heap.size) QB (Nat.le_refl _) (.int .i64 1) (.int .i64 v) (.string ⟨#[]⟩) (.int .i64 j)
                      obtain ⟨g0, g1, g2, g3, _⟩ := row4 (put4_row Q0 (.int .i64 1) (.int .i64 v) (.string ⟨#[]⟩) (.int .i64 j))
                      simp only [put4] at g0 g1 g2 g3
                      refine bodyPost_ret (res_tok3 Tryz.results28 rfl g0 g1 g2 g3) rfl ⟨?_, BF⟩
                      rw [oneNum, unhide HR, if_neg (by rintro (h | h | h); omega; rw [unhide Hfl] at h; cases h; have := unhide Hok; omega), ← unhide Hv]
                      simp only [onAns]
                      rw [show j + (k - j) = k by omega]; rfl
              · have Hok := hide (show lvV (((toL s).drop j).take (k - j)) ≤ 9223372036854775807 from num_less (unhide HR) h19 (unhide Hx) hv1)
                go_wp2_with (first | (go_at_call 49; refine (l2digit_any _ _).mono ?_; rintro e w' ⟨rfl, hw⟩; rw [unhide H1, hw]; clear hw) | (go_at_call 46; refine (l2letter_any _ _).mono ?_; rintro e w' ⟨rfl, hw⟩; rw [unhide HL, hw]; clear hw))
                generalize s.extract j k = x at *
                have Hall := hide (show (toL x).all dgB = true by rw [unhide Hx, ← unhide HR]; exact runL_all dgB _)
                have Hmx := hide (show lvV (toL x) ≤ 9223372036854775807 by rw [unhide Hx]; exact unhide Hok)
                go_loopw [12] (fun i wr => ∃ (q : Nat) (v : Int), q ≤ k - j ∧ i = .int .i64 q ∧ v = lvV ((toL x).take q) ∧ Row wr w.heap.size #[.int .i64 0, .int .i64 0, .string ⟨#[]⟩, .int .i64 0] 42 ∧ Row wr (w.heap.size + 1) #[.int .i64 1, .int .i64 v, .string ⟨#[]⟩, .int .i64 j] 42 ∧ Below w.heap.size w wr) (fun i _ => (k - j) - (intOf i).toNat)
                case atStart => exact ⟨0, 0, Nat.zero_le _, rfl, rfl, R0.setFar (p := ⟨w.heap.size + 1, 0, none⟩) (by show w.heap.size ≠ w.heap.size + 1; omega) (.int .i64 1), R1.set 0 (.int .i64 1), B0.setCell (p := ⟨w.heap.size + 1, 0, none⟩) (by show w.heap.size ≤ w.heap.size + 1; omega) (.int .i64 1)⟩
                case round =>
                  obtain ⟨q, v, hq, rfl, hv, Q0, Q1, QB⟩ := hrel
                  clear c0 c1 c2 c3 cf d0 d1 d2 d3 df R0 R1 B0
                  obtain ⟨c0, c1, c2, c3, cf⟩ := row4 Q1
                  obtain ⟨d0, d1, d2, d3, df⟩ := row4 Q0
                  by_cases hql : q < k - j
                  · have hqx : q < x.size := by omega
                    have iq : (q : Int) < ((k - j : Nat) : Int) := by omega
                    have hdg : dgB x[q] = true := List.all_eq_true.1 (unhide Hall) _ (mem_toL hqx)
                    obtain ⟨b1, b2⟩ := (dgB_iff _).1 hdg
                    have hstep : v * 10 + ((x[q].toNat : Int) - 48) = lvV ((toL x).take (q + 1)) := by rw [toL, take_snoc x q hqx, lvV_snoc, ← toL, ← hv]
                    have hle := lvV_take_le (q + 1) (toL x) (unhide Hall)
                    have hv0 := (lvV_take_le q (toL x) (unhide Hall)).1
                    have hmx := unhide Hmx
                    have m1 : 0 ≤ v := by omega
                    have m2 : v * 10 + ((x[q].toNat : Int) - 48) ≤ 9223372036854775807 := by omega
                    have Hv := hide hstep
                    clear hstep hle hv0 hmx hv hdg
                    go_wp2
                    go_region
                    go_wp2
                    go_roundw
                    case rel => exact ⟨q + 1, v * 10 + ((x[q].toNat : Int) - 48), by omega, by go_num, unhide Hv, ⟨(Q0.setFar (p := ⟨w.heap.size + 1, 1, none⟩) (by show w.heap.size ≠ w.heap.size + 1; omega) (.int .i64 (v * 10 + ((x[q].toNat : Int) - 48)))).out⟩, ⟨(Q1.set 1 (.int .i64 (v * 10 + ((x[q].toNat : Int) - 48)))).out⟩, (QB.setCell (p := ⟨w.heap.size + 1, 1, none⟩) (by show w.heap.size ≤ w.heap.size + 1; omega) (.int .i64 (v * 10 + ((x[q].toNat : Int) - 48)))).drew⟩
                    case measure => simp [intOf]; omega
                  · have iq : ¬ ((q : Int) < ((k - j : Nat) : Int)) := by omega
                    have Hv := hide (show v = lvV (((toL s).drop j).take (k - j)) by rw [hv, ← unhide Hx, List.take_of_length_le (by rw [toL_size]; omega)])
                    clear hv
                    go_wp2_with fail
                    have BF := put4_below (b := w.heap.size) QB (Nat.le_refl _) (.int .i64 1) (.int .i64 v) (.string ⟨#[]⟩) (.int .i64 j)
                    obtain ⟨g0, g1, g2, g3, _⟩ := row4 (put4_row Q0 (.int .i64 1) (.int .i64 v) (.string ⟨#[]⟩) (.int .i64 j))
                    simp only [put4] at g0 g1 g2 g3
                    refine bodyPost_ret (res_tok3 Tryz.results28 rfl g0 g1 g2 g3) rfl ⟨?_, BF⟩
                    rw [oneNum, unhide HR, if_neg (by rintro (h | h | h); omega; rw [unhide Hfl] at h; cases h; have := unhide Hok; omega), ← unhide Hv]
                    simp only [onAns]
                    rw [show j + (k - j) = k by omega]; rfl
            · have e19 : (((k - j : Nat) : Int) == 19) = false := beq_eq_false_iff_ne.2 (by omega)
              have Hok := hide (show lvV (((toL s).drop j).take (k - j)) ≤ 9223372036854775807 from num_short (unhide HR) (by omega))
              go_wp2_with (first | (go_at_call 49; refine (l2digit_any _ _).mono ?_; rintro e w' ⟨rfl, hw⟩; rw [unhide H1, hw]; clear hw) | (go_at_call 46; refine (l2letter_any _ _).mono ?_; rintro e w' ⟨rfl, hw⟩; rw [unhide HL, hw]; clear hw))
              generalize s.extract j k = x at *
              have Hall := hide (show (toL x).all dgB = true by rw [unhide Hx, ← unhide HR]; exact runL_all dgB _)
              have Hmx := hide (show lvV (toL x) ≤ 9223372036854775807 by rw [unhide Hx]; exact unhide Hok)
              go_loopw [12] (fun i wr => ∃ (q : Nat) (v : Int), q ≤ k - j ∧ i = .int .i64 q ∧ v = lvV ((toL x).take q) ∧ Row wr w.heap.size #[.int .i64 0, .int .i64 0, .string ⟨#[]⟩, .int .i64 0] 42 ∧ Row wr (w.heap.size + 1) #[.int .i64 1, .int .i64 v, .string ⟨#[]⟩, .int .i64 j] 42 ∧ Below w.heap.size w wr) (fun i _ => (k - j) - (intOf i).toNat)
              case atStart => exact ⟨0, 0, Nat.zero_le _, rfl, rfl, R0.setFar (p := ⟨w.heap.size + 1, 0, none⟩) (by show w.heap.size ≠ w.heap.size + 1; omega) (.int .i64 1), R1.set 0 (.int .i64 1), B0.setCell (p := ⟨w.heap.size + 1, 0, none⟩) (by show w.heap.size ≤ w.heap.size + 1; omega) (.int .i64 1)⟩
              case round =>
                obtain ⟨q, v, hq, rfl, hv, Q0, Q1, QB⟩ := hrel
                clear c0 c1 c2 c3 cf d0 d1 d2 d3 df R0 R1 B0
                obtain ⟨c0, c1, c2, c3, cf⟩ := row4 Q1
                obtain ⟨d0, d1, d2, d3, df⟩ := row4 Q0
                by_cases hql : q < k - j
                · have hqx : q < x.size := by omega
                  have iq : (q : Int) < ((k - j : Nat) : Int) := by omega
                  have hdg : dgB x[q] = true := List.all_eq_true.1 (unhide Hall) _ (mem_toL hqx)
                  obtain ⟨b1, b2⟩ := (dgB_iff _).1 hdg
                  have hstep : v * 10 + ((x[q].toNat : Int) - 48) = lvV ((toL x).take (q + 1)) := by rw [toL, take_snoc x q hqx, lvV_snoc, ← toL, ← hv]
                  have hle := lvV_take_le (q + 1) (toL x) (unhide Hall)
                  have hv0 := (lvV_take_le q (toL x) (unhide Hall)).1
                  have hmx := unhide Hmx
                  have m1 : 0 ≤ v := by omega
                  have m2 : v * 10 + ((x[q].toNat : Int) - 48) ≤ 9223372036854775807 := by omega
                  have Hv := hide hstep
                  clear hstep hle hv0 hmx hv hdg
                  go_wp2
                  go_region
                  go_wp2
                  go_roundw
                  case rel => exact ⟨q + 1, v * 10 + ((x[q].toNat : Int) - 48), by omega, by go_num, unhide Hv, ⟨(Q0.setFar (p := ⟨w.heap.size + 1, 1, none⟩) (by show w.heap.size ≠ w.heap.size + 1; omega) (.int .i64 (v * 10 + ((x[q].toNat : Int) - 48)))).out⟩, ⟨(Q1.set 1 (.int .i64 (v * 10 + ((x[q].toNat : Int) - 48)))).out⟩, (QB.setCell (p := ⟨w.heap.size + 1, 1, none⟩) (by show w.heap.size ≤ w.heap.size + 1; omega) (.int .i64 (v * 10 + ((x[q].toNat : Int) - 48)))).drew⟩
                  case measure => simp [intOf]; omega
                · have iq : ¬ ((q : Int) < ((k - j : Nat) : Int)) := by omega
                  have Hv := hide (show v = lvV (((toL s).drop j).take (k - j)) by rw [hv, ← unhide Hx, List.take_of_length_le (by rw [toL_size]; omega)])
                  clear hv
                  go_wp2_with fail
                  have BF := put4_below (b := w.heap.size) QB (Nat.le_refl _) (.int .i64 1) (.int .i64 v) (.string ⟨#[]⟩) (.int .i64 j)
                  obtain ⟨g0, g1, g2, g3, _⟩ := row4 (put4_row Q0 (.int .i64 1) (.int .i64 v) (.string ⟨#[]⟩) (.int .i64 j))
                  simp only [put4] at g0 g1 g2 g3
                  refine bodyPost_ret (res_tok3 Tryz.results28 rfl g0 g1 g2 g3) rfl ⟨?_, BF⟩
                  rw [oneNum, unhide HR, if_neg (by rintro (h | h | h); omega; rw [unhide Hfl] at h; cases h; have := unhide Hok; omega), ← unhide Hv]
                  simp only [onAns]
                  rw [show j + (k - j) = k by omega]; rfl
        · have HL := hide hL
          have Hfl := hide (show follows ((toL s).drop j) (k - j) = true by rw [unhide HF]; simp [ltB, hL])
          clear hL
          go_wp2_with (first | (go_at_call 49; refine (l2digit_any _ _).mono ?_; rintro e w' ⟨rfl, hw⟩; rw [unhide H1, hw]; clear hw) | (go_at_call 46; refine (l2letter_any _ _).mono ?_; rintro e w' ⟨rfl, hw⟩; rw [unhide HL, hw]; clear hw))
          have BF := put4_below (b := w.heap.size) (B0.setCell (p := ⟨w.heap.size + 1, 0, none⟩) (by show w.heap.size ≤ w.heap.size + 1; omega) (.int .i64 1)) (Nat.le_refl _) (.int .i64 1) (.int .i64 0) (.string ⟨#[]⟩) (.int .i64 j)
          obtain ⟨g0, g1, g2, g3, _⟩ := row4 (put4_row (R0.setFar (p := ⟨w.heap.size + 1, 0, none⟩) (by show w.heap.size ≠ w.heap.size + 1; omega) (.int .i64 1)) (.int .i64 1) (.int .i64 0) (.string ⟨#[]⟩) (.int .i64 j))
          simp only [put4] at g0 g1 g2 g3
          refine bodyPost_ret (res_tok3 Tryz.results28 rfl g0 g1 g2 g3) rfl ⟨?_, BF⟩
          rw [oneNum, if_pos (.inr (.inl (by rw [unhide HR]; exact unhide Hfl)))]
          exact ⟨_, _, _, _, rfl⟩
      · have Hf := hide (endS_step hlt hn)
        have H1 := hide (show dgI (s[k].toNat : Int) = true from hn)
        clear hn
        go_wp2_with (go_at_call 49; refine (l2digit_any _ _).mono ?_; rintro e w' ⟨rfl, hw⟩; rw [unhide H1, hw]; clear hw)
        go_round
        case rel => exact ⟨k + 1, by omega, by omega, by go_num, by rw [unhide He, unhide Hf]⟩
        case measure => simp [intOf]; omega
    · have HR := hide (show runL dgB ((toL s).drop j) = k - j by have := stop (endS_end (by omega)); have := endS_runL dgB s j; omega)
      have Hfl := hide (show follows ((toL s).drop j) (k - j) = false from follows_end (by omega))
      have ilt : ¬ ((k : Int) < (s.size : Int)) := by omega
      clear stop
      by_cases h19 : 19 < k - j
      · have i19 : (19 : Int) < (k : Int) - (j : Int) := by omega
        go_wp2_with fail
        have BF := put4_below (b := w.heap.size) (B0.setCell (p := ⟨w.heap.size + 1, 0, none⟩) (by show w.heap.size ≤ w.heap.size + 1; omega) (.int .i64 1)) (Nat.le_refl _) (.int .i64 1) (.int .i64 0) (.string ⟨#[]⟩) (.int .i64 j)
        obtain ⟨g0, g1, g2, g3, _⟩ := row4 (put4_row (R0.setFar (p := ⟨w.heap.size + 1, 0, none⟩) (by show w.heap.size ≠ w.heap.size + 1; omega) (.int .i64 1)) (.int .i64 1) (.int .i64 0) (.string ⟨#[]⟩) (.int .i64 j))
        simp only [put4] at g0 g1 g2 g3
        refine bodyPost_ret (res_tok3 Tryz.results28 rfl g0 g1 g2 g3) rfl ⟨?_, BF⟩
        rw [oneNum, if_pos (.inl (by rw [unhide HR]; exact h19))]
        exact ⟨_, _, _, _, rfl⟩
      have i19 : ¬ ((19 : Int) < (k : Int) - (j : Int)) := by omega
      have hxs : (s.extract j k).size = k - j := by rw [ByteArray.size_extract]; omega
      have Hx := hide (toL_extract s j k)
      by_cases h19 : k - j = 19
      · have e19 : (((k - j : Nat) : Int) == 19) = true := by rw [h19]; rfl
        cases hv1 : Op.bytesLess (s.extract j k).toList [57, 50, 50, 51, 51, 55, 50, 48, 51, 54, 56, 53, 52, 55, 55, 53, 56, 48, 55]
        · cases hv2 : ((s.extract j k).toList == [57, 50, 50, 51, 51, 55, 50, 48, 51, 54, 56, 53, 52, 55, 55, 53, 56, 48, 55])
          · have Hbig := hide (show 9223372036854775807 < lvV (((toL s).drop j).take (k - j)) from num_great (unhide HR) h19 (unhide Hx) hv1 hv2)
            go_wp2_with fail
            have BF := put4_below (b := w.heap.size) (B0.setCell (p := ⟨w.heap.size + 1, 0, none⟩) (by show w.heap.size ≤ w.heap.size + 1; omega) (.int .i64 1)) (Nat.le_refl _) (.int .i64 1) (.int .i64 0) (.string ⟨#[]⟩) (.int .i64 j)
            obtain ⟨g0, g1, g2, g3, _⟩ := row4 (put4_row (R0.setFar (p := ⟨w.heap.size + 1, 0, none⟩) (by show w.heap.size ≠ w.heap.size + 1; omega) (.int .i64 1)) (.int .i64 1) (.int .i64 0) (.string ⟨#[]⟩) (.int .i64 j))
            simp only [put4] at g0 g1 g2 g3
            refine bodyPost_ret (res_tok3 Tryz.results28 rfl g0 g1 g2 g3) rfl ⟨?_, BF⟩
            rw [oneNum, if_pos (.inr (.inr (by rw [unhide HR]; exact unhide Hbig)))]
            exact ⟨_, _, _, _, rfl⟩
          · have Hok := hide (show lvV (((toL s).drop j).take (k - j)) ≤ 9223372036854775807 from num_same (unhide Hx) hv2)
            go_wp2_with fail
            generalize s.extract j k = x at *
            have Hall := hide (show (toL x).all dgB = true by rw [unhide Hx, ← unhide HR]; exact runL_all dgB _)
            have Hmx := hide (show lvV (toL x) ≤ 9223372036854775807 by rw [unhide Hx]; exact unhide Hok)
            go_loopw [12] (fun i wr => ∃ (q : Nat) (v : Int), q ≤ k - j ∧ i = .int .i64 q ∧ v = lvV ((toL x).take q) ∧ Row wr w.heap.size #[.int .i64 0, .int .i64 0, .string ⟨#[]⟩, .int .i64 0] 42 ∧ Row wr (w.heap.size + 1) #[.int .i64 1, .int .i64 v, .string ⟨#[]⟩, .int .i64 j] 42 ∧ Below w.heap.size w wr) (fun i _ => (k - j) - (intOf i).toNat)
            case atStart => exact ⟨0, 0, Nat.zero_le _, rfl, rfl, R0.setFar (p := ⟨w.heap.size + 1, 0, none⟩) (by show w.heap.size ≠ w.heap.size + 1; omega) (.int .i64 1), R1.set 0 (.int .i64 1), B0.setCell (p := ⟨w.heap.size + 1, 0, none⟩) (by show w.heap.size ≤ w.heap.size + 1; omega) (.int .i64 1)⟩
            case round =>
              obtain ⟨q, v, hq, rfl, hv, Q0, Q1, QB⟩ := hrel
              clear c0 c1 c2 c3 cf d0 d1 d2 d3 df R0 R1 B0
              obtain ⟨c0, c1, c2, c3, cf⟩ := row4 Q1
              obtain ⟨d0, d1, d2, d3, df⟩ := row4 Q0
              by_cases hql : q < k - j
              · have hqx : q < x.size := by omega
                have iq : (q : Int) < ((k - j : Nat) : Int) := by omega
                have hdg : dgB x[q] = true := List.all_eq_true.1 (unhide Hall) _ (mem_toL hqx)
                obtain ⟨b1, b2⟩ := (dgB_iff _).1 hdg
                have hstep : v * 10 + ((x[q].toNat : Int) - 48) = lvV ((toL x).take (q + 1)) := by rw [toL, take_snoc x q hqx, lvV_snoc, ← toL, ← hv]
                have hle := lvV_take_le (q + 1) (toL x) (unhide Hall)
                have hv0 := (lvV_take_le q (toL x) (unhide Hall)).1
                have hmx := unhide Hmx
                have m1 : 0 ≤ v := by omega
                have m2 : v * 10 + ((x[q].toNat : Int) - 48) ≤ 9223372036854775807 := by omega
                have Hv := hide hstep
                clear hstep hle hv0 hmx hv hdg
                go_wp2
                go_region
                go_wp2
                go_roundw
                case rel => exact ⟨q + 1, v * 10 + ((x[q].toNat : Int) - 48), by omega, by go_num, unhide Hv, ⟨(Q0.setFar (p := ⟨w.heap.size + 1, 1, none⟩) (by show w.heap.size ≠ w.heap.size + 1; omega) (.int .i64 (v * 10 + ((x[q].toNat : Int) - 48)))).out⟩, ⟨(Q1.set 1 (.int .i64 (v * 10 + ((x[q].toNat : Int) - 48)))).out⟩, (QB.setCell (p := ⟨w.heap.size + 1, 1, none⟩) (by show w.heap.size ≤ w.heap.size + 1; omega) (.int .i64 (v * 10 + ((x[q].toNat : Int) - 48)))).drew⟩
                case measure => simp [intOf]; omega
              · have iq : ¬ ((q : Int) < ((k - j : Nat) : Int)) := by omega
                have Hv := hide (show v = lvV (((toL s).drop j).take (k - j)) by rw [hv, ← unhide Hx, List.take_of_length_le (by rw [toL_size]; omega)])
                clear hv
                go_wp2_with fail
                have BF := put4_below (b := w.heap.size) QB (Nat.le_refl _) (.int .i64 1) (.int .i64 v) (.string ⟨#[]⟩) (.int .i64 j)
                obtain ⟨g0, g1, g2, g3, _⟩ := row4 (put4_row Q0 (.int .i64 1) (.int .i64 v) (.string ⟨#[]⟩) (.int .i64 j))
                simp only [put4] at g0 g1 g2 g3
                refine bodyPost_ret (res_tok3 Tryz.results28 rfl g0 g1 g2 g3) rfl ⟨?_, BF⟩
                rw [oneNum, unhide HR, if_neg (by rintro (h | h | h); omega; rw [unhide Hfl] at h; cases h; have := unhide Hok; omega), ← unhide Hv]
                simp only [onAns]
                rw [show j + (k - j) = k by omega]; rfl
        · have Hok := hide (show lvV (((toL s).drop j).take (k - j)) ≤ 9223372036854775807 from num_less (unhide HR) h19 (unhide Hx) hv1)
          go_wp2_with fail
          generalize s.extract j k = x at *
          have Hall := hide (show (toL x).all dgB = true by rw [unhide Hx, ← unhide HR]; exact runL_all dgB _)
          have Hmx := hide (show lvV (toL x) ≤ 9223372036854775807 by rw [unhide Hx]; exact unhide Hok)
          go_loopw [12] (fun i wr => ∃ (q : Nat) (v : Int), q ≤ k - j ∧ i = .int .i64 q ∧ v = lvV ((toL x).take q) ∧ Row wr w.heap.size #[.int .i64 0, .int .i64 0, .string ⟨#[]⟩, .int .i64 0] 42 ∧ Row wr (w.heap.size + 1) #[.int .i64 1, .int .i64 v, .string ⟨#[]⟩, .int .i64 j] 42 ∧ Below w.heap.size w wr) (fun i _ => (k - j) - (intOf i).toNat)
          case atStart => exact ⟨0, 0, Nat.zero_le _, rfl, rfl, R0.setFar (p := ⟨w.heap.size + 1, 0, none⟩) (by show w.heap.size ≠ w.heap.size + 1; omega) (.int .i64 1), R1.set 0 (.int .i64 1), B0.setCell (p := ⟨w.heap.size + 1, 0, none⟩) (by show w.heap.size ≤ w.heap.size + 1; omega) (.int .i64 1)⟩
          case round =>
            obtain ⟨q, v, hq, rfl, hv, Q0, Q1, QB⟩ := hrel
            clear c0 c1 c2 c3 cf d0 d1 d2 d3 df R0 R1 B0
            obtain ⟨c0, c1, c2, c3, cf⟩ := row4 Q1
            obtain ⟨d0, d1, d2, d3, df⟩ := row4 Q0
            by_cases hql : q < k - j
            · have hqx : q < x.size := by omega
              have iq : (q : Int) < ((k - j : Nat) : Int) := by omega
              have hdg : dgB x[q] = true := List.all_eq_true.1 (unhide Hall) _ (mem_toL hqx)
              obtain ⟨b1, b2⟩ := (dgB_iff _).1 hdg
              have hstep : v * 10 + ((x[q].toNat : Int) - 48) = lvV ((toL x).take (q + 1)) := by rw [toL, take_snoc x q hqx, lvV_snoc, ← toL, ← hv]
              have hle := lvV_take_le (q + 1) (toL x) (unhide Hall)
              have hv0 := (lvV_take_le q (toL x) (unhide Hall)).1
              have hmx := unhide Hmx
              have m1 : 0 ≤ v := by omega
              have m2 : v * 10 + ((x[q].toNat : Int) - 48) ≤ 9223372036854775807 := by omega
              have Hv := hide hstep
              clear hstep hle hv0 hmx hv hdg
              go_wp2
              go_region
              go_wp2
              go_roundw
              case rel => exact ⟨q + 1, v * 10 + ((x[q].toNat : Int) - 48), by omega, by go_num, unhide Hv, ⟨(Q0.setFar (p := ⟨w.heap.size + 1, 1, none⟩) (by show w.heap.size ≠ w.heap.size + 1; omega) (.int .i64 (v * 10 + ((x[q].toNat : Int) - 48)))).out⟩, ⟨(Q1.set 1 (.int .i64 (v * 10 + ((x[q].toNat : Int) - 48)))).out⟩, (QB.setCell (p := ⟨w.heap.size + 1, 1, none⟩) (by show w.heap.size ≤ w.heap.size + 1; omega) (.int .i64 (v * 10 + ((x[q].toNat : Int) - 48)))).drew⟩
              case measure => simp [intOf]; omega
            · have iq : ¬ ((q : Int) < ((k - j : Nat) : Int)) := by omega
              have Hv := hide (show v = lvV (((toL s).drop j).take (k - j)) by rw [hv, ← unhide Hx, List.take_of_length_le (by rw [toL_size]; omega)])
              clear hv
              go_wp2_with fail
              have BF := put4_below (b := w.heap.size) QB (Nat.le_refl _) (.int .i64 1) (.int .i64 v) (.string ⟨#[]⟩) (.int .i64 j)
              obtain ⟨g0, g1, g2, g3, _⟩ := row4 (put4_row Q0 (.int .i64 1) (.int .i64 v) (.string ⟨#[]⟩) (.int .i64 j))
              simp only [put4] at g0 g1 g2 g3
              refine bodyPost_ret (res_tok3 Tryz.results28 rfl g0 g1 g2 g3) rfl ⟨?_, BF⟩
              rw [oneNum, unhide HR, if_neg (by rintro (h | h | h); omega; rw [unhide Hfl] at h; cases h; have := unhide Hok; omega), ← unhide Hv]
              simp only [onAns]
              rw [show j + (k - j) = k by omega]; rfl
      · have e19 : (((k - j : Nat) : Int) == 19) = false := beq_eq_false_iff_ne.2 (by omega)
        have Hok := hide (show lvV (((toL s).drop j).take (k - j)) ≤ 9223372036854775807 from num_short (unhide HR) (by omega))
        go_wp2_with fail
        generalize s.extract j k = x at *
        have Hall := hide (show (toL x).all dgB = true by rw [unhide Hx, ← unhide HR]; exact runL_all dgB _)
        have Hmx := hide (show lvV (toL x) ≤ 9223372036854775807 by rw [unhide Hx]; exact unhide Hok)
        go_loopw [12] (fun i wr => ∃ (q : Nat) (v : Int), q ≤ k - j ∧ i = .int .i64 q ∧ v = lvV ((toL x).take q) ∧ Row wr w.heap.size #[.int .i64 0, .int .i64 0, .string ⟨#[]⟩, .int .i64 0] 42 ∧ Row wr (w.heap.size + 1) #[.int .i64 1, .int .i64 v, .string ⟨#[]⟩, .int .i64 j] 42 ∧ Below w.heap.size w wr) (fun i _ => (k - j) - (intOf i).toNat)
        case atStart => exact ⟨0, 0, Nat.zero_le _, rfl, rfl, R0.setFar (p := ⟨w.heap.size + 1, 0, none⟩) (by show w.heap.size ≠ w.heap.size + 1; omega) (.int .i64 1), R1.set 0 (.int .i64 1), B0.setCell (p := ⟨w.heap.size + 1, 0, none⟩) (by show w.heap.size ≤ w.heap.size + 1; omega) (.int .i64 1)⟩
        case round =>
          obtain ⟨q, v, hq, rfl, hv, Q0, Q1, QB⟩ := hrel
          clear c0 c1 c2 c3 cf d0 d1 d2 d3 df R0 R1 B0
          obtain ⟨c0, c1, c2, c3, cf⟩ := row4 Q1
          obtain ⟨d0, d1, d2, d3, df⟩ := row4 Q0
          by_cases hql : q < k - j
          · have hqx : q < x.size := by omega
            have iq : (q : Int) < ((k - j : Nat) : Int) := by omega
            have hdg : dgB x[q] = true := List.all_eq_true.1 (unhide Hall) _ (mem_toL hqx)
            obtain ⟨b1, b2⟩ := (dgB_iff _).1 hdg
            have hstep : v * 10 + ((x[q].toNat : Int) - 48) = lvV ((toL x).take (q + 1)) := by rw [toL, take_snoc x q hqx, lvV_snoc, ← toL, ← hv]
            have hle := lvV_take_le (q + 1) (toL x) (unhide Hall)
            have hv0 := (lvV_take_le q (toL x) (unhide Hall)).1
            have hmx := unhide Hmx
            have m1 : 0 ≤ v := by omega
            have m2 : v * 10 + ((x[q].toNat : Int) - 48) ≤ 9223372036854775807 := by omega
            have Hv := hide hstep
            clear hstep hle hv0 hmx hv hdg
            go_wp2
            go_region
            go_wp2
            go_roundw
            case rel => exact ⟨q + 1, v * 10 + ((x[q].toNat : Int) - 48), by omega, by go_num, unhide Hv, ⟨(Q0.setFar (p := ⟨w.heap.size + 1, 1, none⟩) (by show w.heap.size ≠ w.heap.size + 1; omega) (.int .i64 (v * 10 + ((x[q].toNat : Int) - 48)))).out⟩, ⟨(Q1.set 1 (.int .i64 (v * 10 + ((x[q].toNat : Int) - 48)))).out⟩, (QB.setCell (p := ⟨w.heap.size + 1, 1, none⟩) (by show w.heap.size ≤ w.heap.size + 1; omega) (.int .i64 (v * 10 + ((x[q].toNat : Int) - 48)))).drew⟩
            case measure => simp [intOf]; omega
          · have iq : ¬ ((q : Int) < ((k - j : Nat) : Int)) := by omega
            have Hv := hide (show v = lvV (((toL s).drop j).take (k - j)) by rw [hv, ← unhide Hx, List.take_of_length_le (by rw [toL_size]; omega)])
            clear hv
            go_wp2_with fail
            have BF := put4_below (b := w.heap.size) QB (Nat.le_refl _) (.int .i64 1) (.int .i64 v) (.string ⟨#[]⟩) (.int .i64 j)
            obtain ⟨g0, g1, g2, g3, _⟩ := row4 (put4_row Q0 (.int .i64 1) (.int .i64 v) (.string ⟨#[]⟩) (.int .i64 j))
            simp only [put4] at g0 g1 g2 g3
            refine bodyPost_ret (res_tok3 Tryz.results28 rfl g0 g1 g2 g3) rfl ⟨?_, BF⟩
            rw [oneNum, unhide HR, if_neg (by rintro (h | h | h); omega; rw [unhide Hfl] at h; cases h; have := unhide Hok; omega), ← unhide Hv]
            simp only [onAns]
            rw [show j + (k - j) = k by omega]; rfl

end Go.Proofs.YtcehablmloleaaaGreatDoor

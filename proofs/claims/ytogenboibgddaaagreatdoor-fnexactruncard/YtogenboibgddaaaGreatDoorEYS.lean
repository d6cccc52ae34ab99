/-
  The model's look at a code's shape. Own work.
-/
import Derived.Test.YtogenboibgddaaaGreatDoorMXAJ
namespace Go.Proofs.YtogenboibgddaaaGreatDoor
open Go.RowKit Go.Lib
set_option linter.unusedVariables false

set_option maxRecDepth 100000 in
set_option maxHeartbeats 3200000 in
theorem l5shape_any (a b : Option Addr) (n c m d : Nat) (s : Int) (P : List Vl) (I : List Is1) (w : World) (hV : Vls w a n c P) (hI : Iss w b m d I) :
    Calls Tryz.prog 39 #[.agg #[.slice a n c, .int .i64 s, .slice b m d]] w fun e w' => e = .returned (.bool (shapB P s I)) ∧ Below w.heap.size w w' := by
  have hn := hV.small
  have hm := hI.small
  have HP := hide hV.len
  have HI := hide hI.len
  have HF := hide (show shapB P s I = (decide (n ≤ 4000 ∧ m ≤ 20000 ∧ 0 ≤ s ∧ s ≤ 600) && P.all valB && I.all insB) by rw [shapB, hV.len, hI.len])
  have R0 := Row.new w #[.slice a n c, .int .i64 s, .slice b m d] 39
  have B0 := (Below.refl w.heap.size w).alloc (Nat.le_refl _) (.cells #[.slice a n c, .int .i64 s, .slice b m d] 39)
  generalize shapB P s I = FB at HF ⊢
  by_cases hf : n ≤ 4000 ∧ m ≤ 20000 ∧ 0 ≤ s ∧ s ≤ 600
  · have i1 : ¬ ((4000 : Int) < (n : Int)) := by omega
    have i2 : ¬ ((20000 : Int) < (m : Int)) := by omega
    have i3 : ¬ (s < 0) := by omega
    have i4 : ¬ (600 < s) := by omega
    have HG := hide (show FB = (P.all valB && I.all insB) by rw [unhide HF, decide_eq_true hf, Bool.true_and])
    clear HF hf
    go_enter Tryz.func39, Tryz.ntmps39
    go_wp2_with fail
    go_loopw [30] (fun i wr => ∃ k : Nat, k ≤ n ∧ i = .int .i64 k ∧ Below w.heap.size w wr ∧ Row wr w.heap.size #[.slice a n c, .int .i64 s, .slice b m d] 39 ∧ Hid (∀ j, (hj : j < P.length) → j < k → valB P[j] = true)) (fun i _ => n - (intOf i).toNat)
    case atStart => exact ⟨0, Nat.zero_le _, rfl, B0, R0, hide (fun j _ h => absurd h (by omega))⟩
    case round =>
      obtain ⟨k, hk, rfl, B1, R1, Ha⟩ := hrel
      skip
      by_cases hlt : k < n
      · have ilt : (k : Int) < (n : Int) := by omega
        have hkl : k < P.length := by rw [unhide HP]; exact hlt
        have hsz := hV.sizes P[k] (List.getElem_mem hkl)
        obtain ⟨b', off, rfl, hbl, an, nn, cn, y0, y1, y2, y3, hN⟩ := (hV.below B1 (Nat.le_refl _)).cells k hkl
        have Hno := hide (show valB P[k] = false → FB = false from fun e => by
          rw [unhide HG, show P.all valB = false by rw [← Bool.not_eq_true, all_at]; intro h; rw [h k hkl] at e; cases e]
          rfl)
        have HY := hide (show valB P[k] = true → ∀ j, (hj : j < P.length) → j < k + 1 → valB P[j] = true from fun e j hj h' => by
          by_cases ej : j = k
          · subst ej; exact e
          · exact unhide Ha j hj (by omega))
        have Hlt := hide hlt
        clear Ha
        generalize P[k] = z at y0 y1 y2 y3 hsz hN Hno HY
        have B2 := B1.alloc B1.size (.cells #[.int .i64 z.kind, .int .i64 z.num, .string z.text, .slice an nn cn] 88)
        have C2 := (Below.refl wr.heap.size wr).alloc (Nat.le_refl _) (.cells #[.int .i64 z.kind, .int .i64 z.num, .string z.text, .slice an nn cn] 88)
        have N2 := hN.below C2 (Nat.le_refl _)
        have R2 := R1.after C2 (Nat.le_refl _)
        cases hv : valB z
        · have HX := hide (unhide Hno hv)
          have Hv := hide hv
          clear hv Hno HY
          go_wp2_with (go_at_call 61; refine (l5value_any z an nn cn _ N2 hsz).mono ?_; rintro e w4 ⟨rfl, hb4⟩; rw [unhide Hv])
          go_ret
          exact ⟨ret_bool (unhide HX).symm, B2.trans (hb4.mono B2.size)⟩
        · have HY2 := hide (unhide HY hv)
          have Hv := hide hv
          clear hv Hno HY
          go_wp2_with (go_at_call 61; refine (l5value_any z an nn cn _ N2 hsz).mono ?_; rintro e w4 ⟨rfl, hb4⟩; rw [unhide Hv])
          go_roundw
          case rel => exact ⟨k + 1, unhide Hlt, by go_num, B2.trans (hb4.mono B2.size), R2.after hb4 (Nat.le_refl _), HY2⟩
          case measure => have := unhide Hlt; simp [intOf]; omega
      · have HA := hide (show FB = I.all insB by rw [unhide HG, (all_at valB P).2 (fun j hj => unhide Ha j hj (by have := unhide HP; omega)), Bool.true_and])
        have ilt : ¬ ((k : Int) < (n : Int)) := by omega
        obtain ⟨q0, q1, q2⟩ := rowC R1
        have HB1 := hide B1
        clear Ha HG B1
        go_wp2_with fail
        go_loopw [41] (fun i wr => ∃ k : Nat, k ≤ m ∧ i = .int .i64 k ∧ Below w.heap.size w wr ∧ Hid (∀ j, (hj : j < I.length) → j < k → insB I[j] = true)) (fun i _ => m - (intOf i).toNat)
        case atStart => exact ⟨0, Nat.zero_le _, rfl, unhide HB1, hide (fun j _ h => absurd h (by omega))⟩
        case round =>
          obtain ⟨k2, hk2, rfl, B1, Ha⟩ := hrel
          clear R1 q0 q1 q2
          by_cases hlt : k2 < m
          · have ilt : (k2 : Int) < (m : Int) := by omega
            have hkl : k2 < I.length := by rw [unhide HI]; exact hlt
            obtain ⟨b', off, rfl, hbl, y0, y1⟩ := (hI.below B1 (Nat.le_refl _)).cells k2 hkl
            have Hno := hide (show insB I[k2] = false → FB = false from fun e => by
              rw [unhide HA, ← Bool.not_eq_true, all_at]
              intro h
              rw [h k2 hkl] at e
              cases e)
            have HY := hide (show insB I[k2] = true → ∀ j, (hj : j < I.length) → j < k2 + 1 → insB I[j] = true from fun e j hj h' => by
              by_cases ej : j = k2
              · subst ej; exact e
              · exact unhide Ha j hj (by omega))
            have Hlt := hide hlt
            clear Ha
            generalize I[k2] = z at y0 y1 Hno HY
            have B2 := B1.alloc B1.size (.cells #[.int .i64 z.op, .int .i64 z.arg] 87)
            obtain ⟨op, arg⟩ := z
            simp only at y0 y1 B2
            have HI2 := hide (show insB ⟨op, arg⟩ = (decide (1 ≤ op ∧ op ≤ 25) && (if argB op then decide (0 ≤ arg ∧ arg ≤ 65535) else decide (arg = 0))) from rfl)
            by_cases o1 : op < 1
            · have HX := hide (unhide Hno (by rw [unhide HI2, decide_eq_false (by omega)]; rfl))
              clear Hno HY
              go_wp2_with fail
              go_ret
              exact ⟨ret_bool (unhide HX).symm, B2⟩
            by_cases o2 : 25 < op
            · have HX := hide (unhide Hno (by rw [unhide HI2, decide_eq_false (by omega)]; rfl))
              clear Hno HY
              go_wp2_with fail
              go_ret
              exact ⟨ret_bool (unhide HX).symm, B2⟩
            by_cases o3 : arg < 0
            · have HX := hide (unhide Hno (by rw [unhide HI2, decide_eq_true (by omega), Bool.true_and]; split; exact decide_eq_false (by omega); exact decide_eq_false (by omega)))
              clear Hno HY
              go_wp2_with fail
              go_ret
              exact ⟨ret_bool (unhide HX).symm, B2⟩
            by_cases o4 : 65535 < arg
            · have HX := hide (unhide Hno (by rw [unhide HI2, decide_eq_true (by omega), Bool.true_and]; split; exact decide_eq_false (by omega); exact decide_eq_false (by omega)))
              clear Hno HY
              go_wp2_with fail
              go_ret
              exact ⟨ret_bool (unhide HX).symm, B2⟩
            by_cases o5 : arg = 0
            · have HY2 := hide (unhide HY (by rw [unhide HI2, decide_eq_true (by omega), Bool.true_and]; split; exact decide_eq_true (by omega); exact decide_eq_true o5))
              have e5 : (arg != 0) = false := by rw [o5]; rfl
              clear Hno HY o5
              go_wp2_with fail
              go_roundw
              case rel => exact ⟨k2 + 1, unhide Hlt, by go_num, B2, HY2⟩
              case measure => have := unhide Hlt; simp [intOf]; omega
            · have e5 : (arg != 0) = true := bne_iff_ne.2 o5
              cases hv : argB op
              · have HX := hide (unhide Hno (by rw [unhide HI2, hv, decide_eq_true (by omega), Bool.true_and, if_neg (by decide), decide_eq_false o5]))
                have Hv := hide hv
                clear hv Hno HY o5
                go_wp2_with (go_at_call 62; refine (l5hasArg_any _ _).mono ?_; rintro e w4 ⟨rfl, hw4⟩; rw [hw4, unhide Hv]; clear hw4)
                go_ret
                exact ⟨ret_bool (unhide HX).symm, B2⟩
              · have HY2 := hide (unhide HY (by rw [unhide HI2, hv, decide_eq_true (by omega), Bool.true_and, if_pos rfl]; exact decide_eq_true (by omega)))
                have Hv := hide hv
                clear hv Hno HY o5
                go_wp2_with (go_at_call 62; refine (l5hasArg_any _ _).mono ?_; rintro e w4 ⟨rfl, hw4⟩; rw [hw4, unhide Hv]; clear hw4)
                go_roundw
                case rel => exact ⟨k2 + 1, unhide Hlt, by go_num, B2, HY2⟩
                case measure => have := unhide Hlt; simp [intOf]; omega
          · have HX := hide (show FB = true by rw [unhide HA]; exact (all_at insB I).2 (fun j hj => unhide Ha j hj (by have := unhide HI; omega)))
            have ilt : ¬ ((k2 : Int) < (m : Int)) := by omega
            clear Ha
            go_wp2_with fail
            go_ret
            exact ⟨ret_bool (unhide HX).symm, B1⟩
  · have HX := hide (show FB = false by rw [unhide HF, decide_eq_false hf]; rfl)
    clear HF
    go_enter Tryz.func39, Tryz.ntmps39
    by_cases j1 : (4000 : Int) < (n : Int)
    · go_wp2_with fail
      go_ret
      exact ⟨ret_bool (unhide HX).symm, B0⟩
    by_cases j2 : (20000 : Int) < (m : Int)
    · go_wp2_with fail
      go_ret
      exact ⟨ret_bool (unhide HX).symm, B0⟩
    by_cases j3 : s < 0
    · go_wp2_with fail
      go_ret
      exact ⟨ret_bool (unhide HX).symm, B0⟩
    have j4 : 600 < s := by omega
    go_wp2_with fail
    go_ret
    exact ⟨ret_bool (unhide HX).symm, B0⟩

end Go.Proofs.YtogenboibgddaaaGreatDoor

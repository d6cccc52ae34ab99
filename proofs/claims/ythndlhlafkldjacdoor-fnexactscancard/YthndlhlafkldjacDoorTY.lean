/-
  The walk over scan. Own work.
-/
import Derived.Test.YthndlhlafkldjacDoorTX
import Derived.WalkMore
namespace Go.Proofs.YthndlhlafkldjacDoor
open Go.RowKit
set_option linter.unusedVariables false
variable {aS aB aT : Addr}

/-- what scan answers -/
def IsAns (aS aB aT : Addr) (w : World) (R : Res) (e : Ending) (w' : World) : Prop :=
  (R.code = 0 ∧ R.at_ = 0 ∧ ∃ x c, e = .returned (.tuple #[.slice x R.toks.length c, .nilIface]) ∧ w'.ownsRow w.heap.size 49 4 (.slice x R.toks.length c) R.toks.length (tokC R.toks) ∧ okT R.toks ∧ Below w.heap.size w w') ∨
  (R.toks = [] ∧ 1 ≤ R.code ∧ R.code ≤ 3 ∧ ∃ b, e = .returned (.tuple #[.slice none 0 0, .iface 81 (.pointer (some ⟨b, 0, none⟩))]) ∧ Row w' b #[.int .i64 (R.at_ : Int), causeV aS aB aT R.code] 85 ∧ Below w.heap.size w w')

set_option maxRecDepth 100000 in
set_option maxHeartbeats 6400000 in
theorem scan_any (t : ByteArray) (w : World) (ht : t.size ≤ 1048576) (S : Snt w aS aB aT) :
    Calls Tryd.prog 27 #[.string t] w fun e w' => IsAns aS aB aT w (scanR t) e w' := by
  by_cases h4 : 4000 < t.size
  · have i4 : (4000 : Int) < (t.size : Int) := by omega
    have HR := hide (show scanR t = ⟨[], 1, 0⟩ by rw [scanR, if_pos h4])
    have hg := S.gS
    go_enter Tryd.func27, Tryd.ntmps27
    go_wp2_with fail
    go_step3
    go_wp2_with fail
    refine (faultAt_any _ _ _ _).mono ?_
    rintro e w1 ⟨rfl, R1, B1⟩
    go_wp2_with fail
    rw [Exit.noGoto_ret]
    go_ret2
    rw [unhide HR]
    exact .inr ⟨rfl, by show (1 : Int) ≤ 1; omega, by show (1 : Int) ≤ 3; omega, w.heap.size, rfl, R1, B1⟩
  · have i4 : ¬ ((4000 : Int) < (t.size : Int)) := by omega
    have HR := hide (show scanF t.size (t.size + 1) (toL t) [] = scanR t by rw [scanR, if_neg h4])
    obtain ⟨i, hi, hz0, hz1, hz2⟩ := info_parts infoT
    go_enter Tryd.func27, Tryd.ntmps27
    go_wp2_with fail
    go_step3
    go_wp2_with fail
    go_step3
    go_wp2_with fail
    go_loopw [4, 5] (fun v a wr => ∃ (k f : Nat) (T : List Tok), a = .int .i64 k ∧ k ≤ t.size ∧ t.size - k < f ∧ T.length ≤ k ∧ okT T ∧ scanF t.size f ((toL t).drop k) T = scanR t ∧ wr.ownsRow w.heap.size 49 4 v T.length (tokC T) ∧ Below w.heap.size w wr) (fun _ a _ => t.size - (intOf a).toNat)
    case atStart => exact ⟨0, t.size + 1, [], rfl, Nat.zero_le _, by omega, by simp, okT_nil, by rw [List.drop_zero]; exact unhide HR, World.ownsRow_nil _ _ _ _, Below.refl _ _⟩
    case round =>
      obtain ⟨k, f, T, rfl, hk, hf, hT, hok, hsc, hown, B1⟩ := hrel
      have Hsc := hide hsc
      have Hok := hide hok
      clear hsc hok
      by_cases hlt : k < t.size
      case neg =>
        have e : (toL t).drop k = [] := List.drop_of_length_le (by rw [toL_size]; omega)
        have hfin : scanR t = ⟨T, 0, 0⟩ := by rw [← unhide Hsc, e, scanF_nil]
        have Hfin := hide hfin
        have ilt : ¬ ((k : Int) < (t.size : Int)) := by omega
        clear hfin e
        obtain ⟨x, cx, hv⟩ := ownsT_form hown
        subst hv
        go_wp2_with fail
        go_ret2
        rw [unhide Hfin]
        exact .inl ⟨rfl, rfl, x, cx, rfl, hown, unhide Hok, B1⟩
      have ilt : (k : Int) < (t.size : Int) := by omega
      by_cases h1 : (t[k].toNat : Int) = 32
      · have Hf := hide (blk_at t k hlt (.inl h1))
        go_wp2_with fail
        go_roundw
        case rel => exact ⟨k + 1, f, T, by go_num, by omega, by omega, by omega, unhide Hok, by rw [← unhide Hsc]; exact scanF_blk' _ _ (unhide Hf).symm _, hown, B1⟩
        case measure => simp [intOf]; omega
      have e1 := beq_eq_false_iff_ne.2 h1
      by_cases h3 : (t[k].toNat : Int) = 9
      · have Hf := hide (blk_at t k hlt (.inr (.inr h3)))
        go_wp2_with fail
        go_roundw
        case rel => exact ⟨k + 1, f, T, by go_num, by omega, by omega, by omega, unhide Hok, by rw [← unhide Hsc]; exact scanF_blk' _ _ (unhide Hf).symm _, hown, B1⟩
        case measure => simp [intOf]; omega
      have e3 := beq_eq_false_iff_ne.2 h3
      by_cases h2 : (t[k].toNat : Int) = 10
      · have Hf := hide (blk_at t k hlt (.inr (.inl h2)))
        go_wp2_with fail
        go_roundw
        case rel => exact ⟨k + 1, f, T, by go_num, by omega, by omega, by omega, unhide Hok, by rw [← unhide Hsc]; exact scanF_blk' _ _ (unhide Hf).symm _, hown, B1⟩
        case measure => simp [intOf]; omega
      have e2 := beq_eq_false_iff_ne.2 h2
      by_cases h5 : (t[k].toNat : Int) = 35
      · have Hf := hide (blk_hash t k hlt h5)
        go_wp2_with fail
        go_loop [5] (fun a => ∃ q : Nat, k ≤ q ∧ q < t.size ∧ a = .int .i64 q ∧ blk true ((toL t).drop k) = blk true ((toL t).drop q)) (fun a => t.size - (intOf a).toNat)
        case atStart => exact ⟨k, Nat.le_refl _, hlt, rfl, rfl⟩
        case round =>
          obtain ⟨q, hkq, hq, rfl, hi⟩ := hrel
          have Hq := hide hi
          clear hi
          have iq : (q : Int) < (t.size : Int) := by omega
          by_cases h10 : (t[q].toNat : Int) = 10
          · have Hn := hide (blk_nl t q hq h10)
            have hne : q ≠ k := fun e => by subst e; omega
            have e10 : ((t[q].toNat : Int) != 10) = false := by rw [h10]; rfl
            go_wp2_with fail
            go_roundw
            case rel => exact ⟨q, f, T, rfl, by omega, by omega, by omega, unhide Hok, by rw [← unhide Hsc]; exact scanF_blk' _ _ (by rw [unhide Hf, unhide Hq, unhide Hn]) _, hown, B1⟩
            case measure => simp [intOf]; omega
          · have Hn := hide (blk_in t q hq h10)
            have e10 : ((t[q].toNat : Int) != 10) = true := bne_iff_ne.2 h10
            by_cases hl : q + 1 = t.size
            · have el : ((q : Int) + 1 == (t.size : Int)) = true := beq_iff_eq.2 (by omega)
              have Hfin := hide (show scanR t = ⟨T, 0, 0⟩ by
                rw [← unhide Hsc, ← scanF_nil (n := t.size) (f := f)]
                exact scanF_blk' _ _ (by rw [unhide Hf, unhide Hq, unhide Hn, blk_end true t (q + 1) (by omega)]; rfl) _)
              obtain ⟨x, cx, hv⟩ := ownsT_form hown
              subst hv
              go_wp2_with fail
              go_ret2
              rw [unhide Hfin]
              exact .inl ⟨rfl, rfl, x, cx, rfl, hown, unhide Hok, B1⟩
            · have el : ((q : Int) + 1 == (t.size : Int)) = false := beq_eq_false_iff_ne.2 (by omega)
              go_wp2_with fail
              go_round
              case rel => exact ⟨q + 1, by omega, by omega, by go_num, by rw [unhide Hq, unhide Hn]⟩
              case measure => simp [intOf]; omega
      have e5 := beq_eq_false_iff_ne.2 h5
      have Hbk := hide (blk_other t k hlt h1 h2 h3 h5)
      go_wp2_with fail
      have Hr := hide (toL_rest t k)
      have hrs : (t.extract k t.size).size = t.size - k := by rw [ByteArray.size_extract]; omega
      have S1 := S.below B1 (Nat.le_refl _)
      generalize t.extract k t.size = r at Hr hrs ⊢
      refine (readToken_any r _ (by omega) (by omega) S1).mono ?_
      rintro e w2 ⟨rfl, hb2⟩
      rw [unhide Hr]
      have hd := drop_cons t k hlt
      have hlen : ((toL t).drop (k + 1)).length + 1 = t.size - k := by rw [List.length_drop, toL_size]; omega
      cases ho : oneF ((toL t).drop k) with
      | bad c =>
        obtain ⟨f', rfl⟩ : ∃ f', f = f' + 1 := ⟨f - 1, by omega⟩
        have hbad : scanR t = ⟨[], c, k⟩ := by
          rw [← unhide Hsc, hd, scanF_bad (by rw [← hd]; exact unhide Hbk) (by rw [← hd]; exact ho)]
          congr 1
          rw [hlen]; omega
        have hc : c = 2 ∨ c = 3 := oneF_code (by rw [← hd]; exact ho)
        have Hbad := hide hbad
        obtain ⟨ac, hac⟩ := causeV_iface aS aB aT c
        have Hac := hide hac
        have B2 := B1.trans (hb2.mono B1.size)
        have z2 := B2.size
        rw [show rdV aS aB aT (.bad c) = .tuple #[.agg #[.int .i64 0, .int .i64 0, .string ⟨#[]⟩, .int .i64 0], .int .i64 0, .iface 184 (.pointer (some ac))] by rw [← hac]; rfl]
        have B3 := B2.alloc z2 (.cells #[.int .i64 0, .int .i64 0, .string ⟨#[]⟩, .int .i64 0] 49)
        clear hbad hd hlen ho hown hac hb2 S1
        go_wp2_with fail
        generalize w2.alloc (.cells #[.int .i64 0, .int .i64 0, .string ⟨#[]⟩, .int .i64 0] 49) = W3 at B3 ⊢
        refine (faultAt_any _ _ _ _).mono ?_
        rintro e w4 ⟨rfl, R4, B4⟩
        have BF := B3.trans (B4.mono B3.size)
        go_wp2_with fail
        go_ret2
        rw [unhide Hbad]
        exact .inr ⟨rfl, by show 1 ≤ c; omega, by show c ≤ 3; omega, W3.heap.size, rfl, by rw [unhide Hac]; exact R4, BF⟩
      | tok kd m tx wd =>
        obtain ⟨hw1, hw2, hw3⟩ : 1 ≤ wd ∧ wd ≤ ((toL t).drop k).length ∧ tx.length ≤ wd := by have := oneF_ok ((toL t).drop k); rw [ho] at this; exact this
        rw [List.length_drop, toL_size] at hw2
        obtain ⟨f', rfl⟩ : ∃ f', f = f' + 1 := ⟨f - 1, by omega⟩
        have Hsc2 := hide (show scanF t.size f' ((toL t).drop (k + wd)) (T ++ [⟨kd, m, ofL tx, k⟩]) = scanR t by
          rw [← unhide Hsc, hd, scanF_tok (by rw [← hd]; exact unhide Hbk) (by rw [← hd]; exact ho), ← hd, List.drop_drop, show t.size - (((toL t).drop (k + 1)).length + 1) = k by omega])
        have hok2 : okT (T ++ [⟨kd, m, ofL tx, k⟩]) := okT_snoc (unhide Hok) (by show (ofL tx).size ≤ _; rw [ofL_size]; unfold maxLen; omega)
        have Hok2 := hide hok2
        have B2 := B1.trans (hb2.mono B1.size)
        have hown1 := ownsT_below hown hb2
        have z2 := B2.size
        rw [show rdV aS aB aT (.tok kd m tx wd) = .tuple #[.agg #[.int .i64 kd, .int .i64 m, .string (ofL tx), .int .i64 0], .int .i64 (wd : Int), .nilIface] from rfl]
        clear hd hlen ho hok2 Hsc Hbk Hok hown hb2 S1 B1
        have B3 := (B2.alloc z2 (.cells #[.int .i64 kd, .int .i64 m, .string (ofL tx), .int .i64 k] 49)).alloc (by simp; omega) (.cells #[.int .i64 kd, .int .i64 m, .string (ofL tx), .int .i64 k] 49)
        have hown2 := (hown1.alloc (.cells #[.int .i64 kd, .int .i64 m, .string (ofL tx), .int .i64 k] 49)).alloc (.cells #[.int .i64 kd, .int .i64 m, .string (ofL tx), .int .i64 k] 49)
        have RV := Row.new (w2.alloc (.cells #[.int .i64 kd, .int .i64 m, .string (ofL tx), .int .i64 k] 49)) #[.int .i64 kd, .int .i64 m, .string (ofL tx), .int .i64 k] 49
        simp only [World.size_alloc] at RV
        go_wp2_with (at_builtin; refine wpList_append_own _ rfl _ _ 22 rfl w.heap.size 49 i (.agg #[.int .i64 0, .int .i64 0, .string ByteArray.empty, .int .i64 0]) 4 40 Tryd.underlying22 hi hz0 hz1 hz2 rfl (by decide) _ _ _ rfl hown2 ⟨w2.heap.size + 1, 0, none⟩ 1 1 (tok4 ⟨kd, m, ofL tx, k⟩) rfl rfl ?c1 ?c2 ?c3 ?c4 ?c5 ?_)
        case c1 => exact tok_cells (x := ⟨kd, m, ofL tx, k⟩) RV
        case c2 => exact tok_one _
        case c3 => unfold maxLen; omega
        case c4 => omega
        case c5 => simp; omega
        intro v' w3 hown' hgrow _
        have B4 : Below w.heap.size w w3 := B3.grown hgrow (by simp; omega) (fun q hq => (hown2.lt q hq).1)
        clear hgrow hown1 hown2 RV B2 B3
        go_wp2_with fail
        go_roundw
        case rel => exact ⟨k + wd, f', T ++ [⟨kd, m, ofL tx, k⟩], by go_num, by omega, by omega, by simp; omega, unhide Hok2, unhide Hsc2, by rw [tokC_snoc, List.length_append]; exact hown', B4⟩
        case measure => simp [intOf]; omega

end Go.Proofs.YthndlhlafkldjacDoor

/-
  The walks over readToken and scan. Own work.
-/
import Derived.Test.YthndlhlafkldjacDoorTU
namespace Go.Proofs.YthndlhlafkldjacDoor
open Go.RowKit
set_option linter.unusedVariables false
variable {aS aB aT : Addr}

/-- a text that is not empty, as its first byte and the rest -/
theorem toL_cons {r : ByteArray} (h0 : 0 < r.size) : toL r = r[0] :: (toL r).drop 1 := by
  have h := drop_cons r 0 h0
  rwa [List.drop_zero] at h

theorem oneF_at {r : ByteArray} (h0 : 0 < r.size) : oneF (toL r) = if ltI (r[0].toNat : Int) then oneWord (toL r) else if dgI (r[0].toNat : Int) then oneNum (toL r) else if r[0] = 34 then oneText ((toL r).drop 1) else oneSign r[0] (toL r) := by
  have h := toL_cons h0
  generalize (toL r).drop 1 = q at h ⊢
  rw [h]
  rfl

theorem rdV_form (aS aB aT : Addr) (o : One) : ∃ (k m : Int) (x : ByteArray) (n : Int) (ev : Value), rdV aS aB aT o = .tuple #[.agg #[.int .i64 k, .int .i64 m, .string x, .int .i64 0], .int .i64 n, ev] := by
  cases o with
  | bad c => exact ⟨_, _, _, _, _, rfl⟩
  | tok k m s w => exact ⟨_, _, _, _, _, rfl⟩

set_option maxRecDepth 100000 in
set_option maxHeartbeats 3200000 in
theorem readToken_any (r : ByteArray) (w : World) (hs : r.size ≤ 1048576) (h0 : 0 < r.size) (S : Snt w aS aB aT) :
    Calls Tryd.prog 63 #[.string r] w fun e w' => e = .returned (rdV aS aB aT (oneF (toL r))) ∧ Below w.heap.size w w' := by
  have i0 : (0 : Int) < (r.size : Int) := by omega
  obtain ⟨W, hW, R0, B0, SW⟩ := rd_start w S
  obtain ⟨d0, d1, d2, d3, df⟩ := row4 R0
  cases hd : dgI (r[0].toNat : Int)
  · cases hl : ltI (r[0].toNat : Int)
    · have Hd := hide hd
      have Hl := hide hl
      clear hd hl
      by_cases h34 : (r[0].toNat : Int) = 34
      · have H34 := hide (show r[0] = 34 from UInt8.toNat_inj.1 (by have : (34 : UInt8).toNat = 34 := rfl; omega))
        have HG := hide (show oneF (toL r) = oneText ((toL r).drop 1) by rw [oneF_at h0]; rw [unhide Hl, unhide Hd, if_neg (by decide), if_neg (by decide), if_pos (unhide H34)])
        go_enter Tryd.func63, Tryd.ntmps63
        go_wp2_with (first | (go_at_call 69; refine (isDigit_any _ _).mono ?_; rintro e w' ⟨rfl, hw⟩; rw [show dgI 34 = false from by decide, hw]; clear hw) | (go_at_call 81; refine (isLetter_any _ _).mono ?_; rintro e w' ⟨rfl, hw⟩; rw [show ltI 34 = false from by decide, hw]; clear hw))
        clear hW
        refine (readQuoted_any r _ hs h0 SW).mono ?_
        rintro e w2 ⟨rfl, hb2⟩
        obtain ⟨k, m, x, n, ev, hrd⟩ := rdV_form aS aB aT (oneText ((toL r).drop 1))
        rw [hrd]
        have Hrd := hide hrd
        clear hrd
        have R2 := R0.after hb2 (Nat.le_refl _)
        have B2 := B0.trans (hb2.mono B0.size)
        clear hb2 d0 d1 d2 d3 df R0 B0
        obtain ⟨d0, d1, d2, d3, df⟩ := row4 R2
        go_wp2_with fail
        have BF := put4_below (b := w.heap.size) B2 (Nat.le_refl _) (.int .i64 k) (.int .i64 m) (.string x) (.int .i64 0)
        obtain ⟨g0, g1, g2, g3, _⟩ := row4 (put4_row R2 (.int .i64 k) (.int .i64 m) (.string x) (.int .i64 0))
        simp only [put4] at g0 g1 g2 g3
        refine bodyPost_ret (res_tok3 Tryd.results63 rfl g0 g1 g2 g3) rfl ⟨?_, BF⟩
        rw [unhide HG, unhide Hrd]
        rfl
      · have e34 := beq_eq_false_iff_ne.2 h34
        have H34 := hide (show ¬ r[0] = 34 from fun e => h34 (by rw [e]; rfl))
        have HG := hide (show oneF (toL r) = oneSign r[0] (toL r) by rw [oneF_at h0]; rw [unhide Hl, unhide Hd, if_neg (by decide), if_neg (by decide), if_neg (unhide H34)])
        go_enter Tryd.func63, Tryd.ntmps63
        go_wp2_with (first | (go_at_call 69; refine (isDigit_any _ _).mono ?_; rintro e w' ⟨rfl, hw⟩; rw [unhide Hd, hw]; clear hw) | (go_at_call 81; refine (isLetter_any _ _).mono ?_; rintro e w' ⟨rfl, hw⟩; rw [unhide Hl, hw]; clear hw))
        clear hW
        refine (readSign_any r _ hs h0 SW).mono ?_
        rintro e w2 ⟨rfl, hb2⟩
        obtain ⟨k, m, x, n, ev, hrd⟩ := rdV_form aS aB aT (oneSign r[0] (toL r))
        rw [hrd]
        have Hrd := hide hrd
        clear hrd
        have R2 := R0.after hb2 (Nat.le_refl _)
        have B2 := B0.trans (hb2.mono B0.size)
        clear hb2 d0 d1 d2 d3 df R0 B0
        obtain ⟨d0, d1, d2, d3, df⟩ := row4 R2
        go_wp2_with fail
        have BF := put4_below (b := w.heap.size) B2 (Nat.le_refl _) (.int .i64 k) (.int .i64 m) (.string x) (.int .i64 0)
        obtain ⟨g0, g1, g2, g3, _⟩ := row4 (put4_row R2 (.int .i64 k) (.int .i64 m) (.string x) (.int .i64 0))
        simp only [put4] at g0 g1 g2 g3
        refine bodyPost_ret (res_tok3 Tryd.results63 rfl g0 g1 g2 g3) rfl ⟨?_, BF⟩
        rw [unhide HG, unhide Hrd]
        rfl
    · have Hd := hide hd
      have Hl := hide hl
      clear hd hl
      have HG := hide (show oneF (toL r) = oneWord (toL r) by rw [oneF_at h0]; rw [unhide Hl, if_pos rfl])
      go_enter Tryd.func63, Tryd.ntmps63
      go_wp2_with (first | (go_at_call 69; refine (isDigit_any _ _).mono ?_; rintro e w' ⟨rfl, hw⟩; rw [unhide Hd, hw]; clear hw) | (go_at_call 81; refine (isLetter_any _ _).mono ?_; rintro e w' ⟨rfl, hw⟩; rw [unhide Hl, hw]; clear hw))
      clear hW
      refine (readWord_any r _ hs SW).mono ?_
      rintro e w2 ⟨rfl, hb2⟩
      obtain ⟨k, m, x, n, ev, hrd⟩ := rdV_form aS aB aT (oneWord (toL r))
      rw [hrd]
      have Hrd := hide hrd
      clear hrd
      have R2 := R0.after hb2 (Nat.le_refl _)
      have B2 := B0.trans (hb2.mono B0.size)
      clear hb2 d0 d1 d2 d3 df R0 B0
      obtain ⟨d0, d1, d2, d3, df⟩ := row4 R2
      go_wp2_with fail
      have BF := put4_below (b := w.heap.size) B2 (Nat.le_refl _) (.int .i64 k) (.int .i64 m) (.string x) (.int .i64 0)
      obtain ⟨g0, g1, g2, g3, _⟩ := row4 (put4_row R2 (.int .i64 k) (.int .i64 m) (.string x) (.int .i64 0))
      simp only [put4] at g0 g1 g2 g3
      refine bodyPost_ret (res_tok3 Tryd.results63 rfl g0 g1 g2 g3) rfl ⟨?_, BF⟩
      rw [unhide HG, unhide Hrd]
      rfl
  · have Hl := hide (show ltI (r[0].toNat : Int) = false by
      rw [dgI, decide_eq_true_eq] at hd
      rw [ltI, decide_eq_false_iff_not]; omega)
    have hr1 : 1 ≤ runL dgB (toL r) := by rw [toL_cons h0]; exact runL_pos hd
    have Hd := hide hd
    clear hd
    have HG := hide (show oneF (toL r) = oneNum (toL r) by rw [oneF_at h0]; rw [unhide Hl, unhide Hd, if_neg (by decide), if_pos rfl])
    go_enter Tryd.func63, Tryd.ntmps63
    go_wp2_with (first | (go_at_call 69; refine (isDigit_any _ _).mono ?_; rintro e w' ⟨rfl, hw⟩; rw [unhide Hd, hw]; clear hw) | (go_at_call 81; refine (isLetter_any _ _).mono ?_; rintro e w' ⟨rfl, hw⟩; rw [unhide Hl, hw]; clear hw))
    clear hW
    refine (readNumber_any r _ hs hr1 SW).mono ?_
    rintro e w2 ⟨rfl, hb2⟩
    obtain ⟨k, m, x, n, ev, hrd⟩ := rdV_form aS aB aT (oneNum (toL r))
    rw [hrd]
    have Hrd := hide hrd
    clear hrd
    have R2 := R0.after hb2 (Nat.le_refl _)
    have B2 := B0.trans (hb2.mono B0.size)
    clear hb2 d0 d1 d2 d3 df R0 B0
    obtain ⟨d0, d1, d2, d3, df⟩ := row4 R2
    go_wp2_with fail
    have BF := put4_below (b := w.heap.size) B2 (Nat.le_refl _) (.int .i64 k) (.int .i64 m) (.string x) (.int .i64 0)
    obtain ⟨g0, g1, g2, g3, _⟩ := row4 (put4_row R2 (.int .i64 k) (.int .i64 m) (.string x) (.int .i64 0))
    simp only [put4] at g0 g1 g2 g3
    refine bodyPost_ret (res_tok3 Tryd.results63 rfl g0 g1 g2 g3) rfl ⟨?_, BF⟩
    rw [unhide HG, unhide Hrd]
    rfl

end Go.Proofs.YthndlhlafkldjacDoor

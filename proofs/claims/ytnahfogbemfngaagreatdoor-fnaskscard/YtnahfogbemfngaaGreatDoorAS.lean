/-
  FnAsks: the law. Own work.
-/
import Derived.Test.YtnahfogbemfngaaGreatDoorFY
import Derived.Test.YtnahfogbemfngaaGreatDoorFC
import Derived.Test.YtnahfogbemfngaaGreatDoorPE
import Derived.Test.YtnahfogbemfngaaGreatDoorSN
namespace Go.Proofs.YtnahfogbemfngaaGreatDoor
open Go.RowKit
set_option linter.unusedVariables false

theorem ask4 {w : World} {b : Nat} {cl us : ByteArray} {lv : Int} {v : Value} {ty : TypeId} (R : Row w b #[.string cl, .string us, .int .i64 lv, v] ty) :
    w.cell? ⟨b, 0, none⟩ = some (.string cl) ∧ w.cell? ⟨b, 1, none⟩ = some (.string us) ∧ w.cell? ⟨b, 2, none⟩ = some (.int .i64 lv) ∧ w.cell? ⟨b, 3, none⟩ = some v :=
  ⟨by simpa using R.cell 0, by simpa using R.cell 1, by simpa using R.cell 2, by simpa using R.cell 3⟩

theorem fmt_max (cl us : ByteArray) (lv : Int) (ss : List ByteArray) (h : askB cl us lv ss = true) : (fmtX cl us lv ss).size ≤ 3000 := by
  have := fmtB_small cl us lv ss
  rwa [fmtB, h] at this

set_option maxRecDepth 100000 in
set_option maxHeartbeats 25600000 in
theorem fnAsks_walk (a : Option Addr) (n c : Nat) (zs : List Int) (a' : Option Addr) (n' c' : Nat) (zs' : List Int) (w : World) (h : BytesX w a n c zs) (h' : BytesX w a' n' c' zs') (hm : MaxL w) (ht : Pow w) :
    Calls Tryz.prog 3 #[.slice a n c, .slice a' n' c'] w fun e w' => e = .returned (.bool true) ∧ Below w.heap.size w w' := by
  have b1 : n ≤ 9223372036854775807 := by have := h.cap; have := h.small; unfold maxLen at this; omega
  have b2 : n' ≤ 9223372036854775807 := by have := h'.cap; have := h'.small; unfold maxLen at this; omega
  by_cases l1 : 1048576 < n
  · have i1 : (1048576 : Int) < (n : Int) := by omega
    go_enter Tryz.func3, Tryz.ntmps3
    go_wp2_with fail
    go_ret
    exact ⟨rfl, Below.refl _ _⟩
  have i1 : ¬ ((1048576 : Int) < (n : Int)) := by omega
  by_cases l2 : 1048576 < n'
  · have i2 : (1048576 : Int) < (n' : Int) := by omega
    go_enter Tryz.func3, Tryz.ntmps3
    go_wp2_with fail
    go_ret
    exact ⟨rfl, Below.refl _ _⟩
  have i2 : ¬ ((1048576 : Int) < (n' : Int)) := by omega
  by_cases l3 : 1048576 < n + n'
  · have i3 : (1048576 : Int) < (n : Int) + (n' : Int) := by omega
    go_enter Tryz.func3, Tryz.ntmps3
    go_wp2_with fail
    go_ret
    exact ⟨rfl, Below.refl _ _⟩
  have i3 : ¬ ((1048576 : Int) < (n : Int) + (n' : Int)) := by omega
  have hn : n ≤ 1048576 := by omega
  have hn' : n' ≤ 1048576 := by omega
  clear l1 l2 l3
  go_enter Tryz.func3, Tryz.ntmps3
  go_wp2_with fail
  refine (DrawFormatAsk_x a n c zs w h hn).mono ?_
  rintro e w1 ⟨cl, us, lv, x, cx, K, rfl, D1, kc, ku, v0, v1, lK, N1, B1⟩
  have hcl : cl.size ≤ maxLen := by unfold maxLen; omega
  have hus : us.size ≤ maxLen := by unfold maxLen; omega
  have B12 := (Below.refl w1.heap.size w1).alloc (Nat.le_refl _) (.cells #[.string cl, .string us, .int .i64 lv, .slice x K.length cx] 25)
  have RA := Row.new w1 #[.string cl, .string us, .int .i64 lv, .slice x K.length cx] 25
  have N1 := N1.below B12 (Nat.le_refl _)
  have B2 := B1.trans (B12.mono B1.size)
  clear B12 B1
  go_wp2_with fail
  generalize w1.alloc (.cells #[.string cl, .string us, .int .i64 lv, .slice x K.length cx] 25) = w2 at RA N1 B2 ⊢
  refine (DrawFormatAsk_x a n c zs w2 (h.below B2 (Nat.le_refl _)) hn).mono ?_
  rintro e w3 ⟨cl2, us2, lv2, x2, cx2, K2, rfl, D2, _, _, _, _, _, N2, b3⟩
  obtain ⟨e1, e2, e3, e4⟩ := (unhide D1).unique (unhide D2)
  subst e1 e2 e3 e4
  clear D2
  have RA := RA.after b3 (Nat.le_refl _)
  have N1 := N1.below b3 (Nat.le_refl _)
  have B3 := B2.trans (b3.mono B2.size)
  clear b3 B2
  go_wp2_with fail
  refine (iFormatAsk_any _ _ _ _ _ _ _ _ hcl hus N2.strs (ht.below B3)).mono ?_
  rintro e w4 ⟨rfl, b4⟩
  have RA := RA.after b4 (Nat.le_refl _)
  have N1 := N1.below b4 (Nat.le_refl _)
  have B4 := B3.trans (b4.mono B3.size)
  clear b4 B3 N2
  obtain ⟨c0, c1, c2, c3⟩ := ask4 RA
  go_wp2_with fail
  refine (sFormatAsk_any cl us lv _ _ _ K w4 hcl hus N1.strs).mono ?_
  rintro e w5 ⟨rfl, b5⟩
  have RA := RA.after b5 (Nat.le_refl _)
  have N1 := N1.below b5 (Nat.le_refl _)
  have B5 := B4.trans (b5.mono B4.size)
  clear b5 B4 c0 c1 c2 c3
  cases hv : askB cl us lv K
  · rw [show fmtB cl us lv K = ⟨#[]⟩ by rw [fmtB, hv]; rfl]
    clear hv RA N1
    go_wp2_with fail
    refine (DrawParseAsk_any a' n' c' zs' w5 (h'.below B5 (Nat.le_refl _)) hn').mono ?_
    rintro e wA ⟨t, rfl, zt, bA⟩
    have BA := B5.trans (bA.mono B5.size)
    clear bA B5
    go_wp2_with fail
    refine (sParseAsk_any t wA (by omega)).mono ?_
    rintro e wB ⟨clB, usB, lvB, xB, cB, KB, oB, rfl, hoB, bB, HB⟩
    have HB := hide HB
    have BB := BA.trans (bB.mono BA.size)
    clear hoB bB BA
    have BB := BB.alloc BB.size (.cells #[.string clB, .string usB, .int .i64 lvB, .slice xB KB.length cB] 25)
    go_wp2_with fail
    generalize wB.alloc (.cells #[.string clB, .string usB, .int .i64 lvB, .slice xB KB.length cB] 25) = wB' at BB ⊢
    refine (iParseAsk_any t wB' (by omega) (hm.below BB)).mono ?_
    rintro e wC ⟨clC, usC, lvC, xC, cC, KC, oC, rfl, hoC, bC, HC⟩
    obtain ⟨e1, e2, e3, e4, e5⟩ := (unhide HB).unique HC
    subst e1 e2 e3 e4 e5
    clear HC
    have BC := BB.trans (bC.mono BB.size)
    clear bC BB
    cases oB
    · go_wp2_with fail
      go_ret
      exact ⟨rfl, BC.alloc BC.size _⟩
    obtain HQ : Hid (AskOf (toL t) clB usB lvB KB) := hide (by
      rcases unhide HB with ⟨_, q⟩ | ⟨q, _⟩
      · exact q
      · cases q)
    obtain ⟨aq, zq⟩ := ask_back (unhide HQ)
    obtain ⟨s1, s2, s3, s4, s5⟩ := ask_parts aq
    have hs := (unhide HB).sizes
    have HF := hide (show fmtB clB usB lvB KB = fmtX clB usB lvB KB by rw [fmtB, aq]; rfl)
    have HY := hide (AskAns.yes (ask_read aq zq))
    have HE := hide (nonempty_of_size (fmt_ne clB usB lvB KB))
    have kcl : clB.size ≤ maxLen := by unfold maxLen; omega
    have kus : usB.size ≤ maxLen := by unfold maxLen; omega
    have SB := Strs.of_owns hoC hs
    clear HB aq s5 hoC
    have BD := (Below.refl wC.heap.size wC).alloc (Nat.le_refl _) (.cells #[.string clB, .string usB, .int .i64 lvB, .slice xC KB.length cC] 25)
    have RB := Row.new wC #[.string clB, .string usB, .int .i64 lvB, .slice xC KB.length cC] 25
    have SB := SB.below BD (Nat.le_refl _)
    have BE := BC.trans (BD.mono BC.size)
    clear BD BC
    obtain ⟨f0, f1, f2, f3⟩ := ask4 RB
    go_wp2_with fail
    generalize wC.alloc (.cells #[.string clB, .string usB, .int .i64 lvB, .slice xC KB.length cC] 25) = wD at RB SB BE f0 f1 f2 f3 ⊢
    refine (iFormatAsk_any clB usB lvB _ _ _ KB wD kcl kus SB (ht.below BE)).mono ?_
    rintro e wE ⟨rfl, bE⟩
    rw [unhide HF]
    have RB := RB.after bE (Nat.le_refl _)
    have SB := SB.below bE (Nat.le_refl _)
    have BG := BE.trans (bE.mono BE.size)
    clear bE BE f0 f1 f2 f3
    generalize fmtX clB usB lvB KB = fs at zq HY HE ⊢
    have he := unhide HE
    go_wp2_with fail
    refine (iParseAsk_any fs wE (by omega) (hm.below BG)).mono ?_
    rintro e wF ⟨clF, usF, lvF, xF, cF, KF, oF, rfl, hoF, bF, HFF⟩
    obtain ⟨e1, e2, e3, e4, e5⟩ := (unhide HY).unique HFF
    subst e1 e2 e3 e4 e5
    have RB := RB.after bF (Nat.le_refl _)
    have SB := SB.below bF (Nat.le_refl _)
    have SF := Strs.of_owns hoF HFF.sizes
    have BH := BG.trans (bF.mono BG.size)
    clear HFF hoF bF BG
    have BI := (Below.refl wF.heap.size wF).alloc (Nat.le_refl _) (.cells #[.string clB, .string usB, .int .i64 lvB, .slice xF KB.length cF] 25)
    have RC := Row.new wF #[.string clB, .string usB, .int .i64 lvB, .slice xF KB.length cF] 25
    have RB := RB.alloc (.cells #[.string clB, .string usB, .int .i64 lvB, .slice xF KB.length cF] 25)
    have SB := SB.below BI (Nat.le_refl _)
    have SF := SF.below BI (Nat.le_refl _)
    have BJ := BH.trans (BI.mono BH.size)
    clear BI BH
    obtain ⟨f0, f1, f2, f3⟩ := ask4 RB
    obtain ⟨g0, g1, g2, g3⟩ := ask4 RC
    go_wp2_with fail
    refine (sameNames_same _ _ _ _ _ _ _ SB SF).mono ?_
    rintro e wG ⟨rfl, bG⟩
    go_wp2_with fail
    go_ret
    exact ⟨rfl, BJ.trans (bG.mono BJ.size)⟩
  rw [show fmtB cl us lv K = fmtX cl us lv K by rw [fmtB, hv]; rfl]
  have he0 := nonempty_of_size (fmt_ne cl us lv K)
  have hz0 := fmt_max cl us lv K hv
  have HR := hide (fun (z : (fmtX cl us lv K).size ≤ 4000) => AskAns.yes (ask_read hv z))
  clear hv
  generalize fmtX cl us lv K = s0 at he0 hz0 HR ⊢
  by_cases hl : s0.size ≤ 4000
  · have il : (s0.size : Int) ≤ 4000 := by omega
    have HY0 := hide (unhide HR hl)
    clear HR
    go_wp2_with fail
    refine (iParseAsk_any s0 w5 (by omega) (hm.below B5)).mono ?_
    rintro e w6 ⟨cl6, us6, lv6, x6, c6, K6, o6, rfl, ho6, b6, H6⟩
    obtain ⟨e1, e2, e3, e4, e5⟩ := (unhide HY0).unique H6
    subst e1 e2 e3 e4 e5
    have RA := RA.after b6 (Nat.le_refl _)
    have N1 := N1.below b6 (Nat.le_refl _)
    have S6 := Strs.of_owns ho6 H6.sizes
    have B6 := B5.trans (b6.mono B5.size)
    clear H6 ho6 b6 B5
    have b67 := (Below.refl w6.heap.size w6).alloc (Nat.le_refl _) (.cells #[.string cl, .string us, .int .i64 lv, .slice x6 K.length c6] 25)
    have R6 := Row.new w6 #[.string cl, .string us, .int .i64 lv, .slice x6 K.length c6] 25
    have RA := RA.alloc (.cells #[.string cl, .string us, .int .i64 lv, .slice x6 K.length c6] 25)
    have N1 := N1.below b67 (Nat.le_refl _)
    have S6 := S6.below b67 (Nat.le_refl _)
    have B7 := B6.trans (b67.mono B6.size)
    clear b67 B6
    obtain ⟨c0, c1, c2, c3⟩ := ask4 RA
    obtain ⟨d0, d1, d2, d3⟩ := ask4 R6
    go_wp2_with fail
    generalize w6.alloc (.cells #[.string cl, .string us, .int .i64 lv, .slice x6 K.length c6] 25) = w7 at N1 S6 B7 c0 c1 c2 c3 d0 d1 d2 d3 RA R6 ⊢
    refine (sameNames_same _ _ _ _ _ _ _ N1.strs S6).mono ?_
    rintro e w8 ⟨rfl, b8⟩
    have B8 := B7.trans (b8.mono B7.size)
    clear b8 B7 S6 N1 RA R6 c0 c1 c2 c3 d0 d1 d2 d3
    go_wp2_with fail
    refine (DrawParseAsk_any a' n' c' zs' w8 (h'.below B8 (Nat.le_refl _)) hn').mono ?_
    rintro e wA ⟨t, rfl, zt, bA⟩
    have BA := B8.trans (bA.mono B8.size)
    clear bA B8
    go_wp2_with fail
    refine (sParseAsk_any t wA (by omega)).mono ?_
    rintro e wB ⟨clB, usB, lvB, xB, cB, KB, oB, rfl, hoB, bB, HB⟩
    have HB := hide HB
    have BB := BA.trans (bB.mono BA.size)
    clear hoB bB BA
    have BB := BB.alloc BB.size (.cells #[.string clB, .string usB, .int .i64 lvB, .slice xB KB.length cB] 25)
    go_wp2_with fail
    generalize wB.alloc (.cells #[.string clB, .string usB, .int .i64 lvB, .slice xB KB.length cB] 25) = wB' at BB ⊢
    refine (iParseAsk_any t wB' (by omega) (hm.below BB)).mono ?_
    rintro e wC ⟨clC, usC, lvC, xC, cC, KC, oC, rfl, hoC, bC, HC⟩
    obtain ⟨e1, e2, e3, e4, e5⟩ := (unhide HB).unique HC
    subst e1 e2 e3 e4 e5
    clear HC
    have BC := BB.trans (bC.mono BB.size)
    clear bC BB
    cases oB
    · go_wp2_with fail
      go_ret
      exact ⟨rfl, BC.alloc BC.size _⟩
    obtain HQ : Hid (AskOf (toL t) clB usB lvB KB) := hide (by
      rcases unhide HB with ⟨_, q⟩ | ⟨q, _⟩
      · exact q
      · cases q)
    obtain ⟨aq, zq⟩ := ask_back (unhide HQ)
    obtain ⟨s1, s2, s3, s4, s5⟩ := ask_parts aq
    have hs := (unhide HB).sizes
    have HF := hide (show fmtB clB usB lvB KB = fmtX clB usB lvB KB by rw [fmtB, aq]; rfl)
    have HY := hide (AskAns.yes (ask_read aq zq))
    have HE := hide (nonempty_of_size (fmt_ne clB usB lvB KB))
    have kcl : clB.size ≤ maxLen := by unfold maxLen; omega
    have kus : usB.size ≤ maxLen := by unfold maxLen; omega
    have SB := Strs.of_owns hoC hs
    clear HB aq s5 hoC
    have BD := (Below.refl wC.heap.size wC).alloc (Nat.le_refl _) (.cells #[.string clB, .string usB, .int .i64 lvB, .slice xC KB.length cC] 25)
    have RB := Row.new wC #[.string clB, .string usB, .int .i64 lvB, .slice xC KB.length cC] 25
    have SB := SB.below BD (Nat.le_refl _)
    have BE := BC.trans (BD.mono BC.size)
    clear BD BC
    obtain ⟨f0, f1, f2, f3⟩ := ask4 RB
    go_wp2_with fail
    generalize wC.alloc (.cells #[.string clB, .string usB, .int .i64 lvB, .slice xC KB.length cC] 25) = wD at RB SB BE f0 f1 f2 f3 ⊢
    refine (iFormatAsk_any clB usB lvB _ _ _ KB wD kcl kus SB (ht.below BE)).mono ?_
    rintro e wE ⟨rfl, bE⟩
    rw [unhide HF]
    have RB := RB.after bE (Nat.le_refl _)
    have SB := SB.below bE (Nat.le_refl _)
    have BG := BE.trans (bE.mono BE.size)
    clear bE BE f0 f1 f2 f3
    generalize fmtX clB usB lvB KB = fs at zq HY HE ⊢
    have he := unhide HE
    go_wp2_with fail
    refine (iParseAsk_any fs wE (by omega) (hm.below BG)).mono ?_
    rintro e wF ⟨clF, usF, lvF, xF, cF, KF, oF, rfl, hoF, bF, HFF⟩
    obtain ⟨e1, e2, e3, e4, e5⟩ := (unhide HY).unique HFF
    subst e1 e2 e3 e4 e5
    have RB := RB.after bF (Nat.le_refl _)
    have SB := SB.below bF (Nat.le_refl _)
    have SF := Strs.of_owns hoF HFF.sizes
    have BH := BG.trans (bF.mono BG.size)
    clear HFF hoF bF BG
    have BI := (Below.refl wF.heap.size wF).alloc (Nat.le_refl _) (.cells #[.string clB, .string usB, .int .i64 lvB, .slice xF KB.length cF] 25)
    have RC := Row.new wF #[.string clB, .string usB, .int .i64 lvB, .slice xF KB.length cF] 25
    have RB := RB.alloc (.cells #[.string clB, .string usB, .int .i64 lvB, .slice xF KB.length cF] 25)
    have SB := SB.below BI (Nat.le_refl _)
    have SF := SF.below BI (Nat.le_refl _)
    have BJ := BH.trans (BI.mono BH.size)
    clear BI BH
    obtain ⟨f0, f1, f2, f3⟩ := ask4 RB
    obtain ⟨g0, g1, g2, g3⟩ := ask4 RC
    go_wp2_with fail
    refine (sameNames_same _ _ _ _ _ _ _ SB SF).mono ?_
    rintro e wG ⟨rfl, bG⟩
    go_wp2_with fail
    go_ret
    exact ⟨rfl, BJ.trans (bG.mono BJ.size)⟩
  · exfalso; omega

end Go.Proofs.YtnahfogbemfngaaGreatDoor

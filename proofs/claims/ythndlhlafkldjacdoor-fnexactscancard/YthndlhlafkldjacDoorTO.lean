/-
  The walk over the model's l2one: words. Own work.
-/
import Derived.Test.YthndlhlafkldjacDoorTV
import Derived.Test.YthndlhlafkldjacDoorTB
namespace Go.Proofs.YthndlhlafkldjacDoor
open Go.RowKit
set_option linter.unusedVariables false

/-- what l2one answers at a place -/
def onAns (j : Nat) (o : One) (e : Ending) : Prop := match o with
  | .bad c => ∃ (k m n : Int) (x : ByteArray), e = .returned (.tuple #[.agg #[.int .i64 k, .int .i64 m, .string x, .int .i64 (j : Int)], .int .i64 n, .int .i64 c])
  | .tok k m t w => e = .returned (.tuple #[.agg #[.int .i64 k, .int .i64 m, .string (ofL t), .int .i64 (j : Int)], .int .i64 ((j + w : Nat) : Int), .int .i64 0])

theorem ext_ofL (s : ByteArray) (j e : Nat) : s.extract j e = ofL (((toL s).drop j).take (e - j)) := by
  rw [← toL_extract, ofL_toL]

/-- the world in which l2one works -/
theorem one_start (w : World) (j : Nat) : ∃ W, ((w.alloc (.cells #[.int .i64 0, .int .i64 0, .string ⟨#[]⟩, .int .i64 0] 49)).alloc (.cells #[.int .i64 0, .int .i64 0, .string ⟨#[]⟩, .int .i64 j] 49)) = W ∧ Row W w.heap.size #[.int .i64 0, .int .i64 0, .string ⟨#[]⟩, .int .i64 0] 49 ∧ Row W (w.heap.size + 1) #[.int .i64 0, .int .i64 0, .string ⟨#[]⟩, .int .i64 j] 49 ∧ Below w.heap.size w W ∧ W.heap.size = w.heap.size + 2 := by
  refine ⟨_, rfl, (Row.new w _ _).alloc _, ?_, ((Below.refl w.heap.size w).alloc (Nat.le_refl _) _).alloc (by simp) _, by simp⟩
  have := Row.new (w.alloc (.cells #[.int .i64 0, .int .i64 0, .string ⟨#[]⟩, .int .i64 0] 49)) #[.int .i64 0, .int .i64 0, .string ⟨#[]⟩, .int .i64 j] 49
  simpa using this

theorem row4 {w : World} {b : Nat} {v0 v1 v2 v3 : Value} {t : TypeId} (R : Row w b #[v0, v1, v2, v3] t) : w.cell? ⟨b, 0, none⟩ = some v0 ∧ w.cell? ⟨b, 1, none⟩ = some v1 ∧ w.cell? ⟨b, 2, none⟩ = some v2 ∧ w.cell? ⟨b, 3, none⟩ = some v3 ∧ ∀ j, w.frozen? ⟨b, j, none⟩ = false :=
  ⟨by simpa using R.cell 0, by simpa using R.cell 1, by simpa using R.cell 2, by simpa using R.cell 3, fun j => R.frozen j⟩

/-- a token out of its block, and two more results -/
theorem res_tok3 {fn : Func} {a t u : Tmp} (h : fn.results = #[.cell a 49, .tmp t, .tmp u]) {tmps : Array Value} {w : World} {b : Nat} {v0 v1 v2 v3 : Value} (ha : tmps.getD a undef = .pointer (some ⟨b, 0, none⟩))
    (g0 : w.cell? ⟨b, 0, none⟩ = some v0) (g1 : w.cell? ⟨b, 1, none⟩ = some v1) (g2 : w.cell? ⟨b, 2, none⟩ = some v2) (g3 : w.cell? ⟨b, 3, none⟩ = some v3) :
    (results fn tmps).run Tryd.prog w = .ok (.tuple #[.agg #[v0, v1, v2, v3], tmps.getD t undef, tmps.getD u undef]) w := by
  rw [Array.getD_eq_getD_getElem?] at ha
  simp [results, h, ha, go_sem, g0, g1, g2, g3]

set_option maxRecDepth 100000 in
set_option maxHeartbeats 6400000 in
theorem l2one_word (s : ByteArray) (j : Nat) (w : World) (hs : s.size ≤ 1048576) (hj : j < s.size) (hl : ltI (s[j].toNat : Int) = true) :
    Calls Tryd.prog 26 #[.string s, .int .i64 j] w fun e w' => onAns j (oneWord ((toL s).drop j)) e ∧ Below w.heap.size w w' := by
  have ij : (j : Int) < (s.size : Int) := by omega
  obtain ⟨hE1, hE2⟩ := endS_le (p := wdB) (s := s) (Nat.le_of_lt hj)
  have HE := hide (endS_runL wdB s j)
  obtain ⟨W, hW, R0, R1, B0, z0⟩ := one_start w j
  have Hl := hide hl
  clear hl
  go_enter Tryd.func26, Tryd.ntmps26
  go_wp2_with (go_at_call 57; refine (l2letter_any _ _).mono ?_; rintro e w' ⟨rfl, hw⟩; rw [unhide Hl, hw]; clear hw)
  clear hW
  refine (l2run_any s j _ (by unfold maxLen; omega) (by omega)).mono ?_
  rintro e w1 ⟨rfl, rfl⟩
  generalize endS wdB s j = E at hE1 hE2 HE ⊢
  have iE1 : (j : Int) ≤ (E : Int) := by omega
  have iE2 : (E : Int) ≤ (s.size : Int) := by omega
  obtain ⟨c0, c1, c2, c3, cf⟩ := row4 R1
  have R1b := (R1.set 2 (.string (s.extract j E))).set 0 (.int .i64 3)
  have R0b := (R0.setFar (p := ⟨w.heap.size + 1, 2, none⟩) (by show w.heap.size ≠ w.heap.size + 1; omega) (.string (s.extract j E))).setFar (p := ⟨w.heap.size + 1, 0, none⟩) (by show w.heap.size ≠ w.heap.size + 1; omega) (.int .i64 3)
  have B1 := (B0.setCell (p := ⟨w.heap.size + 1, 2, none⟩) (by show w.heap.size ≤ w.heap.size + 1; omega) (.string (s.extract j E))).setCell (p := ⟨w.heap.size + 1, 0, none⟩) (by show w.heap.size ≤ w.heap.size + 1; omega) (.int .i64 3)
  simp only [List.setIfInBounds_toArray, List.set_cons_succ, List.set_cons_zero] at R1b
  have Hx := hide (ext_ofL s j E)
  have hxs : (s.extract j E).size = E - j := by rw [ByteArray.size_extract]; omega
  go_wp2_with fail
  generalize (w1.setCell ⟨w.heap.size + 1, 2, none⟩ (.string (s.extract j E))).setCell ⟨w.heap.size + 1, 0, none⟩ (.int .i64 3) = W2 at R1b R0b B1 ⊢
  clear R0 R1 B0 c0 c1 c2 c3 cf
  generalize s.extract j E = x at *
  refine (l2word_any x _).mono ?_
  rintro e w3 ⟨rfl, hb3⟩
  have R1 := R1b.after hb3 (Nat.le_refl _)
  have R0 := R0b.after hb3 (Nat.le_refl _)
  have B3 := B1.trans (hb3.mono B1.size)
  clear R1b R0b B1 hb3
  obtain ⟨d0, d1, d2, d3, df⟩ := row4 R0
  obtain ⟨c0, c1, c2, c3, cf⟩ := row4 R1
  cases hw : isWd (toL x)
  · have Hw := hide hw
    clear hw
    by_cases h32 : 32 < E - j
    · have i32 : ((32 : Int) < (x.size : Int)) := by omega
      go_wp2_with fail
      have BF := put4_below (b := w.heap.size) B3 (Nat.le_refl _) (.int .i64 3) (.int .i64 0) (.string x) (.int .i64 j)
      obtain ⟨g0, g1, g2, g3, _⟩ := row4 (put4_row R0 (.int .i64 3) (.int .i64 0) (.string x) (.int .i64 j))
      simp only [put4] at g0 g1 g2 g3
      refine bodyPost_ret (res_tok3 Tryd.results26 rfl g0 g1 g2 g3) rfl ⟨?_, BF⟩
      have hr : 32 < runL wdB ((toL s).drop j) := by have := unhide HE; omega
      rw [oneWord, if_pos hr]
      exact ⟨_, _, _, _, rfl⟩
    · have i32 : ¬ ((32 : Int) < (x.size : Int)) := by omega
      go_wp2_with fail
      have BF := put4_below (b := w.heap.size) B3 (Nat.le_refl _) (.int .i64 3) (.int .i64 0) (.string x) (.int .i64 j)
      obtain ⟨g0, g1, g2, g3, _⟩ := row4 (put4_row R0 (.int .i64 3) (.int .i64 0) (.string x) (.int .i64 j))
      simp only [put4] at g0 g1 g2 g3
      refine bodyPost_ret (res_tok3 Tryd.results26 rfl g0 g1 g2 g3) rfl ⟨?_, BF⟩
      have hr : runL wdB ((toL s).drop j) = E - j := by have := unhide HE; omega
      rw [oneWord, hr, if_neg (by omega), ← toL_ofL (((toL s).drop j).take (E - j)), ← unhide Hx, unhide Hw]
      simp only [onAns, ofL_toL]
      rw [show j + (E - j) = E by omega]; rfl
  · have Hw := hide hw
    clear hw
    by_cases h32 : 32 < E - j
    · have i32 : ((32 : Int) < (x.size : Int)) := by omega
      go_wp2_with fail
      have BF := put4_below (b := w.heap.size) (B3.setCell (p := ⟨w.heap.size + 1, 0, none⟩) (by show w.heap.size ≤ w.heap.size + 1; omega) (.int .i64 4)) (Nat.le_refl _) (.int .i64 4) (.int .i64 0) (.string x) (.int .i64 j)
      obtain ⟨g0, g1, g2, g3, _⟩ := row4 (put4_row (R0.setFar (p := ⟨w.heap.size + 1, 0, none⟩) (by show w.heap.size ≠ w.heap.size + 1; omega) (.int .i64 4)) (.int .i64 4) (.int .i64 0) (.string x) (.int .i64 j))
      simp only [put4] at g0 g1 g2 g3
      refine bodyPost_ret (res_tok3 Tryd.results26 rfl g0 g1 g2 g3) rfl ⟨?_, BF⟩
      have hr : 32 < runL wdB ((toL s).drop j) := by have := unhide HE; omega
      rw [oneWord, if_pos hr]
      exact ⟨_, _, _, _, rfl⟩
    · have i32 : ¬ ((32 : Int) < (x.size : Int)) := by omega
      go_wp2_with fail
      have BF := put4_below (b := w.heap.size) (B3.setCell (p := ⟨w.heap.size + 1, 0, none⟩) (by show w.heap.size ≤ w.heap.size + 1; omega) (.int .i64 4)) (Nat.le_refl _) (.int .i64 4) (.int .i64 0) (.string x) (.int .i64 j)
      obtain ⟨g0, g1, g2, g3, _⟩ := row4 (put4_row (R0.setFar (p := ⟨w.heap.size + 1, 0, none⟩) (by show w.heap.size ≠ w.heap.size + 1; omega) (.int .i64 4)) (.int .i64 4) (.int .i64 0) (.string x) (.int .i64 j))
      simp only [put4] at g0 g1 g2 g3
      refine bodyPost_ret (res_tok3 Tryd.results26 rfl g0 g1 g2 g3) rfl ⟨?_, BF⟩
      have hr : runL wdB ((toL s).drop j) = E - j := by have := unhide HE; omega
      rw [oneWord, hr, if_neg (by omega), ← toL_ofL (((toL s).drop j).take (E - j)), ← unhide Hx, unhide Hw]
      simp only [onAns, ofL_toL]
      rw [show j + (E - j) = E by omega]; rfl

end Go.Proofs.YthndlhlafkldjacDoor

/-
  ParseAsk, twice. Own work.
-/
import Derived.Test.YtnahfogbemfngaaGreatDoorPG
namespace Go.Proofs.YtnahfogbemfngaaGreatDoor
open Go.RowKit
set_option linter.unusedVariables false

/-- what the two answer -/
def PaAns (w : World) (t : ByteArray) (e : Ending) (w' : World) : Prop :=
  ∃ cl us lv x cx K o, e = .returned (.tuple #[.agg #[.string cl, .string us, .int .i64 lv, .slice x K.length cx], .bool o]) ∧ w'.ownsRow w.heap.size 9 1 (.slice x K.length cx) K.length (K.map Value.string) ∧ Below w.heap.size w w' ∧ AskAns (toL t) cl us lv K o

theorem PaAns.no {w w' : World} {t : ByteArray} (h : ∀ cl us lv K, ¬ AskOf (toL t) cl us lv K) (hb : Below w.heap.size w w') : PaAns w t (.returned (.tuple #[.agg #[.string ⟨#[]⟩, .string ⟨#[]⟩, .int .i64 0, .slice none 0 0], .bool false])) w' :=
  ⟨_, _, _, none, 0, [], false, rfl, World.ownsRow_nil _ _ _ _, hb, AskAns.no h⟩

theorem cutPrefix_any (s hd : ByteArray) (w : World) (hs : s.size ≤ 1048576) :
    Calls Tryz.prog 21 #[.string s, .string hd] w fun e w' => AftAns s hd e ∧ w' = w := by
  refine (Tryz.strings_CutPrefix s hd w).mono ?_
  rintro e w' ⟨rfl, rfl⟩
  refine ⟨⟨_, _, rfl, fun h => ?_, fun h => pre_false h, ?_⟩, rfl⟩
  · exact (pre_true h).trans (by simp [toL])
  · have := trim_le s.data.toList hd.data.toList
    have e : (ofL (Lib.trimPrefix s.data.toList hd.data.toList)).size = (Lib.trimPrefix s.data.toList hd.data.toList).length := by simp [ofL, ByteArray.size]
    exact Nat.le_trans (Nat.le_of_eq e) (Nat.le_trans this (Nat.le_of_eq (by simp)))

theorem no_long {t : ByteArray} (h : 4000 < t.size) : ∀ cl us lv K, ¬ AskOf (toL t) cl us lv K := fun cl us lv K ⟨_, _, _, ht, _⟩ => by
  rw [toL_size] at ht; omega

set_option maxRecDepth 100000 in
set_option maxHeartbeats 6400000 in
theorem iParseAsk_any (t : ByteArray) (w : World) (ht : t.size ≤ 1048576) (hm : MaxL w) :
    Calls Tryz.prog 7 #[.string t] w fun e w' => PaAns w t e w' := by
  by_cases h4 : 4000 < t.size
  · have i4 : (4000 : Int) < (t.size : Int) := by omega
    have Hn := hide (no_long h4)
    have p0 := Row.new w #[.string ⟨#[]⟩, .string ⟨#[]⟩, .int .i64 0, .slice none 0 0] 25
    have B0 := (Below.refl w.heap.size w).alloc (Nat.le_refl _) (.cells #[.string ⟨#[]⟩, .string ⟨#[]⟩, .int .i64 0, .slice none 0 0] 25)
    go_enter Tryz.func7, Tryz.ntmps7
    go_wp2
    have q0 := p0.cell 0
    have q1 := p0.cell 1
    have q2 := p0.cell 2
    have q3 := p0.cell 3
    refine bodyPost_ret (v := .tuple #[.agg #[.string ⟨#[]⟩, .string ⟨#[]⟩, .int .i64 0, .slice none 0 0], .bool false]) (by simp [results, Tryz.results7, go_sem, q0, q1, q2, q3]) rfl ?_
    exact PaAns.no (unhide Hn) B0
  have i4 : ¬ ((4000 : Int) < (t.size : Int)) := by omega
  have Ht := hide (show (toL t).length ≤ 4000 by rw [toL_size]; omega)
  have R0 := Row.new w #[.string ⟨#[]⟩, .string ⟨#[]⟩, .int .i64 0, .slice none 0 0] 25
  have B0 := (Below.refl w.heap.size w).alloc (Nat.le_refl _) (.cells #[.string ⟨#[]⟩, .string ⟨#[]⟩, .int .i64 0, .slice none 0 0] 25)
  have z0 : (w.alloc (.cells #[.string ⟨#[]⟩, .string ⟨#[]⟩, .int .i64 0, .slice none 0 0] 25)).heap.size = w.heap.size + 1 := by simp
  go_enter Tryz.func7, Tryz.ntmps7
  go_wp2_with fail
  generalize w.alloc (.cells #[.string ⟨#[]⟩, .string ⟨#[]⟩, .int .i64 0, .slice none 0 0] 25) = w0 at R0 B0 z0 ⊢
  have hm0 := hm.below B0
  refine (cutField_any t _ _ ht hm0).mono ?_
  rintro e w1 ⟨⟨a, r1, o1, rfl, c1, za, z1⟩, hb1⟩
  have C1 := hide c1
  have hm1 := hm0.below hb1
  have R1 := R0.after hb1 (Nat.le_refl _)
  have B1 := B0.trans (hb1.mono B0.size)
  have s1 := hb1.size
  clear c1 hm hm0 R0 B0 hb1
  go_wp2_with fail
  refine (cutField_any r1 _ _ (by omega) hm1).mono ?_
  rintro e w2 ⟨⟨b, r2, o2, rfl, c2, zb, z2⟩, hb2⟩
  have C2 := hide c2
  have R2 := R1.after hb2 (Nat.le_refl _)
  have B2 := B1.trans (hb2.mono B1.size)
  have hm2 := hm1.below hb2
  have s2 := hb2.size
  clear c2 hm1 B1 R1 hb2
  go_wp2_with fail
  refine (cutField_any r2 _ _ (by omega) hm2).mono ?_
  rintro e w3 ⟨⟨d, r3, o3, rfl, c3, zd, z3⟩, hb3⟩
  have C3 := hide c3
  have R3 := R2.after hb3 (Nat.le_refl _)
  have B3 := B2.trans (hb3.mono B2.size)
  have hm3 := hm2.below hb3
  have s3 := hb3.size
  clear c3 hm2 hb3 B2 R2
  go_wp2_with fail
  refine (cutPrefix_any r3 _ _ (by omega)).mono ?_
  rintro e w4 ⟨⟨ls, o4, rfl, c4, c4', z4⟩, hw4⟩
  rw [hw4]
  clear hw4 w4
  have C4 := hide c4
  have HC := hide (fun (cl us : ByteArray) (lv : Int) (K : List ByteArray) (h : AskOf (toL t) cl us lv K) => h.cuts (unhide C1) (unhide C2) (unhide C3))
  have HC4 := hide (fun (h : o4 = false) (cl us : ByteArray) (lv : Int) (K : List ByteArray) (k : AskOf (toL t) cl us lv K) => by
    obtain ⟨_, _, _, l, e, _⟩ := unhide HC cl us lv K k
    exact c4' h l e)
  clear c4 c4'
  cases o1
  · have f := fun j => R3.frozen j
    have q0 := R3.cell 0
    have q1 := R3.cell 1
    have q2 := R3.cell 2
    have q3 := R3.cell 3
    simp at q0 q1 q2 q3
    have R' := put4_row R3 (.string ⟨#[]⟩) (.string ⟨#[]⟩) (.int .i64 0) (.slice none 0 0)
    have g0 := R'.cell 0
    have g1 := R'.cell 1
    have g2 := R'.cell 2
    have g3 := R'.cell 3
    simp only [put4] at g0 g1 g2 g3
    simp at g0 g1 g2 g3
    clear R'
    go_wp2_with fail
    refine bodyPost_ret (v := .tuple #[.agg #[.string ⟨#[]⟩, .string ⟨#[]⟩, .int .i64 0, .slice none 0 0], .bool false]) (by simp [results, Tryz.results7, go_sem, g0, g1, g2, g3]) rfl ?_
    exact PaAns.no (fun cl us lv K h => by have := (unhide HC cl us lv K h).1; cases this) (put4_below B3 (Nat.le_refl _) (.string ⟨#[]⟩) (.string ⟨#[]⟩) (.int .i64 0) (.slice none 0 0))
  cases o2
  · have f := fun j => R3.frozen j
    have q0 := R3.cell 0
    have q1 := R3.cell 1
    have q2 := R3.cell 2
    have q3 := R3.cell 3
    simp at q0 q1 q2 q3
    have R' := put4_row R3 (.string ⟨#[]⟩) (.string ⟨#[]⟩) (.int .i64 0) (.slice none 0 0)
    have g0 := R'.cell 0
    have g1 := R'.cell 1
    have g2 := R'.cell 2
    have g3 := R'.cell 3
    simp only [put4] at g0 g1 g2 g3
    simp at g0 g1 g2 g3
    clear R'
    go_wp2_with fail
    refine bodyPost_ret (v := .tuple #[.agg #[.string ⟨#[]⟩, .string ⟨#[]⟩, .int .i64 0, .slice none 0 0], .bool false]) (by simp [results, Tryz.results7, go_sem, g0, g1, g2, g3]) rfl ?_
    exact PaAns.no (fun cl us lv K h => by have := (unhide HC cl us lv K h).2.1; cases this) (put4_below B3 (Nat.le_refl _) (.string ⟨#[]⟩) (.string ⟨#[]⟩) (.int .i64 0) (.slice none 0 0))
  cases o3
  · have f := fun j => R3.frozen j
    have q0 := R3.cell 0
    have q1 := R3.cell 1
    have q2 := R3.cell 2
    have q3 := R3.cell 3
    simp at q0 q1 q2 q3
    have R' := put4_row R3 (.string ⟨#[]⟩) (.string ⟨#[]⟩) (.int .i64 0) (.slice none 0 0)
    have g0 := R'.cell 0
    have g1 := R'.cell 1
    have g2 := R'.cell 2
    have g3 := R'.cell 3
    simp only [put4] at g0 g1 g2 g3
    simp at g0 g1 g2 g3
    clear R'
    go_wp2_with fail
    refine bodyPost_ret (v := .tuple #[.agg #[.string ⟨#[]⟩, .string ⟨#[]⟩, .int .i64 0, .slice none 0 0], .bool false]) (by simp [results, Tryz.results7, go_sem, g0, g1, g2, g3]) rfl ?_
    exact PaAns.no (fun cl us lv K h => by have := (unhide HC cl us lv K h).2.2.1; cases this) (put4_below B3 (Nat.le_refl _) (.string ⟨#[]⟩) (.string ⟨#[]⟩) (.int .i64 0) (.slice none 0 0))
  cases o4
  · have f := fun j => R3.frozen j
    have q0 := R3.cell 0
    have q1 := R3.cell 1
    have q2 := R3.cell 2
    have q3 := R3.cell 3
    simp at q0 q1 q2 q3
    have R' := put4_row R3 (.string ⟨#[]⟩) (.string ⟨#[]⟩) (.int .i64 0) (.slice none 0 0)
    have g0 := R'.cell 0
    have g1 := R'.cell 1
    have g2 := R'.cell 2
    have g3 := R'.cell 3
    simp only [put4] at g0 g1 g2 g3
    simp at g0 g1 g2 g3
    clear R'
    go_wp2_with fail
    refine bodyPost_ret (v := .tuple #[.agg #[.string ⟨#[]⟩, .string ⟨#[]⟩, .int .i64 0, .slice none 0 0], .bool false]) (by simp [results, Tryz.results7, go_sem, g0, g1, g2, g3]) rfl ?_
    exact PaAns.no (unhide HC4 (by first | rfl | trivial)) (put4_below B3 (Nat.le_refl _) (.string ⟨#[]⟩) (.string ⟨#[]⟩) (.int .i64 0) (.slice none 0 0))
  clear HC4
  have H4 := hide (unhide C4 (by first | rfl | trivial))
  clear C4
  have HL := hide (fun (cl us : ByteArray) (lv : Int) (K : List ByteArray) (h : AskOf (toL t) cl us lv K) => by
    obtain ⟨_, _, _, l, e, v1, v2, hd, hl⟩ := unhide HC cl us lv K h
    have e' : l = toL ls := (List.append_right_inj lbA).1 (e.symm.trans (unhide H4))
    rw [e'] at hl
    exact (show vnB a = true ∧ vnB b = true ∧ lvOK (toL d) = true ∧ LsOK (toL ls) K from ⟨v1, v2, hd, hl⟩))
  clear HC
  go_wp2_with fail
  refine (readLevel_any d _ (by omega)).mono ?_
  rintro e w4 ⟨⟨n, od, rfl, d1, d2⟩, hw4⟩
  rw [hw4]
  clear hw4 w4
  have D1 := hide d1
  have D2 := hide d2
  clear d1 d2
  go_wp2_with fail
  refine (readList_any ls _ (by omega) hm3).mono ?_
  rintro e w5 ⟨y, cy, K, ol, rfl, ho, hb5, l1, l2⟩
  have R5 := R3.after hb5 (Nat.le_refl _)
  have B5 := B3.trans (hb5.mono B3.size)
  have O5 := owns_mono (base' := w.heap.size + 1) ho (by omega)
  have L1 := hide l1
  have L2 := hide l2
  clear l1 l2 hb5 ho hm3 B3 R3
  have ka : a.size ≤ maxLen := by unfold maxLen; omega
  have kb : b.size ≤ maxLen := by unfold maxLen; omega
  cases va : vnB a
  · have Va := hide va
    clear va
    go_wp2_with fail
    refine (iValidName_any _ _ ka).mono ?_
    rintro e w' ⟨rfl, hw'⟩
    rw [unhide Va, hw']
    clear hw' w'
    have f := fun j => R5.frozen j
    have q0 := R5.cell 0
    have q1 := R5.cell 1
    have q2 := R5.cell 2
    have q3 := R5.cell 3
    simp at q0 q1 q2 q3
    have R' := put4_row R5 (.string ⟨#[]⟩) (.string ⟨#[]⟩) (.int .i64 0) (.slice none 0 0)
    have g0 := R'.cell 0
    have g1 := R'.cell 1
    have g2 := R'.cell 2
    have g3 := R'.cell 3
    simp only [put4] at g0 g1 g2 g3
    simp at g0 g1 g2 g3
    clear R'
    go_wp2_with fail
    refine bodyPost_ret (v := .tuple #[.agg #[.string ⟨#[]⟩, .string ⟨#[]⟩, .int .i64 0, .slice none 0 0], .bool false]) (by simp [results, Tryz.results7, go_sem, g0, g1, g2, g3]) rfl ?_
    exact PaAns.no (fun cl us lv K h => by have := (unhide HL cl us lv K h).1; rw [unhide Va] at this; cases this) (put4_below B5 (Nat.le_refl _) (.string ⟨#[]⟩) (.string ⟨#[]⟩) (.int .i64 0) (.slice none 0 0))
  have Va := hide va
  clear va
  go_wp2_with fail
  refine (iValidName_any _ _ ka).mono ?_
  rintro e w' ⟨rfl, hw'⟩
  rw [unhide Va, hw']
  clear hw' w'
  cases vb : vnB b
  · have Vb := hide vb
    clear vb
    go_wp2_with fail
    refine (iValidName_any _ _ kb).mono ?_
    rintro e w' ⟨rfl, hw'⟩
    rw [unhide Vb, hw']
    clear hw' w'
    have f := fun j => R5.frozen j
    have q0 := R5.cell 0
    have q1 := R5.cell 1
    have q2 := R5.cell 2
    have q3 := R5.cell 3
    simp at q0 q1 q2 q3
    have R' := put4_row R5 (.string ⟨#[]⟩) (.string ⟨#[]⟩) (.int .i64 0) (.slice none 0 0)
    have g0 := R'.cell 0
    have g1 := R'.cell 1
    have g2 := R'.cell 2
    have g3 := R'.cell 3
    simp only [put4] at g0 g1 g2 g3
    simp at g0 g1 g2 g3
    clear R'
    go_wp2_with fail
    refine bodyPost_ret (v := .tuple #[.agg #[.string ⟨#[]⟩, .string ⟨#[]⟩, .int .i64 0, .slice none 0 0], .bool false]) (by simp [results, Tryz.results7, go_sem, g0, g1, g2, g3]) rfl ?_
    exact PaAns.no (fun cl us lv K h => by have := (unhide HL cl us lv K h).2.1; rw [unhide Vb] at this; cases this) (put4_below B5 (Nat.le_refl _) (.string ⟨#[]⟩) (.string ⟨#[]⟩) (.int .i64 0) (.slice none 0 0))
  have Vb := hide vb
  clear vb
  go_wp2_with fail
  refine (iValidName_any _ _ kb).mono ?_
  rintro e w' ⟨rfl, hw'⟩
  rw [unhide Vb, hw']
  clear hw' w'
  cases od
  · have f := fun j => R5.frozen j
    have q0 := R5.cell 0
    have q1 := R5.cell 1
    have q2 := R5.cell 2
    have q3 := R5.cell 3
    simp at q0 q1 q2 q3
    have R' := put4_row R5 (.string ⟨#[]⟩) (.string ⟨#[]⟩) (.int .i64 0) (.slice none 0 0)
    have g0 := R'.cell 0
    have g1 := R'.cell 1
    have g2 := R'.cell 2
    have g3 := R'.cell 3
    simp only [put4] at g0 g1 g2 g3
    simp at g0 g1 g2 g3
    clear R'
    go_wp2_with fail
    refine bodyPost_ret (v := .tuple #[.agg #[.string ⟨#[]⟩, .string ⟨#[]⟩, .int .i64 0, .slice none 0 0], .bool false]) (by simp [results, Tryz.results7, go_sem, g0, g1, g2, g3]) rfl ?_
    exact PaAns.no (fun cl us lv K h => by have := (unhide HL cl us lv K h).2.2.1; rw [unhide D2 (by first | rfl | trivial)] at this; cases this) (put4_below B5 (Nat.le_refl _) (.string ⟨#[]⟩) (.string ⟨#[]⟩) (.int .i64 0) (.slice none 0 0))
  cases ol
  · have f := fun j => R5.frozen j
    have q0 := R5.cell 0
    have q1 := R5.cell 1
    have q2 := R5.cell 2
    have q3 := R5.cell 3
    simp at q0 q1 q2 q3
    have R' := put4_row R5 (.string ⟨#[]⟩) (.string ⟨#[]⟩) (.int .i64 0) (.slice none 0 0)
    have g0 := R'.cell 0
    have g1 := R'.cell 1
    have g2 := R'.cell 2
    have g3 := R'.cell 3
    simp only [put4] at g0 g1 g2 g3
    simp at g0 g1 g2 g3
    clear R'
    go_wp2_with fail
    refine bodyPost_ret (v := .tuple #[.agg #[.string ⟨#[]⟩, .string ⟨#[]⟩, .int .i64 0, .slice none 0 0], .bool false]) (by simp [results, Tryz.results7, go_sem, g0, g1, g2, g3]) rfl ?_
    exact PaAns.no (fun cl us lv K h => unhide L2 (by first | rfl | trivial) K (unhide HL cl us lv K h).2.2.2) (put4_below B5 (Nat.le_refl _) (.string ⟨#[]⟩) (.string ⟨#[]⟩) (.int .i64 0) (.slice none 0 0))
  have f := fun j => R5.frozen j
  have q0 := R5.cell 0
  have q1 := R5.cell 1
  have q2 := R5.cell 2
  have q3 := R5.cell 3
  simp at q0 q1 q2 q3
  have R' := put4_row R5 (.string a) (.string b) (.int .i64 n) (.slice y K.length cy)
  have g0 := R'.cell 0
  have g1 := R'.cell 1
  have g2 := R'.cell 2
  have g3 := R'.cell 3
  simp only [put4] at g0 g1 g2 g3
  simp at g0 g1 g2 g3
  clear R'
  go_wp2_with fail
  refine bodyPost_ret (v := .tuple #[.agg #[.string a, .string b, .int .i64 n, .slice y K.length cy], .bool true]) (by simp [results, Tryz.results7, go_sem, g0, g1, g2, g3]) rfl ?_
  have hd := unhide D1 (by first | rfl | trivial)
  refine ⟨a, b, n, y, cy, K, true, rfl, owns_mono (put4_owns O5 (Nat.lt_succ_self _) (.string a) (.string b) (.int .i64 n) (.slice y K.length cy)) (Nat.le_succ _), put4_below B5 (Nat.le_refl _) (.string a) (.string b) (.int .i64 n) (.slice y K.length cy), AskAns.yes ?_⟩
  rw [hd.2]
  exact AskOf.of_cuts (unhide Ht) (unhide C1) (unhide C2) (unhide C3) (unhide H4) (unhide Va) (unhide Vb) hd.1 (unhide L1 (by first | rfl | trivial))

end Go.Proofs.YtnahfogbemfngaaGreatDoor

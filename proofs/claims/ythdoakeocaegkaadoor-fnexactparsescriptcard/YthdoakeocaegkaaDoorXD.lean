/-
  Scripts: a line, as the model reads it. Own work.
-/
import Derived.Test.YthdoakeocaegkaaDoorXC
namespace Go.Proofs.YthdoakeocaegkaaDoor
open Go.RowKit
set_option linter.unusedVariables false

set_option maxRecDepth 100000 in
set_option maxHeartbeats 3200000 in
theorem l7op_any (s : ByteArray) (w : World) (hs : s.size ≤ 1048576) :
    Calls Tryd.prog 10 #[.string s] w fun e w' => OpA w (opL (toL s)) e w' := by
  have hle := cutP_le (toL s)
  have hts := toL_size s
  have HC := hide (fun W => l7cut_any s W hs)
  generalize toL s = l at HC hle hts
  unfold opL
  generalize cutP l = p at HC hle
  obtain ⟨word, r⟩ := p
  simp only at HC hle
  have B1 := (Below.refl w.heap.size w).alloc (Nat.le_refl _) (.cells #[.int .i64 0, .string ⟨#[]⟩, .string ⟨#[]⟩, .string ⟨#[]⟩, .int .i64 0] 31)
  have R1 := Row.new w #[.int .i64 0, .string ⟨#[]⟩, .string ⟨#[]⟩, .string ⟨#[]⟩, .int .i64 0] 31
  have hrl : r.length ≤ 1048576 := by omega
  have hrz : (ofL r).size ≤ 1048576 := by rw [← toL_size, toL_ofL]; exact hrl
  have HF := hide (fun W => l7cut_any (ofL r) W hrz)
  have HT := hide (fun W => l1digits_all (ofL r) W hrz)
  rw [toL_ofL] at HF
  have hfl := cutP_le r
  have hgz : (ofL (cutP r).2).size ≤ 1048576 := by rw [← toL_size, toL_ofL]; omega
  have HG := hide (fun W => l7cut_any (ofL (cutP r).2) W hgz)
  rw [toL_ofL] at HG
  have HB1 := hide B1
  have HR1 := hide R1
  have hrs : (ofL r).size = r.length := by rw [← toL_size, toL_ofL]
  clear hle hts B1 R1 hrl hrz hfl hgz
  have HBD := hide (show ∀ k, Below w.heap.size w ((w.alloc (.cells #[.int .i64 0, .string ⟨#[]⟩, .string ⟨#[]⟩, .string ⟨#[]⟩, .int .i64 0] 31)).drewN k) from fun k => (unhide HB1).trans ((below_drewN _ k).mono (unhide HB1).size))
  have HRD := hide (show ∀ k, Row ((w.alloc (.cells #[.int .i64 0, .string ⟨#[]⟩, .string ⟨#[]⟩, .string ⟨#[]⟩, .int .i64 0] 31)).drewN k) w.heap.size #[.int .i64 0, .string ⟨#[]⟩, .string ⟨#[]⟩, .string ⟨#[]⟩, .int .i64 0] 31 from fun k => ⟨(unhide HR1).out⟩)
  by_cases h0 : word = wPol
  · subst h0
    have e0 : ((ofL wPol).toList == [112, 111, 108, 105, 99, 121]) = true := by rw [wdEq]; decide
    have e1 : ((ofL wPol).toList == [99, 108, 105, 101, 110, 116]) = false := by rw [wdEq]; decide
    have e2 : ((ofL wPol).toList == [99, 111, 110, 115, 101, 110, 116]) = false := by rw [wdEq]; decide
    have e3 : ((ofL wPol).toList == [119, 105, 116, 104, 100, 114, 97, 119]) = false := by rw [wdEq]; decide
    have e4 : ((ofL wPol).toList == [116, 111, 107, 101, 110]) = false := by rw [wdEq]; decide
    have e5 : ((ofL wPol).toList == [108, 111, 111, 107]) = false := by rw [wdEq]; decide
    have e6 : ((ofL wPol).toList == [114, 101, 118, 111, 107, 101]) = false := by rw [wdEq]; decide
    have e7 : ((ofL wPol).toList == [116, 105, 99, 107]) = false := by rw [wdEq]; decide
    have HX := hide (show opW wPol r = ⟨1, ⟨#[]⟩, ⟨#[]⟩, (ofL r), 0⟩ from rfl)
    generalize ofL wPol = wd at HC e0 e1 e2 e3 e4 e5 e6 e7
    go_enter Tryd.func10, Tryd.ntmps10
    go_wp2_with fail
    refine (unhide HC _).mono ?_
    rintro e w1 ⟨rfl, n1, rfl⟩
    go_wp2_with fail
    refine (unhide HF _).mono ?_
    rintro e w2 ⟨rfl, n2, hw2⟩
    rw [hw2, World.drewN_drewN]
    clear hw2
    obtain ⟨c0, c1, c2, c3, c4⟩ := row5' (unhide HRD (n1 + n2))
    have f0 := (unhide HRD (n1 + n2)).frozen 0
    have f1 := (unhide HRD (n1 + n2)).frozen 1
    have f2 := (unhide HRD (n1 + n2)).frozen 2
    have f3 := (unhide HRD (n1 + n2)).frozen 3
    have f4 := (unhide HRD (n1 + n2)).frozen 4
    go_wp2_with fail
    obtain ⟨p0, p1, p2, p3, p4⟩ := put5_cells (unhide HRD (n1 + n2)) (.int .i64 1) (.string ⟨#[]⟩) (.string ⟨#[]⟩) (.string (ofL r)) (.int .i64 0)
    have BB := put5_below (unhide HBD (n1 + n2)) (Nat.le_refl _) (.int .i64 1) (.string ⟨#[]⟩) (.string ⟨#[]⟩) (.string (ofL r)) (.int .i64 0)
    unfold put5 at p0 p1 p2 p3 p4 BB
    exact bodyPost_ret (v := .agg #[.int .i64 1, .string ⟨#[]⟩, .string ⟨#[]⟩, .string (ofL r), .int .i64 0]) (by simp [results, Tryd.results10, go_sem, p0, p1, p2, p3, p4]) rfl ⟨by rw [unhide HX]; rfl, BB⟩
  by_cases h1 : word = wCli
  · subst h1
    have e0 : ((ofL wCli).toList == [112, 111, 108, 105, 99, 121]) = false := by rw [wdEq]; decide
    have e1 : ((ofL wCli).toList == [99, 108, 105, 101, 110, 116]) = true := by rw [wdEq]; decide
    have e2 : ((ofL wCli).toList == [99, 111, 110, 115, 101, 110, 116]) = false := by rw [wdEq]; decide
    have e3 : ((ofL wCli).toList == [119, 105, 116, 104, 100, 114, 97, 119]) = false := by rw [wdEq]; decide
    have e4 : ((ofL wCli).toList == [116, 111, 107, 101, 110]) = false := by rw [wdEq]; decide
    have e5 : ((ofL wCli).toList == [108, 111, 111, 107]) = false := by rw [wdEq]; decide
    have e6 : ((ofL wCli).toList == [114, 101, 118, 111, 107, 101]) = false := by rw [wdEq]; decide
    have e7 : ((ofL wCli).toList == [116, 105, 99, 107]) = false := by rw [wdEq]; decide
    have HX := hide (show opW wCli r = ⟨2, (ofL (cutP r).1), ⟨#[]⟩, (ofL (cutP r).2), 0⟩ from rfl)
    generalize ofL wCli = wd at HC e0 e1 e2 e3 e4 e5 e6 e7
    go_enter Tryd.func10, Tryd.ntmps10
    go_wp2_with fail
    refine (unhide HC _).mono ?_
    rintro e w1 ⟨rfl, n1, rfl⟩
    go_wp2_with fail
    refine (unhide HF _).mono ?_
    rintro e w2 ⟨rfl, n2, hw2⟩
    rw [hw2, World.drewN_drewN]
    clear hw2
    obtain ⟨c0, c1, c2, c3, c4⟩ := row5' (unhide HRD (n1 + n2))
    have f0 := (unhide HRD (n1 + n2)).frozen 0
    have f1 := (unhide HRD (n1 + n2)).frozen 1
    have f2 := (unhide HRD (n1 + n2)).frozen 2
    have f3 := (unhide HRD (n1 + n2)).frozen 3
    have f4 := (unhide HRD (n1 + n2)).frozen 4
    go_wp2_with fail
    obtain ⟨p0, p1, p2, p3, p4⟩ := put5_cells (unhide HRD (n1 + n2)) (.int .i64 2) (.string (ofL (cutP r).1)) (.string ⟨#[]⟩) (.string (ofL (cutP r).2)) (.int .i64 0)
    have BB := put5_below (unhide HBD (n1 + n2)) (Nat.le_refl _) (.int .i64 2) (.string (ofL (cutP r).1)) (.string ⟨#[]⟩) (.string (ofL (cutP r).2)) (.int .i64 0)
    unfold put5 at p0 p1 p2 p3 p4 BB
    exact bodyPost_ret (v := .agg #[.int .i64 2, .string (ofL (cutP r).1), .string ⟨#[]⟩, .string (ofL (cutP r).2), .int .i64 0]) (by simp [results, Tryd.results10, go_sem, p0, p1, p2, p3, p4]) rfl ⟨by rw [unhide HX]; rfl, BB⟩
  by_cases h2 : word = wCon
  · subst h2
    have e0 : ((ofL wCon).toList == [112, 111, 108, 105, 99, 121]) = false := by rw [wdEq]; decide
    have e1 : ((ofL wCon).toList == [99, 108, 105, 101, 110, 116]) = false := by rw [wdEq]; decide
    have e2 : ((ofL wCon).toList == [99, 111, 110, 115, 101, 110, 116]) = true := by rw [wdEq]; decide
    have e3 : ((ofL wCon).toList == [119, 105, 116, 104, 100, 114, 97, 119]) = false := by rw [wdEq]; decide
    have e4 : ((ofL wCon).toList == [116, 111, 107, 101, 110]) = false := by rw [wdEq]; decide
    have e5 : ((ofL wCon).toList == [108, 111, 111, 107]) = false := by rw [wdEq]; decide
    have e6 : ((ofL wCon).toList == [114, 101, 118, 111, 107, 101]) = false := by rw [wdEq]; decide
    have e7 : ((ofL wCon).toList == [116, 105, 99, 107]) = false := by rw [wdEq]; decide
    have HX := hide (show opW wCon r = ⟨3, (ofL (cutP r).1), (ofL (cutP (cutP r).2).1), (ofL (cutP (cutP r).2).2), 0⟩ from rfl)
    generalize ofL wCon = wd at HC e0 e1 e2 e3 e4 e5 e6 e7
    go_enter Tryd.func10, Tryd.ntmps10
    go_wp2_with fail
    refine (unhide HC _).mono ?_
    rintro e w1 ⟨rfl, n1, rfl⟩
    go_wp2_with fail
    refine (unhide HF _).mono ?_
    rintro e w2 ⟨rfl, n2, hw2⟩
    rw [hw2, World.drewN_drewN]
    clear hw2
    go_wp2_with fail
    refine (unhide HG _).mono ?_
    rintro e w3 ⟨rfl, n3, hw3⟩
    rw [hw3, World.drewN_drewN]
    clear hw3
    obtain ⟨c0, c1, c2, c3, c4⟩ := row5' (unhide HRD (n1 + n2 + n3))
    have f0 := (unhide HRD (n1 + n2 + n3)).frozen 0
    have f1 := (unhide HRD (n1 + n2 + n3)).frozen 1
    have f2 := (unhide HRD (n1 + n2 + n3)).frozen 2
    have f3 := (unhide HRD (n1 + n2 + n3)).frozen 3
    have f4 := (unhide HRD (n1 + n2 + n3)).frozen 4
    go_wp2_with fail
    obtain ⟨p0, p1, p2, p3, p4⟩ := put5_cells (unhide HRD (n1 + n2 + n3)) (.int .i64 3) (.string (ofL (cutP r).1)) (.string (ofL (cutP (cutP r).2).1)) (.string (ofL (cutP (cutP r).2).2)) (.int .i64 0)
    have BB := put5_below (unhide HBD (n1 + n2 + n3)) (Nat.le_refl _) (.int .i64 3) (.string (ofL (cutP r).1)) (.string (ofL (cutP (cutP r).2).1)) (.string (ofL (cutP (cutP r).2).2)) (.int .i64 0)
    unfold put5 at p0 p1 p2 p3 p4 BB
    exact bodyPost_ret (v := .agg #[.int .i64 3, .string (ofL (cutP r).1), .string (ofL (cutP (cutP r).2).1), .string (ofL (cutP (cutP r).2).2), .int .i64 0]) (by simp [results, Tryd.results10, go_sem, p0, p1, p2, p3, p4]) rfl ⟨by rw [unhide HX]; rfl, BB⟩
  by_cases h3 : word = wWit
  · subst h3
    have e0 : ((ofL wWit).toList == [112, 111, 108, 105, 99, 121]) = false := by rw [wdEq]; decide
    have e1 : ((ofL wWit).toList == [99, 108, 105, 101, 110, 116]) = false := by rw [wdEq]; decide
    have e2 : ((ofL wWit).toList == [99, 111, 110, 115, 101, 110, 116]) = false := by rw [wdEq]; decide
    have e3 : ((ofL wWit).toList == [119, 105, 116, 104, 100, 114, 97, 119]) = true := by rw [wdEq]; decide
    have e4 : ((ofL wWit).toList == [116, 111, 107, 101, 110]) = false := by rw [wdEq]; decide
    have e5 : ((ofL wWit).toList == [108, 111, 111, 107]) = false := by rw [wdEq]; decide
    have e6 : ((ofL wWit).toList == [114, 101, 118, 111, 107, 101]) = false := by rw [wdEq]; decide
    have e7 : ((ofL wWit).toList == [116, 105, 99, 107]) = false := by rw [wdEq]; decide
    have HX := hide (show opW wWit r = ⟨4, (ofL (cutP r).1), (ofL (cutP r).2), ⟨#[]⟩, 0⟩ from rfl)
    generalize ofL wWit = wd at HC e0 e1 e2 e3 e4 e5 e6 e7
    go_enter Tryd.func10, Tryd.ntmps10
    go_wp2_with fail
    refine (unhide HC _).mono ?_
    rintro e w1 ⟨rfl, n1, rfl⟩
    go_wp2_with fail
    refine (unhide HF _).mono ?_
    rintro e w2 ⟨rfl, n2, hw2⟩
    rw [hw2, World.drewN_drewN]
    clear hw2
    obtain ⟨c0, c1, c2, c3, c4⟩ := row5' (unhide HRD (n1 + n2))
    have f0 := (unhide HRD (n1 + n2)).frozen 0
    have f1 := (unhide HRD (n1 + n2)).frozen 1
    have f2 := (unhide HRD (n1 + n2)).frozen 2
    have f3 := (unhide HRD (n1 + n2)).frozen 3
    have f4 := (unhide HRD (n1 + n2)).frozen 4
    go_wp2_with fail
    obtain ⟨p0, p1, p2, p3, p4⟩ := put5_cells (unhide HRD (n1 + n2)) (.int .i64 4) (.string (ofL (cutP r).1)) (.string (ofL (cutP r).2)) (.string ⟨#[]⟩) (.int .i64 0)
    have BB := put5_below (unhide HBD (n1 + n2)) (Nat.le_refl _) (.int .i64 4) (.string (ofL (cutP r).1)) (.string (ofL (cutP r).2)) (.string ⟨#[]⟩) (.int .i64 0)
    unfold put5 at p0 p1 p2 p3 p4 BB
    exact bodyPost_ret (v := .agg #[.int .i64 4, .string (ofL (cutP r).1), .string (ofL (cutP r).2), .string ⟨#[]⟩, .int .i64 0]) (by simp [results, Tryd.results10, go_sem, p0, p1, p2, p3, p4]) rfl ⟨by rw [unhide HX]; rfl, BB⟩
  by_cases h4 : word = wTok
  · subst h4
    have e0 : ((ofL wTok).toList == [112, 111, 108, 105, 99, 121]) = false := by rw [wdEq]; decide
    have e1 : ((ofL wTok).toList == [99, 108, 105, 101, 110, 116]) = false := by rw [wdEq]; decide
    have e2 : ((ofL wTok).toList == [99, 111, 110, 115, 101, 110, 116]) = false := by rw [wdEq]; decide
    have e3 : ((ofL wTok).toList == [119, 105, 116, 104, 100, 114, 97, 119]) = false := by rw [wdEq]; decide
    have e4 : ((ofL wTok).toList == [116, 111, 107, 101, 110]) = true := by rw [wdEq]; decide
    have e5 : ((ofL wTok).toList == [108, 111, 111, 107]) = false := by rw [wdEq]; decide
    have e6 : ((ofL wTok).toList == [114, 101, 118, 111, 107, 101]) = false := by rw [wdEq]; decide
    have e7 : ((ofL wTok).toList == [116, 105, 99, 107]) = false := by rw [wdEq]; decide
    have HX := hide (show opW wTok r = ⟨5, (ofL (cutP r).1), ⟨#[]⟩, (ofL (cutP r).2), 0⟩ from rfl)
    generalize ofL wTok = wd at HC e0 e1 e2 e3 e4 e5 e6 e7
    go_enter Tryd.func10, Tryd.ntmps10
    go_wp2_with fail
    refine (unhide HC _).mono ?_
    rintro e w1 ⟨rfl, n1, rfl⟩
    go_wp2_with fail
    refine (unhide HF _).mono ?_
    rintro e w2 ⟨rfl, n2, hw2⟩
    rw [hw2, World.drewN_drewN]
    clear hw2
    obtain ⟨c0, c1, c2, c3, c4⟩ := row5' (unhide HRD (n1 + n2))
    have f0 := (unhide HRD (n1 + n2)).frozen 0
    have f1 := (unhide HRD (n1 + n2)).frozen 1
    have f2 := (unhide HRD (n1 + n2)).frozen 2
    have f3 := (unhide HRD (n1 + n2)).frozen 3
    have f4 := (unhide HRD (n1 + n2)).frozen 4
    go_wp2_with fail
    obtain ⟨p0, p1, p2, p3, p4⟩ := put5_cells (unhide HRD (n1 + n2)) (.int .i64 5) (.string (ofL (cutP r).1)) (.string ⟨#[]⟩) (.string (ofL (cutP r).2)) (.int .i64 0)
    have BB := put5_below (unhide HBD (n1 + n2)) (Nat.le_refl _) (.int .i64 5) (.string (ofL (cutP r).1)) (.string ⟨#[]⟩) (.string (ofL (cutP r).2)) (.int .i64 0)
    unfold put5 at p0 p1 p2 p3 p4 BB
    exact bodyPost_ret (v := .agg #[.int .i64 5, .string (ofL (cutP r).1), .string ⟨#[]⟩, .string (ofL (cutP r).2), .int .i64 0]) (by simp [results, Tryd.results10, go_sem, p0, p1, p2, p3, p4]) rfl ⟨by rw [unhide HX]; rfl, BB⟩
  by_cases h5 : word = wLoo
  · subst h5
    have e0 : ((ofL wLoo).toList == [112, 111, 108, 105, 99, 121]) = false := by rw [wdEq]; decide
    have e1 : ((ofL wLoo).toList == [99, 108, 105, 101, 110, 116]) = false := by rw [wdEq]; decide
    have e2 : ((ofL wLoo).toList == [99, 111, 110, 115, 101, 110, 116]) = false := by rw [wdEq]; decide
    have e3 : ((ofL wLoo).toList == [119, 105, 116, 104, 100, 114, 97, 119]) = false := by rw [wdEq]; decide
    have e4 : ((ofL wLoo).toList == [116, 111, 107, 101, 110]) = false := by rw [wdEq]; decide
    have e5 : ((ofL wLoo).toList == [108, 111, 111, 107]) = true := by rw [wdEq]; decide
    have e6 : ((ofL wLoo).toList == [114, 101, 118, 111, 107, 101]) = false := by rw [wdEq]; decide
    have e7 : ((ofL wLoo).toList == [116, 105, 99, 107]) = false := by rw [wdEq]; decide
    have HX := hide (show opW wLoo r = ⟨6, (ofL r), ⟨#[]⟩, ⟨#[]⟩, 0⟩ from rfl)
    generalize ofL wLoo = wd at HC e0 e1 e2 e3 e4 e5 e6 e7
    go_enter Tryd.func10, Tryd.ntmps10
    go_wp2_with fail
    refine (unhide HC _).mono ?_
    rintro e w1 ⟨rfl, n1, rfl⟩
    go_wp2_with fail
    refine (unhide HF _).mono ?_
    rintro e w2 ⟨rfl, n2, hw2⟩
    rw [hw2, World.drewN_drewN]
    clear hw2
    obtain ⟨c0, c1, c2, c3, c4⟩ := row5' (unhide HRD (n1 + n2))
    have f0 := (unhide HRD (n1 + n2)).frozen 0
    have f1 := (unhide HRD (n1 + n2)).frozen 1
    have f2 := (unhide HRD (n1 + n2)).frozen 2
    have f3 := (unhide HRD (n1 + n2)).frozen 3
    have f4 := (unhide HRD (n1 + n2)).frozen 4
    go_wp2_with fail
    obtain ⟨p0, p1, p2, p3, p4⟩ := put5_cells (unhide HRD (n1 + n2)) (.int .i64 6) (.string (ofL r)) (.string ⟨#[]⟩) (.string ⟨#[]⟩) (.int .i64 0)
    have BB := put5_below (unhide HBD (n1 + n2)) (Nat.le_refl _) (.int .i64 6) (.string (ofL r)) (.string ⟨#[]⟩) (.string ⟨#[]⟩) (.int .i64 0)
    unfold put5 at p0 p1 p2 p3 p4 BB
    exact bodyPost_ret (v := .agg #[.int .i64 6, .string (ofL r), .string ⟨#[]⟩, .string ⟨#[]⟩, .int .i64 0]) (by simp [results, Tryd.results10, go_sem, p0, p1, p2, p3, p4]) rfl ⟨by rw [unhide HX]; rfl, BB⟩
  by_cases h6 : word = wRev
  · subst h6
    have e0 : ((ofL wRev).toList == [112, 111, 108, 105, 99, 121]) = false := by rw [wdEq]; decide
    have e1 : ((ofL wRev).toList == [99, 108, 105, 101, 110, 116]) = false := by rw [wdEq]; decide
    have e2 : ((ofL wRev).toList == [99, 111, 110, 115, 101, 110, 116]) = false := by rw [wdEq]; decide
    have e3 : ((ofL wRev).toList == [119, 105, 116, 104, 100, 114, 97, 119]) = false := by rw [wdEq]; decide
    have e4 : ((ofL wRev).toList == [116, 111, 107, 101, 110]) = false := by rw [wdEq]; decide
    have e5 : ((ofL wRev).toList == [108, 111, 111, 107]) = false := by rw [wdEq]; decide
    have e6 : ((ofL wRev).toList == [114, 101, 118, 111, 107, 101]) = true := by rw [wdEq]; decide
    have e7 : ((ofL wRev).toList == [116, 105, 99, 107]) = false := by rw [wdEq]; decide
    have HX := hide (show opW wRev r = ⟨7, (ofL r), ⟨#[]⟩, ⟨#[]⟩, 0⟩ from rfl)
    generalize ofL wRev = wd at HC e0 e1 e2 e3 e4 e5 e6 e7
    go_enter Tryd.func10, Tryd.ntmps10
    go_wp2_with fail
    refine (unhide HC _).mono ?_
    rintro e w1 ⟨rfl, n1, rfl⟩
    go_wp2_with fail
    refine (unhide HF _).mono ?_
    rintro e w2 ⟨rfl, n2, hw2⟩
    rw [hw2, World.drewN_drewN]
    clear hw2
    obtain ⟨c0, c1, c2, c3, c4⟩ := row5' (unhide HRD (n1 + n2))
    have f0 := (unhide HRD (n1 + n2)).frozen 0
    have f1 := (unhide HRD (n1 + n2)).frozen 1
    have f2 := (unhide HRD (n1 + n2)).frozen 2
    have f3 := (unhide HRD (n1 + n2)).frozen 3
    have f4 := (unhide HRD (n1 + n2)).frozen 4
    go_wp2_with fail
    obtain ⟨p0, p1, p2, p3, p4⟩ := put5_cells (unhide HRD (n1 + n2)) (.int .i64 7) (.string (ofL r)) (.string ⟨#[]⟩) (.string ⟨#[]⟩) (.int .i64 0)
    have BB := put5_below (unhide HBD (n1 + n2)) (Nat.le_refl _) (.int .i64 7) (.string (ofL r)) (.string ⟨#[]⟩) (.string ⟨#[]⟩) (.int .i64 0)
    unfold put5 at p0 p1 p2 p3 p4 BB
    exact bodyPost_ret (v := .agg #[.int .i64 7, .string (ofL r), .string ⟨#[]⟩, .string ⟨#[]⟩, .int .i64 0]) (by simp [results, Tryd.results10, go_sem, p0, p1, p2, p3, p4]) rfl ⟨by rw [unhide HX]; rfl, BB⟩
  by_cases h7 : word = wTic
  · subst h7
    have e0 : ((ofL wTic).toList == [112, 111, 108, 105, 99, 121]) = false := by rw [wdEq]; decide
    have e1 : ((ofL wTic).toList == [99, 108, 105, 101, 110, 116]) = false := by rw [wdEq]; decide
    have e2 : ((ofL wTic).toList == [99, 111, 110, 115, 101, 110, 116]) = false := by rw [wdEq]; decide
    have e3 : ((ofL wTic).toList == [119, 105, 116, 104, 100, 114, 97, 119]) = false := by rw [wdEq]; decide
    have e4 : ((ofL wTic).toList == [116, 111, 107, 101, 110]) = false := by rw [wdEq]; decide
    have e5 : ((ofL wTic).toList == [108, 111, 111, 107]) = false := by rw [wdEq]; decide
    have e6 : ((ofL wTic).toList == [114, 101, 118, 111, 107, 101]) = false := by rw [wdEq]; decide
    have e7 : ((ofL wTic).toList == [116, 105, 99, 107]) = true := by rw [wdEq]; decide
    have HX := hide (show opW wTic r = ⟨8, ⟨#[]⟩, ⟨#[]⟩, ⟨#[]⟩, (tickV r)⟩ from rfl)
    generalize ofL wTic = wd at HC e0 e1 e2 e3 e4 e5 e6 e7
    go_enter Tryd.func10, Tryd.ntmps10
    go_wp2_with fail
    refine (unhide HC _).mono ?_
    rintro e w1 ⟨rfl, n1, rfl⟩
    go_wp2_with fail
    refine (unhide HF _).mono ?_
    rintro e w2 ⟨rfl, n2, hw2⟩
    rw [hw2, World.drewN_drewN]
    clear hw2
    obtain ⟨c0, c1, c2, c3, c4⟩ := row5' (unhide HRD (n1 + n2))
    have f0 := (unhide HRD (n1 + n2)).frozen 0
    have f1 := (unhide HRD (n1 + n2)).frozen 1
    have f2 := (unhide HRD (n1 + n2)).frozen 2
    have f3 := (unhide HRD (n1 + n2)).frozen 3
    have f4 := (unhide HRD (n1 + n2)).frozen 4
    go_wp2_with fail
    refine (unhide HT _).mono ?_
    rintro e w3 ⟨⟨nm, o, rfl, hy, hn⟩, hw3⟩
    rw [hw3]
    clear hw3
    rw [toL_ofL] at hy hn
    by_cases h12 : 12 < r.length
    · have HV := hide (show tickV r = -1 by unfold tickV; rw [if_neg (fun h => by omega)])
      have i12 : (12 : Int) < ((ofL r).size : Int) := by rw [hrs]; omega
      rw [unhide HV] at HX
      clear hy hn h12
      cases o
      all_goals
        go_wp2_with fail
        obtain ⟨p0, p1, p2, p3, p4⟩ := put5_cells (unhide HRD (n1 + n2)) (.int .i64 8) (.string ⟨#[]⟩) (.string ⟨#[]⟩) (.string ⟨#[]⟩) (.int .i64 (-1))
        have BB := put5_below (unhide HBD (n1 + n2)) (Nat.le_refl _) (.int .i64 8) (.string ⟨#[]⟩) (.string ⟨#[]⟩) (.string ⟨#[]⟩) (.int .i64 (-1))
        unfold put5 at p0 p1 p2 p3 p4 BB
        exact bodyPost_ret (v := .agg #[.int .i64 8, .string ⟨#[]⟩, .string ⟨#[]⟩, .string ⟨#[]⟩, .int .i64 (-1)]) (by simp [results, Tryd.results10, go_sem, p0, p1, p2, p3, p4]) rfl ⟨by rw [unhide HX]; rfl, BB⟩

    · have i12 : ¬ ((12 : Int) < ((ofL r).size : Int)) := by rw [hrs]; omega
      cases o with
      | true =>
        obtain ⟨g1, g2, g3⟩ := hy rfl
        have HV := hide (show tickV r = nm by unfold tickV; rw [if_pos ⟨⟨by omega, by omega⟩, g2⟩, g3])
        rw [unhide HV] at HX
        clear hy hn h12 g1 g2 g3
        go_wp2_with fail
        obtain ⟨p0, p1, p2, p3, p4⟩ := put5_cells (unhide HRD (n1 + n2)) (.int .i64 8) (.string ⟨#[]⟩) (.string ⟨#[]⟩) (.string ⟨#[]⟩) (.int .i64 nm)
        have BB := put5_below (unhide HBD (n1 + n2)) (Nat.le_refl _) (.int .i64 8) (.string ⟨#[]⟩) (.string ⟨#[]⟩) (.string ⟨#[]⟩) (.int .i64 nm)
        unfold put5 at p0 p1 p2 p3 p4 BB
        exact bodyPost_ret (v := .agg #[.int .i64 8, .string ⟨#[]⟩, .string ⟨#[]⟩, .string ⟨#[]⟩, .int .i64 nm]) (by simp [results, Tryd.results10, go_sem, p0, p1, p2, p3, p4]) rfl ⟨by rw [unhide HX]; rfl, BB⟩

      | false =>
        have g := hn rfl
        have HV := hide (show tickV r = -1 by unfold tickV; rw [if_neg (fun h => g ⟨by omega, by omega, h.2⟩)])
        rw [unhide HV] at HX
        clear hy hn h12 g
        go_wp2_with fail
        obtain ⟨p0, p1, p2, p3, p4⟩ := put5_cells (unhide HRD (n1 + n2)) (.int .i64 8) (.string ⟨#[]⟩) (.string ⟨#[]⟩) (.string ⟨#[]⟩) (.int .i64 (-1))
        have BB := put5_below (unhide HBD (n1 + n2)) (Nat.le_refl _) (.int .i64 8) (.string ⟨#[]⟩) (.string ⟨#[]⟩) (.string ⟨#[]⟩) (.int .i64 (-1))
        unfold put5 at p0 p1 p2 p3 p4 BB
        exact bodyPost_ret (v := .agg #[.int .i64 8, .string ⟨#[]⟩, .string ⟨#[]⟩, .string ⟨#[]⟩, .int .i64 (-1)]) (by simp [results, Tryd.results10, go_sem, p0, p1, p2, p3, p4]) rfl ⟨by rw [unhide HX]; rfl, BB⟩

  have HX := hide (show opW word r = ⟨0, ⟨#[]⟩, ⟨#[]⟩, ⟨#[]⟩, 0⟩ by unfold opW; rw [if_neg h0, if_neg h1, if_neg h2, if_neg h3, if_neg h4, if_neg h5, if_neg h6, if_neg h7]; rfl)
  have e0 : ((ofL word).toList == [112, 111, 108, 105, 99, 121]) = false := by rw [wdEq]; exact decide_eq_false h0
  have e1 : ((ofL word).toList == [99, 108, 105, 101, 110, 116]) = false := by rw [wdEq]; exact decide_eq_false h1
  have e2 : ((ofL word).toList == [99, 111, 110, 115, 101, 110, 116]) = false := by rw [wdEq]; exact decide_eq_false h2
  have e3 : ((ofL word).toList == [119, 105, 116, 104, 100, 114, 97, 119]) = false := by rw [wdEq]; exact decide_eq_false h3
  have e4 : ((ofL word).toList == [116, 111, 107, 101, 110]) = false := by rw [wdEq]; exact decide_eq_false h4
  have e5 : ((ofL word).toList == [108, 111, 111, 107]) = false := by rw [wdEq]; exact decide_eq_false h5
  have e6 : ((ofL word).toList == [114, 101, 118, 111, 107, 101]) = false := by rw [wdEq]; exact decide_eq_false h6
  have e7 : ((ofL word).toList == [116, 105, 99, 107]) = false := by rw [wdEq]; exact decide_eq_false h7
  generalize ofL word = wd at HC e0 e1 e2 e3 e4 e5 e6 e7
  go_enter Tryd.func10, Tryd.ntmps10
  go_wp2_with fail
  refine (unhide HC _).mono ?_
  rintro e w1 ⟨rfl, n1, rfl⟩
  go_wp2_with fail
  refine (unhide HF _).mono ?_
  rintro e w2 ⟨rfl, n2, hw2⟩
  rw [hw2, World.drewN_drewN]
  clear hw2
  obtain ⟨c0, c1, c2, c3, c4⟩ := row5' (unhide HRD (n1 + n2))
  have f0 := (unhide HRD (n1 + n2)).frozen 0
  have f1 := (unhide HRD (n1 + n2)).frozen 1
  have f2 := (unhide HRD (n1 + n2)).frozen 2
  have f3 := (unhide HRD (n1 + n2)).frozen 3
  have f4 := (unhide HRD (n1 + n2)).frozen 4
  go_wp2_with fail
  obtain ⟨p0, p1, p2, p3, p4⟩ := put5_cells (unhide HRD (n1 + n2)) (.int .i64 0) (.string ⟨#[]⟩) (.string ⟨#[]⟩) (.string ⟨#[]⟩) (.int .i64 0)
  have BB := put5_below (unhide HBD (n1 + n2)) (Nat.le_refl _) (.int .i64 0) (.string ⟨#[]⟩) (.string ⟨#[]⟩) (.string ⟨#[]⟩) (.int .i64 0)
  unfold put5 at p0 p1 p2 p3 p4 BB
  exact bodyPost_ret (v := .agg #[.int .i64 0, .string ⟨#[]⟩, .string ⟨#[]⟩, .string ⟨#[]⟩, .int .i64 0]) (by simp [results, Tryd.results10, go_sem, p0, p1, p2, p3, p4]) rfl ⟨by rw [unhide HX]; rfl, BB⟩

end Go.Proofs.YthdoakeocaegkaaDoor

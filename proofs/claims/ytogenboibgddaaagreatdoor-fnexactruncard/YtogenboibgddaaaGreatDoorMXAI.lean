/-
  RVS, RVB, RVC, RVD. Own work.
-/
import Derived.Test.YtogenboibgddaaaGreatDoorRVR
import Derived.Test.YtogenboibgddaaaGreatDoorDVF
import Derived.Test.YtogenboibgddaaaGreatDoorMXAF
import Derived.Test.YtogenboibgddaaaGreatDoorEM
namespace Go.Proofs.YtogenboibgddaaaGreatDoor
open Go.RowKit
set_option linter.unusedVariables false

open Classical in
theorem has_decO (tt : List ByteArray) (s : ByteArray) : hasB tt s = decide (s ∈ tt) := by
  rw [Bool.eq_iff_iff, decide_eq_true_eq]
  exact hasB_iff tt s

set_option maxRecDepth 100000 in
set_option maxHeartbeats 6400000 in
theorem applyO_eq (num : Int) (text : ByteArray) (a : Option Addr) (n c : Nat) (ss : List ByteArray) (num2 : Int) (text2 : ByteArray) (a2 : Option Addr) (n2 c2 : Nat) (tt : List ByteArray) (g o cap : Nat) (w : World) (e0 : w.cell? ⟨g, o, none⟩ = some (.int .i64 0)) (e1 : w.cell? ⟨g, o + 1, none⟩ = some (.int .i64 num)) (e2 : w.cell? ⟨g, o + 2, none⟩ = some (.string text)) (e3 : w.cell? ⟨g, o + 3, none⟩ = some (.slice a n c)) (e4 : w.cell? ⟨g, o + 4, none⟩ = some (.int .i64 0)) (e5 : w.cell? ⟨g, o + 5, none⟩ = some (.int .i64 num2)) (e6 : w.cell? ⟨g, o + 6, none⟩ = some (.string text2)) (e7 : w.cell? ⟨g, o + 7, none⟩ = some (.slice a2 n2 c2)) (hS : Strs w a n c ss) (hS2 : Strs w a2 n2 c2 tt) (hg : g < w.heap.size) :
    Calls Tryz.prog 47 #[.int .i64 19, .slice (some ⟨g, o, none⟩) 2 cap] w (MAns (.ok (.bool (eqP num num2 text text2 ss tt))) w) := by
  have B0 := ((((Below.refl w.heap.size w).alloc (Nat.le_refl _) (.cells #[.int .i64 0, .int .i64 0, .string ⟨#[]⟩, .slice none 0 0] 90)).alloc (by simp) (.cells #[.int .i64 0, .int .i64 num, .string text, .slice a n c] 90)).alloc (by simp; omega) (.cells #[.int .i64 0, .int .i64 num2, .string text2, .slice a2 n2 c2] 90))
  have R0 := ((Row.new w #[.int .i64 0, .int .i64 0, .string ⟨#[]⟩, .slice none 0 0] 90).alloc (.cells #[.int .i64 0, .int .i64 num, .string text, .slice a n c] 90)).alloc (.cells #[.int .i64 0, .int .i64 num2, .string text2, .slice a2 n2 c2] 90)
  have R1 := (Row.new (w.alloc (.cells #[.int .i64 0, .int .i64 0, .string ⟨#[]⟩, .slice none 0 0] 90)) #[.int .i64 0, .int .i64 num, .string text, .slice a n c] 90).alloc (.cells #[.int .i64 0, .int .i64 num2, .string text2, .slice a2 n2 c2] 90)
  have R2 := Row.new ((w.alloc (.cells #[.int .i64 0, .int .i64 0, .string ⟨#[]⟩, .slice none 0 0] 90)).alloc (.cells #[.int .i64 0, .int .i64 num, .string text, .slice a n c] 90)) #[.int .i64 0, .int .i64 num2, .string text2, .slice a2 n2 c2] 90
  simp only [World.size_alloc] at R1 R2

  have H1 := hS.below B0 (Nat.le_refl _)
  have H2 := hS2.below B0 (Nat.le_refl _)
  have HC := hide (l3same_any 0 num text a n c ss 0 num2 text2 a2 n2 c2 tt _ H1 H2)
  generalize hdq : eqP num num2 text text2 ss tt = dq at HC
  have HDQ := hide hdq
  clear H1 H2 hS hS2 hdq

  go_enter Tryz.func47, Tryz.ntmps47
  go_wp2_with fail

  refine (unhide HC).mono ?_
  rintro r w4 ⟨rfl, hb4⟩
  have R4 := R0.after hb4 (Nat.le_refl _)
  have B4 := B0.trans (hb4.mono (by simp; omega))
  have z4 := R4.lt
  dsimp only
  go_wp2_with fail

  generalize hq : dq = tq
  have HTQ := hide hq
  clear hq
  refine (l3truth_any tq _).mono ?_
  rintro r w5 ⟨⟨cd, nm, tx, xa, xn, xc, rfl, rfl, hnm, rfl, rfl, rfl, rfl⟩, hb5⟩
  have HNM := hide hnm
  clear hnm
  have R5 := R4.after hb5 (Nat.le_refl _)
  have B5 := B4.trans (hb5.mono (by omega))

  obtain ⟨x0, x1, x2, x3⟩ := row4O R5
  have f0 := fun j => R5.frozen j
  have Q1 := R5.set 0 (.int .i64 0)
  have f1 := fun j => Q1.frozen j
  have Q2 := Q1.set 1 (.int .i64 nm)
  have f2 := fun j => Q2.frozen j
  have Q3 := Q2.set 2 (.string ⟨#[]⟩)
  have f3 := fun j => Q3.frozen j
  have Q4 := Q3.set 3 (.slice none 0 0)
  obtain ⟨p0, p1, p2, p3⟩ := row4O Q4
  have BE := (((B5.setCell (p := ⟨w.heap.size, 0, none⟩) (Nat.le_refl _) (.int .i64 0)).setCell (p := ⟨w.heap.size, 1, none⟩) (Nat.le_refl _) (.int .i64 nm)).setCell (p := ⟨w.heap.size, 2, none⟩) (Nat.le_refl _) (.string ⟨#[]⟩)).setCell (p := ⟨w.heap.size, 3, none⟩) (Nat.le_refl _) (.slice none 0 0)
  dsimp only
  go_wp2_with fail
  refine bodyPost_ret (v := .agg #[.int .i64 0, .int .i64 nm, .string ⟨#[]⟩, .slice none 0 0]) (by simp [results, Tryz.results47, go_sem, p0, p1, p2, p3]) rfl ⟨⟨_, _, _, _, _, _, rfl, ?_⟩, BE⟩
  skip
  exact ⟨rfl, by rw [unhide HNM, ← unhide HTQ], rfl, rfl, rfl, rfl⟩

set_option maxRecDepth 100000 in
set_option maxHeartbeats 6400000 in
theorem applyO_ne (num : Int) (text : ByteArray) (a : Option Addr) (n c : Nat) (ss : List ByteArray) (num2 : Int) (text2 : ByteArray) (a2 : Option Addr) (n2 c2 : Nat) (tt : List ByteArray) (g o cap : Nat) (w : World) (e0 : w.cell? ⟨g, o, none⟩ = some (.int .i64 0)) (e1 : w.cell? ⟨g, o + 1, none⟩ = some (.int .i64 num)) (e2 : w.cell? ⟨g, o + 2, none⟩ = some (.string text)) (e3 : w.cell? ⟨g, o + 3, none⟩ = some (.slice a n c)) (e4 : w.cell? ⟨g, o + 4, none⟩ = some (.int .i64 0)) (e5 : w.cell? ⟨g, o + 5, none⟩ = some (.int .i64 num2)) (e6 : w.cell? ⟨g, o + 6, none⟩ = some (.string text2)) (e7 : w.cell? ⟨g, o + 7, none⟩ = some (.slice a2 n2 c2)) (hS : Strs w a n c ss) (hS2 : Strs w a2 n2 c2 tt) (hg : g < w.heap.size) :
    Calls Tryz.prog 47 #[.int .i64 20, .slice (some ⟨g, o, none⟩) 2 cap] w (MAns (.ok (.bool (!eqP num num2 text text2 ss tt))) w) := by
  have B0 := ((((Below.refl w.heap.size w).alloc (Nat.le_refl _) (.cells #[.int .i64 0, .int .i64 0, .string ⟨#[]⟩, .slice none 0 0] 90)).alloc (by simp) (.cells #[.int .i64 0, .int .i64 num, .string text, .slice a n c] 90)).alloc (by simp; omega) (.cells #[.int .i64 0, .int .i64 num2, .string text2, .slice a2 n2 c2] 90))
  have R0 := ((Row.new w #[.int .i64 0, .int .i64 0, .string ⟨#[]⟩, .slice none 0 0] 90).alloc (.cells #[.int .i64 0, .int .i64 num, .string text, .slice a n c] 90)).alloc (.cells #[.int .i64 0, .int .i64 num2, .string text2, .slice a2 n2 c2] 90)
  have R1 := (Row.new (w.alloc (.cells #[.int .i64 0, .int .i64 0, .string ⟨#[]⟩, .slice none 0 0] 90)) #[.int .i64 0, .int .i64 num, .string text, .slice a n c] 90).alloc (.cells #[.int .i64 0, .int .i64 num2, .string text2, .slice a2 n2 c2] 90)
  have R2 := Row.new ((w.alloc (.cells #[.int .i64 0, .int .i64 0, .string ⟨#[]⟩, .slice none 0 0] 90)).alloc (.cells #[.int .i64 0, .int .i64 num, .string text, .slice a n c] 90)) #[.int .i64 0, .int .i64 num2, .string text2, .slice a2 n2 c2] 90
  simp only [World.size_alloc] at R1 R2

  have H1 := hS.below B0 (Nat.le_refl _)
  have H2 := hS2.below B0 (Nat.le_refl _)
  have HC := hide (l3same_any 0 num text a n c ss 0 num2 text2 a2 n2 c2 tt _ H1 H2)
  generalize hdq : eqP num num2 text text2 ss tt = dq at HC
  have HDQ := hide hdq
  clear H1 H2 hS hS2 hdq

  go_enter Tryz.func47, Tryz.ntmps47
  go_wp2_with fail

  refine (unhide HC).mono ?_
  rintro r w4 ⟨rfl, hb4⟩
  have R4 := R0.after hb4 (Nat.le_refl _)
  have B4 := B0.trans (hb4.mono (by simp; omega))
  have z4 := R4.lt
  dsimp only
  go_wp2_with fail

  generalize hq : (!dq) = tq
  have HTQ := hide hq
  clear hq
  refine (l3truth_any tq _).mono ?_
  rintro r w5 ⟨⟨cd, nm, tx, xa, xn, xc, rfl, rfl, hnm, rfl, rfl, rfl, rfl⟩, hb5⟩
  have HNM := hide hnm
  clear hnm
  have R5 := R4.after hb5 (Nat.le_refl _)
  have B5 := B4.trans (hb5.mono (by omega))

  obtain ⟨x0, x1, x2, x3⟩ := row4O R5
  have f0 := fun j => R5.frozen j
  have Q1 := R5.set 0 (.int .i64 0)
  have f1 := fun j => Q1.frozen j
  have Q2 := Q1.set 1 (.int .i64 nm)
  have f2 := fun j => Q2.frozen j
  have Q3 := Q2.set 2 (.string ⟨#[]⟩)
  have f3 := fun j => Q3.frozen j
  have Q4 := Q3.set 3 (.slice none 0 0)
  obtain ⟨p0, p1, p2, p3⟩ := row4O Q4
  have BE := (((B5.setCell (p := ⟨w.heap.size, 0, none⟩) (Nat.le_refl _) (.int .i64 0)).setCell (p := ⟨w.heap.size, 1, none⟩) (Nat.le_refl _) (.int .i64 nm)).setCell (p := ⟨w.heap.size, 2, none⟩) (Nat.le_refl _) (.string ⟨#[]⟩)).setCell (p := ⟨w.heap.size, 3, none⟩) (Nat.le_refl _) (.slice none 0 0)
  dsimp only
  go_wp2_with fail
  refine bodyPost_ret (v := .agg #[.int .i64 0, .int .i64 nm, .string ⟨#[]⟩, .slice none 0 0]) (by simp [results, Tryz.results47, go_sem, p0, p1, p2, p3]) rfl ⟨⟨_, _, _, _, _, _, rfl, ?_⟩, BE⟩
  skip
  exact ⟨rfl, by rw [unhide HNM, ← unhide HTQ], rfl, rfl, rfl, rfl⟩

set_option maxRecDepth 100000 in
set_option maxHeartbeats 6400000 in
theorem applyO_in (s : ByteArray) (a2 : Option Addr) (n2 c2 : Nat) (tt : List ByteArray) (xa : Option Addr) (xn xc : Nat) (g o cap : Nat) (w : World) (e0 : w.cell? ⟨g, o, none⟩ = some (.int .i64 0)) (e1 : w.cell? ⟨g, o + 1, none⟩ = some (.int .i64 0)) (e2 : w.cell? ⟨g, o + 2, none⟩ = some (.string s)) (e3 : w.cell? ⟨g, o + 3, none⟩ = some (.slice xa xn xc)) (e4 : w.cell? ⟨g, o + 4, none⟩ = some (.int .i64 0)) (e5 : w.cell? ⟨g, o + 5, none⟩ = some (.int .i64 0)) (e6 : w.cell? ⟨g, o + 6, none⟩ = some (.string ⟨#[]⟩)) (e7 : w.cell? ⟨g, o + 7, none⟩ = some (.slice a2 n2 c2)) (hS2 : Strs w a2 n2 c2 tt) (hg : g < w.heap.size) :
    Calls Tryz.prog 47 #[.int .i64 23, .slice (some ⟨g, o, none⟩) 2 cap] w (MAns (evBin 23 (.text s) (.set tt)) w) := by
  have B0 := ((((Below.refl w.heap.size w).alloc (Nat.le_refl _) (.cells #[.int .i64 0, .int .i64 0, .string ⟨#[]⟩, .slice none 0 0] 90)).alloc (by simp) (.cells #[.int .i64 0, .int .i64 0, .string s, .slice xa xn xc] 90)).alloc (by simp; omega) (.cells #[.int .i64 0, .int .i64 0, .string ⟨#[]⟩, .slice a2 n2 c2] 90))
  have R0 := ((Row.new w #[.int .i64 0, .int .i64 0, .string ⟨#[]⟩, .slice none 0 0] 90).alloc (.cells #[.int .i64 0, .int .i64 0, .string s, .slice xa xn xc] 90)).alloc (.cells #[.int .i64 0, .int .i64 0, .string ⟨#[]⟩, .slice a2 n2 c2] 90)
  have R1 := (Row.new (w.alloc (.cells #[.int .i64 0, .int .i64 0, .string ⟨#[]⟩, .slice none 0 0] 90)) #[.int .i64 0, .int .i64 0, .string s, .slice xa xn xc] 90).alloc (.cells #[.int .i64 0, .int .i64 0, .string ⟨#[]⟩, .slice a2 n2 c2] 90)
  have R2 := Row.new ((w.alloc (.cells #[.int .i64 0, .int .i64 0, .string ⟨#[]⟩, .slice none 0 0] 90)).alloc (.cells #[.int .i64 0, .int .i64 0, .string s, .slice xa xn xc] 90)) #[.int .i64 0, .int .i64 0, .string ⟨#[]⟩, .slice a2 n2 c2] 90
  simp only [World.size_alloc] at R1 R2

  have H2 := hS2.below B0 (Nat.le_refl _)
  have HC := hide (l1has_any a2 n2 c2 tt s _ H2)
  generalize hdq : hasB tt s = dq at HC
  have HDQ := hide hdq
  clear H2 hS2 hdq

  go_enter Tryz.func47, Tryz.ntmps47
  go_wp2_with fail

  refine (unhide HC).mono ?_
  rintro r w4 ⟨rfl, hw4⟩
  rw [hw4]
  clear hw4
  dsimp only
  go_wp2_with fail

  generalize hq : dq = tq
  have HTQ := hide hq
  clear hq
  refine (l3truth_any tq _).mono ?_
  rintro r w5 ⟨⟨cd, nm, tx, xa, xn, xc, rfl, rfl, hnm, rfl, rfl, rfl, rfl⟩, hb5⟩
  have HNM := hide hnm
  clear hnm
  have R5 := R0.after hb5 (Nat.le_refl _)
  have B5 := B0.trans (hb5.mono (by simp; omega))

  obtain ⟨x0, x1, x2, x3⟩ := row4O R5
  have f0 := fun j => R5.frozen j
  have Q1 := R5.set 0 (.int .i64 0)
  have f1 := fun j => Q1.frozen j
  have Q2 := Q1.set 1 (.int .i64 nm)
  have f2 := fun j => Q2.frozen j
  have Q3 := Q2.set 2 (.string ⟨#[]⟩)
  have f3 := fun j => Q3.frozen j
  have Q4 := Q3.set 3 (.slice none 0 0)
  obtain ⟨p0, p1, p2, p3⟩ := row4O Q4
  have BE := (((B5.setCell (p := ⟨w.heap.size, 0, none⟩) (Nat.le_refl _) (.int .i64 0)).setCell (p := ⟨w.heap.size, 1, none⟩) (Nat.le_refl _) (.int .i64 nm)).setCell (p := ⟨w.heap.size, 2, none⟩) (Nat.le_refl _) (.string ⟨#[]⟩)).setCell (p := ⟨w.heap.size, 3, none⟩) (Nat.le_refl _) (.slice none 0 0)
  dsimp only
  go_wp2_with fail
  refine bodyPost_ret (v := .agg #[.int .i64 0, .int .i64 nm, .string ⟨#[]⟩, .slice none 0 0]) (by simp [results, Tryz.results47, go_sem, p0, p1, p2, p3]) rfl ⟨⟨_, _, _, _, _, _, rfl, ?_⟩, BE⟩
  rw [evBin_in]
  exact ⟨rfl, by rw [unhide HNM, ← unhide HTQ, ← unhide HDQ]; rw [has_decO], rfl, rfl, rfl, rfl⟩

set_option maxRecDepth 100000 in
set_option maxHeartbeats 6400000 in
theorem applyO_within (a : Option Addr) (n c : Nat) (ss : List ByteArray) (a2 : Option Addr) (n2 c2 : Nat) (tt : List ByteArray) (g o cap : Nat) (w : World) (e0 : w.cell? ⟨g, o, none⟩ = some (.int .i64 0)) (e1 : w.cell? ⟨g, o + 1, none⟩ = some (.int .i64 0)) (e2 : w.cell? ⟨g, o + 2, none⟩ = some (.string ⟨#[]⟩)) (e3 : w.cell? ⟨g, o + 3, none⟩ = some (.slice a n c)) (e4 : w.cell? ⟨g, o + 4, none⟩ = some (.int .i64 0)) (e5 : w.cell? ⟨g, o + 5, none⟩ = some (.int .i64 0)) (e6 : w.cell? ⟨g, o + 6, none⟩ = some (.string ⟨#[]⟩)) (e7 : w.cell? ⟨g, o + 7, none⟩ = some (.slice a2 n2 c2)) (hS : Strs w a n c ss) (hS2 : Strs w a2 n2 c2 tt) (hg : g < w.heap.size) :
    Calls Tryz.prog 47 #[.int .i64 24, .slice (some ⟨g, o, none⟩) 2 cap] w (MAns (evBin 24 (.set ss) (.set tt)) w) := by
  have B0 := ((((Below.refl w.heap.size w).alloc (Nat.le_refl _) (.cells #[.int .i64 0, .int .i64 0, .string ⟨#[]⟩, .slice none 0 0] 90)).alloc (by simp) (.cells #[.int .i64 0, .int .i64 0, .string ⟨#[]⟩, .slice a n c] 90)).alloc (by simp; omega) (.cells #[.int .i64 0, .int .i64 0, .string ⟨#[]⟩, .slice a2 n2 c2] 90))
  have R0 := ((Row.new w #[.int .i64 0, .int .i64 0, .string ⟨#[]⟩, .slice none 0 0] 90).alloc (.cells #[.int .i64 0, .int .i64 0, .string ⟨#[]⟩, .slice a n c] 90)).alloc (.cells #[.int .i64 0, .int .i64 0, .string ⟨#[]⟩, .slice a2 n2 c2] 90)
  have R1 := (Row.new (w.alloc (.cells #[.int .i64 0, .int .i64 0, .string ⟨#[]⟩, .slice none 0 0] 90)) #[.int .i64 0, .int .i64 0, .string ⟨#[]⟩, .slice a n c] 90).alloc (.cells #[.int .i64 0, .int .i64 0, .string ⟨#[]⟩, .slice a2 n2 c2] 90)
  have R2 := Row.new ((w.alloc (.cells #[.int .i64 0, .int .i64 0, .string ⟨#[]⟩, .slice none 0 0] 90)).alloc (.cells #[.int .i64 0, .int .i64 0, .string ⟨#[]⟩, .slice a n c] 90)) #[.int .i64 0, .int .i64 0, .string ⟨#[]⟩, .slice a2 n2 c2] 90
  simp only [World.size_alloc] at R1 R2

  have H1 := hS.below B0 (Nat.le_refl _)
  have H2 := hS2.below B0 (Nat.le_refl _)
  have HC := hide (sWithin_any a n c ss a2 n2 c2 tt _ H1 H2)
  generalize hdq : withinB ss tt = dq at HC
  have HDQ := hide hdq
  clear H1 H2 hS hS2 hdq

  go_enter Tryz.func47, Tryz.ntmps47
  go_wp2_with fail

  refine (unhide HC).mono ?_
  rintro r w4 ⟨rfl, hb4⟩
  have R4 := R0.after hb4 (Nat.le_refl _)
  have B4 := B0.trans (hb4.mono (by simp; omega))
  have z4 := R4.lt
  dsimp only
  go_wp2_with fail

  generalize hq : dq = tq
  have HTQ := hide hq
  clear hq
  refine (l3truth_any tq _).mono ?_
  rintro r w5 ⟨⟨cd, nm, tx, xa, xn, xc, rfl, rfl, hnm, rfl, rfl, rfl, rfl⟩, hb5⟩
  have HNM := hide hnm
  clear hnm
  have R5 := R4.after hb5 (Nat.le_refl _)
  have B5 := B4.trans (hb5.mono (by omega))

  obtain ⟨x0, x1, x2, x3⟩ := row4O R5
  have f0 := fun j => R5.frozen j
  have Q1 := R5.set 0 (.int .i64 0)
  have f1 := fun j => Q1.frozen j
  have Q2 := Q1.set 1 (.int .i64 nm)
  have f2 := fun j => Q2.frozen j
  have Q3 := Q2.set 2 (.string ⟨#[]⟩)
  have f3 := fun j => Q3.frozen j
  have Q4 := Q3.set 3 (.slice none 0 0)
  obtain ⟨p0, p1, p2, p3⟩ := row4O Q4
  have BE := (((B5.setCell (p := ⟨w.heap.size, 0, none⟩) (Nat.le_refl _) (.int .i64 0)).setCell (p := ⟨w.heap.size, 1, none⟩) (Nat.le_refl _) (.int .i64 nm)).setCell (p := ⟨w.heap.size, 2, none⟩) (Nat.le_refl _) (.string ⟨#[]⟩)).setCell (p := ⟨w.heap.size, 3, none⟩) (Nat.le_refl _) (.slice none 0 0)
  dsimp only
  go_wp2_with fail
  refine bodyPost_ret (v := .agg #[.int .i64 0, .int .i64 nm, .string ⟨#[]⟩, .slice none 0 0]) (by simp [results, Tryz.results47, go_sem, p0, p1, p2, p3]) rfl ⟨⟨_, _, _, _, _, _, rfl, ?_⟩, BE⟩
  rw [evBin_within, unhide HDQ]
  exact ⟨rfl, by rw [unhide HNM, ← unhide HTQ], rfl, rfl, rfl, rfl⟩

/-- an operator over one value -/
theorem applyO1_any (op : Int) (v : Vv) (t : Int) (ht : nz (tyOp op [v.ty]) = some t) (num : Int) (text : ByteArray) (a : Option Addr) (n c : Nat) (g o cap : Nat) (w : World) (hv : MVx w num text a n c v) (e0 : w.cell? ⟨g, o, none⟩ = some (.int .i64 0)) (e1 : w.cell? ⟨g, o + 1, none⟩ = some (.int .i64 num)) (e2 : w.cell? ⟨g, o + 2, none⟩ = some (.string text)) (e3 : w.cell? ⟨g, o + 3, none⟩ = some (.slice a n c)) (hg : g < w.heap.size) :
    Calls Tryz.prog 47 #[.int .i64 op, .slice (some ⟨g, o, none⟩) 1 cap] w (MAns (evUn op v) w) := by
  rcases tyOp1_inv ht with ⟨rfl, hk, _⟩ | ⟨rfl, hk, _⟩ | ⟨rfl, hk, _⟩
  · obtain ⟨k, rfl⟩ := Vv.int_of hk
    obtain ⟨⟨⟨rfl, hi⟩, rfl⟩, _⟩ := hv
    exact applyO_neg _ hi _ _ _ g o cap w e0 e1 e2 e3 hg
  · obtain ⟨k, rfl⟩ := Vv.bool_of hk
    obtain ⟨⟨rfl, rfl⟩, _⟩ := hv
    exact applyO_not _ _ _ _ g o cap w e0 e1 e2 e3 hg
  · obtain ⟨k, rfl⟩ := Vv.set_of hk
    obtain ⟨⟨rfl, rfl⟩, hS, _, _⟩ := hv
    exact applyO_size a n c k g o cap w e0 e1 e2 e3 hS hg

/-- an operator over two values -/
theorem applyO2_any (op : Int) (v u : Vv) (t : Int) (ht : nz (tyOp op [v.ty, u.ty]) = some t) (hc : op ≠ 25 ∧ op ≠ 26) (num : Int) (text : ByteArray) (a : Option Addr) (n c : Nat) (num2 : Int) (text2 : ByteArray) (a2 : Option Addr) (n2 c2 : Nat) (g o cap : Nat) (w : World) (hv : MVx w num text a n c v) (hu : MVx w num2 text2 a2 n2 c2 u) (e0 : w.cell? ⟨g, o, none⟩ = some (.int .i64 0)) (e1 : w.cell? ⟨g, o + 1, none⟩ = some (.int .i64 num)) (e2 : w.cell? ⟨g, o + 2, none⟩ = some (.string text)) (e3 : w.cell? ⟨g, o + 3, none⟩ = some (.slice a n c)) (e4 : w.cell? ⟨g, o + 4, none⟩ = some (.int .i64 0)) (e5 : w.cell? ⟨g, o + 5, none⟩ = some (.int .i64 num2)) (e6 : w.cell? ⟨g, o + 6, none⟩ = some (.string text2)) (e7 : w.cell? ⟨g, o + 7, none⟩ = some (.slice a2 n2 c2)) (hg : g < w.heap.size) :
    Calls Tryz.prog 47 #[.int .i64 op, .slice (some ⟨g, o, none⟩) 2 cap] w (MAns (evBin op v u) w) := by
  rcases tyOp2_inv ht with ⟨ho, hk, hl, _⟩ | ⟨ho, hk, hl, _⟩ | ⟨ho, hk, _⟩ | ⟨ho, hk, hl, _⟩ | ⟨rfl, hk, hl, _⟩ | ⟨rfl, hk, hl, _⟩ | ⟨ho, hk, hl, _⟩
  · obtain ⟨k, rfl⟩ := Vv.int_of hk
    obtain ⟨l, rfl⟩ := Vv.int_of hl
    obtain ⟨⟨⟨rfl, hi⟩, rfl⟩, _⟩ := hv
    obtain ⟨⟨⟨rfl, hj⟩, rfl⟩, _⟩ := hu
    rcases (show op = 11 ∨ op = 12 ∨ op = 13 ∨ op = 14 ∨ op = 15 by omega) with rfl | rfl | rfl | rfl | rfl
    · exact applyO_num11 _ _ hi hj _ _ _ _ _ _ g o cap w e0 e1 e2 e3 e4 e5 e6 e7 hg
    · exact applyO_num12 _ _ hi hj _ _ _ _ _ _ g o cap w e0 e1 e2 e3 e4 e5 e6 e7 hg
    · exact applyO_num13 _ _ hi hj _ _ _ _ _ _ g o cap w e0 e1 e2 e3 e4 e5 e6 e7 hg
    · exact applyO_num14 _ _ hi hj _ _ _ _ _ _ g o cap w e0 e1 e2 e3 e4 e5 e6 e7 hg
    · exact applyO_num15 _ _ hi hj _ _ _ _ _ _ g o cap w e0 e1 e2 e3 e4 e5 e6 e7 hg
  · obtain ⟨k, rfl⟩ := Vv.set_of hk
    obtain ⟨l, rfl⟩ := Vv.set_of hl
    obtain ⟨⟨rfl, rfl⟩, hS, l1, k1⟩ := hv
    obtain ⟨⟨rfl, rfl⟩, hS2, l2, k2⟩ := hu
    rcases (show op = 16 ∨ op = 17 ∨ op = 18 by omega) with rfl | rfl | rfl
    · exact applyO_union a n c k a2 n2 c2 l g o cap w e0 e1 e2 e3 e4 e5 e6 e7 hS hS2 k1.1 k2.1 hg
    · exact applyO_meet a n c k a2 n2 c2 l g o cap w e0 e1 e2 e3 e4 e5 e6 e7 hS hS2 l1 hg
    · exact applyO_minus a n c k a2 n2 c2 l g o cap w e0 e1 e2 e3 e4 e5 e6 e7 hS hS2 l1 hg
  · have hs := hv.same hu hk
    have q1 := hv.2
    have q2 := hu.2
    rcases ho with rfl | rfl
    · rw [evBin_eq, hs]
      exact applyO_eq num text a n c v.names num2 text2 a2 n2 c2 u.names g o cap w e0 e1 e2 e3 e4 e5 e6 e7 q1.1 q2.1 hg
    · rw [evBin_ne, hs]
      exact applyO_ne num text a n c v.names num2 text2 a2 n2 c2 u.names g o cap w e0 e1 e2 e3 e4 e5 e6 e7 q1.1 q2.1 hg
  · obtain ⟨k, rfl⟩ := Vv.int_of hk
    obtain ⟨l, rfl⟩ := Vv.int_of hl
    obtain ⟨⟨⟨rfl, hi⟩, rfl⟩, _⟩ := hv
    obtain ⟨⟨⟨rfl, hj⟩, rfl⟩, _⟩ := hu
    rcases ho with rfl | rfl
    · exact applyO_less _ _ hi hj _ _ _ _ _ _ g o cap w e0 e1 e2 e3 e4 e5 e6 e7 hg
    · exact applyO_most _ _ hi hj _ _ _ _ _ _ g o cap w e0 e1 e2 e3 e4 e5 e6 e7 hg
  · obtain ⟨k, rfl⟩ := Vv.text_of hk
    obtain ⟨l, rfl⟩ := Vv.set_of hl
    obtain ⟨⟨rfl, rfl⟩, _⟩ := hv
    obtain ⟨⟨rfl, rfl⟩, hS2, l2, k2⟩ := hu
    exact applyO_in _ a2 n2 c2 l _ _ _ g o cap w e0 e1 e2 e3 e4 e5 e6 e7 hS2 hg
  · obtain ⟨k, rfl⟩ := Vv.set_of hk
    obtain ⟨l, rfl⟩ := Vv.set_of hl
    obtain ⟨⟨rfl, rfl⟩, hS, l1, k1⟩ := hv
    obtain ⟨⟨rfl, rfl⟩, hS2, l2, k2⟩ := hu
    exact applyO_within a n c k a2 n2 c2 l g o cap w e0 e1 e2 e3 e4 e5 e6 e7 hS hS2 hg
  · omega

end Go.Proofs.YtogenboibgddaaaGreatDoor

namespace Go.Proofs.YtogenboibgddaaaGreatDoor
open Go.RowKit
set_option linter.unusedVariables false

/-- but for some blocks nothing that was there is changed -/
structure Kpt (S : Nat → Prop) (w w' : World) : Prop where
  os : w'.os = w.os
  tape : w'.tape = w.tape
  output : w'.output = w.output
  size : w.heap.size ≤ w'.heap.size
  block : ∀ k, k < w.heap.size → ¬ S k → w'.heap[k]? = w.heap[k]?

theorem Kpt.of_below {S : Nat → Prop} {w w' : World} (h : Below w.heap.size w w') : Kpt S w w' := ⟨h.os, h.tape, h.output, h.size, fun k hk _ => h.block k hk⟩

theorem Kpt.refl (S : Nat → Prop) (w : World) : Kpt S w w := ⟨rfl, rfl, rfl, Nat.le_refl _, fun _ _ _ => rfl⟩

/-- the second may touch what came new in the first -/
theorem Kpt.trans {S T : Nat → Prop} {a b c : World} (h : Kpt S a b) (k : Kpt T b c) (hT : ∀ q, q < a.heap.size → T q → S q) : Kpt S a c :=
  ⟨k.os.trans h.os, k.tape.trans h.tape, k.output.trans h.output, Nat.le_trans h.size k.size, fun q hq hS => (k.block q (Nat.lt_of_lt_of_le hq h.size) (fun t => hS (hT q hq t))).trans (h.block q hq hS)⟩

theorem Kpt.setCell {S : Nat → Prop} {a b : World} (h : Kpt S a b) {p : Addr} (hp : p.block < a.heap.size → S p.block) (u : Value) : Kpt S a (b.setCell p u) :=
  ⟨h.os, h.tape, h.output, by simpa using h.size, fun q hq hS => (heap_setCell_other b p q u (fun e => hS (by subst e; exact hp hq))).trans (h.block q hq hS)⟩

theorem Row.kpt {S : Nat → Prop} {w w' : World} {b : Nat} {cs : Array Value} {t : TypeId} (h : Row w b cs t) (k : Kpt S w w') (hS : ¬ S b) : Row w' b cs t := ⟨(k.block b h.lt hS).trans h.out⟩

theorem rowGrown {w w' : World} {b : Nat} {cs : Array Value} {t : TypeId} {row : Option Nat} (h : Row w b cs t) (g : w.grownBy w' row) (hr : some b ≠ row) : Row w' b cs t := ⟨(g.block b h.lt hr).trans h.out⟩

theorem infoVal : (Tryz.prog.info? 138).map (fun i => (i.zero, i.size, i.bytes)) = some (some .nilIface, 1, 16) := by kernel_rfl

/-- the machine's cells -/
def mcV (pv : Value) (s : Int) (iv : Value) (R : Rq) (q1 q2 sv lv : Value) (at_ ko co : Int) (ov : Value) : Array Value := #[pv, .int .i64 s, iv, .string R.cl, .string R.us, .int .i64 R.lv, .int .i64 R.nw, q1, q2, sv, lv, .int .i64 at_, .int .i64 ko, .int .i64 co, ov]

set_option maxRecDepth 100000 in
set_option maxHeartbeats 3200000 in
theorem push_any (mb B n sc : Nat) (pv : Value) (s : Int) (iv : Value) (R : Rq) (q1 q2 lv : Value) (at_ ko co : Int) (ov : Value) (sa : Option Addr) (xs : List Value) (t : TypeId) (u : Value) (w : World) (hR : Row w mb (mcV pv s iv R q1 q2 (.slice sa n sc) lv at_ ko co ov) 63) (hO : w.ownsRow B 138 1 (.slice sa n sc) n xs) (hn : n ≤ 1000) (hB : B ≤ mb) :
    Calls Tryz.prog 87 #[.pointer (some ⟨mb, 0, none⟩), .iface t u] w fun r w' => r = .returned (.tuple #[]) ∧ ∃ g cap, Row w' mb (mcV pv s iv R q1 q2 (.slice (some ⟨g, 0, none⟩) (n + 1) cap) lv at_ ko co ov) 63 ∧ w'.ownsRow B 138 1 (.slice (some ⟨g, 0, none⟩) (n + 1) cap) (n + 1) (xs ++ [.iface t u]) ∧ ((Value.slice sa n sc).ownBlock = some g ∨ w.heap.size ≤ g) ∧ Kpt (fun k => k = mb ∨ (Value.slice sa n sc).ownBlock = some k) w w' := by
  obtain ⟨ti, hti, hz0, hz1, hz2⟩ := info_parts infoVal
  have hmb := hR.lt
  have c9 : w.cell? ⟨mb, 9, none⟩ = some (.slice sa n sc) := hR.cell 9
  have hne : (Value.slice sa n sc).ownBlock ≠ some mb := own_ne_row hR hO (by decide)
  have C0 := (Below.refl w.heap.size w).alloc (Nat.le_refl _) (.cells #[.iface t u] 138)
  have R0 := hR.after C0 (Nat.le_refl _)
  have NW := World.news_of_block (heap_alloc_new w (.cells #[.iface t u] 138))
  have HR := hide R0
  clear hR
  go_enter Tryz.func87, Tryz.ntmps87
  go_wp2_with (at_builtin; refine wpList_append_lies _ rfl _ _ 61 rfl B 138 ti .nilIface 1 16 Tryz.underlying61 hti hz0 hz1 hz2 rfl (by decide) (.slice sa n sc) n xs rfl (World.ownsRow.alloc hO _) ⟨w.heap.size, 0, none⟩ 1 1 [.iface t u] rfl rfl NW ?c2 (by decide) ?c3 ?c4 ?c5 (w.heap.size + 1) (by simp) ?_)
  case c2 => rfl
  case c3 => unfold maxLen; omega
  case c4 => omega
  case c5 => omega
  intro g7 cap7 w7 O7 hgrow hat hgl
  have R7 := rowGrown (unhide HR) hgrow (fun e => hne e.symm)
  have d9 : w7.cell? ⟨mb, 9, none⟩ = some (.slice sa n sc) := R7.cell 9
  have f9 := fun j => R7.frozen j
  have hg7 : g7 ≠ mb := fun e => by
    rcases hat with q | q
    · rw [e] at q; exact hne q
    · omega
  have HE := hide (show Row (w7.setCell ⟨mb, 9, none⟩ (.slice (some ⟨g7, 0, none⟩) (n + 1) cap7)) mb (mcV pv s iv R q1 q2 (.slice (some ⟨g7, 0, none⟩) (n + 1) cap7) lv at_ ko co ov) 63 from R7.set 9 _)
  have HO := hide (own_set3 O7 ⟨mb, 9, none⟩ (.slice (some ⟨g7, 0, none⟩) (n + 1) cap7) (fun q hq => by simp [Value.ownBlock] at hq; subst hq; exact hg7))
  have K7 : Kpt (fun k => k = mb ∨ (Value.slice sa n sc).ownBlock = some k) w w7 := ⟨hgrow.os, hgrow.tape, hgrow.output, Nat.le_trans C0.size hgrow.size, fun k hk hS => (hgrow.block k (Nat.lt_of_lt_of_le hk C0.size) (fun e => hS (.inr e.symm))).trans (C0.block k hk)⟩
  have HK := hide (K7.setCell (p := ⟨mb, 9, none⟩) (fun _ => .inl rfl) (.slice (some ⟨g7, 0, none⟩) (n + 1) cap7))
  have HA := hide (show (Value.slice sa n sc).ownBlock = some g7 ∨ w.heap.size ≤ g7 from hat.elim .inl (fun e => .inr (by omega)))
  clear R7 O7 hgrow hat hgl K7
  go_wp2_with fail
  go_end0
  exact ⟨rfl, g7, cap7, unhide HE, unhide HO, unhide HA, unhide HK⟩

theorem wrap_top {n : Nat} (h0 : 0 < n) (h : n ≤ 1000) : IntKind.i64.wrap ((n : Int) - 1) = ((n - 1 : Nat) : Int) := by
  rw [show (n : Int) - 1 = ((n - 1 : Nat) : Int) by omega]
  simp [IntKind.wrap, IntKind.bits, IntKind.signed]
  omega

set_option maxRecDepth 100000 in
set_option maxHeartbeats 3200000 in
theorem pop_any (mb B n sc : Nat) (pv : Value) (s : Int) (iv : Value) (R : Rq) (q1 q2 lv : Value) (at_ ko co : Int) (ov : Value) (sa : Option Addr) (xs : List Value) (t : TypeId) (u : Value) (w : World) (hR : Row w mb (mcV pv s iv R q1 q2 (.slice sa (n + 1) sc) lv at_ ko co ov) 63) (hO : w.ownsRow B 138 1 (.slice sa (n + 1) sc) (n + 1) (xs ++ [.iface t u])) (hn : n ≤ 900) :
    Calls Tryz.prog 90 #[.pointer (some ⟨mb, 0, none⟩)] w fun r w' => r = .returned (.iface t u) ∧ Row w' mb (mcV pv s iv R q1 q2 (.slice sa n sc) lv at_ ko co ov) 63 ∧ w'.ownsRow B 138 1 (.slice sa n sc) n xs ∧ Kpt (fun k => k = mb) w w' := by
  have hxl : xs.length = n := by have := hO.1; simp at this; omega
  have hne : (Value.slice sa (n + 1) sc).ownBlock ≠ some mb := own_ne_row hR hO (by decide)
  obtain ⟨x, c, e, hx⟩ := owns_form2 hO
  simp only [Value.slice.injEq] at e
  obtain ⟨rfl, _, rfl⟩ := e
  obtain ⟨g, rfl, _, hc⟩ := hx (by omega)
  have cg : w.cell? ⟨g, n, none⟩ = some (.iface t u) := hc n _ (by rw [List.getElem?_append_right (by omega), hxl, Nat.sub_self]; rfl)
  have hcap : n + 1 ≤ sc := by
    rcases hO.2 with ⟨q, _⟩ | ⟨_, _, _, q, _, _, h1, _⟩
    · cases q
    · cases q; exact h1
  have S := ownsRow_short hO (m := n) (by omega)
  rw [Nat.mul_one, List.take_left' hxl] at S
  have c9 : w.cell? ⟨mb, 9, none⟩ = some (.slice (some ⟨g, 0, none⟩) (n + 1) sc) := hR.cell 9
  have f9 := fun j => hR.frozen j
  have hgm : g ≠ mb := fun e => hne (by rw [e]; rfl)
  have HE := hide (show Row (w.setCell ⟨mb, 9, none⟩ (.slice (some ⟨g, 0, none⟩) n sc)) mb (mcV pv s iv R q1 q2 (.slice (some ⟨g, 0, none⟩) n sc) lv at_ ko co ov) 63 from hR.set 9 _)
  have HO := hide (own_set3 S ⟨mb, 9, none⟩ (.slice (some ⟨g, 0, none⟩) n sc) (fun q hq => by simp [Value.ownBlock] at hq; subst hq; exact hgm))
  have HK := hide (show Kpt (fun k => k = mb) w (w.setCell ⟨mb, 9, none⟩ (.slice (some ⟨g, 0, none⟩) n sc)) from Kpt.setCell (S := fun k => k = mb) (Kpt.refl _ w) (p := ⟨mb, 9, none⟩) (fun _ => rfl) _)
  have wt : IntKind.i64.wrap (((n + 1 : Nat) : Int) - 1) = (n : Int) := by have := wrap_top (n := n + 1) (by omega) (by omega); simpa using this
  have l1 : (n : Int) < ((n + 1 : Nat) : Int) := by omega
  have l2 : (n : Int) ≤ (sc : Int) := by omega
  clear hO hR hc S hx
  go_enter Tryz.func90, Tryz.ntmps90
  go_wp2_with fail
  go_ret
  exact ⟨rfl, unhide HE, unhide HO, unhide HK⟩

end Go.Proofs.YtogenboibgddaaaGreatDoor

namespace Go.Proofs.YtogenboibgddaaaGreatDoor
open Go.RowKit
set_option linter.unusedVariables false

variable {aS aO aZ aW : Addr}

theorem Strs.kpt {S : Nat → Prop} {w w' : World} {a : Option Addr} {n c : Nat} {ss : List ByteArray} (h : Strs w a n c ss) (k : Kpt S w w') (hS : ∀ ad, a = some ad → 0 < n → ¬ S ad.block) : Strs w' a n c ss :=
  ⟨h.len, h.cap, h.small, h.sizes, fun j hj => by
    obtain ⟨b, off, ha, hl, hc⟩ := h.cells j hj
    exact ⟨b, off, ha, Nat.lt_of_lt_of_le hl k.size, (World.cell?_of_block (k.block b hl (hS _ ha (by omega)))).trans hc⟩⟩

theorem VIs.kpt {G S : Nat → Prop} {w w' : World} {x : Value} {v : Vv} (h : VIs G w x v) (k : Kpt S w w') (hS : ∀ b, G b → ¬ S b) : VIs G w' x v := by
  cases v with
  | bool b => exact h
  | int n => exact h
  | text s => exact h
  | set ss =>
    obtain ⟨a, n, c, h1, h2, h3, h4⟩ := h
    exact ⟨a, n, c, h1, h2.kpt k (fun ad e h0 => hS _ (h4 ad e h0)), h3, h4⟩

/-- other blocks are good -/
theorem VIs.good {G G' : Nat → Prop} {w : World} {x : Value} {v : Vv} (h : VIs G w x v) (hG : ∀ b, b < w.heap.size → G b → G' b) : VIs G' w x v := by
  cases v with
  | bool b => exact h
  | int n => exact h
  | text s => exact h
  | set ss =>
    obtain ⟨a, n, c, h1, h2, h3, h4⟩ := h
    refine ⟨a, n, c, h1, h2, h3, fun ad e h0 => hG _ ?_ (h4 ad e h0)⟩
    obtain ⟨b, off, ha, hl, _⟩ := h2.cells 0 h0
    rw [e] at ha
    cases ha
    exact hl

/-- the blocks in which a set may lie -/
def gdM (mb lb : Nat) (sa : Option Addr) (b : Nat) : Prop := b ≠ mb ∧ b ≠ lb ∧ ∀ ad, sa = some ad → b ≠ ad.block

/-- a machine that runs -/
structure McO (B mb lb : Nat) (pv iv q1 q2 : Value) (s : Int) (R : Rq) (S : Nat) (at_ : Int) (st : List Vv) (sl : List (Option Vv)) (sa : Option Addr) (sc : Nat) (xs ys : List Value) (w : World) : Prop where
  row : Row w mb (mcV pv s iv R q1 q2 (.slice sa st.length sc) (.slice (some ⟨lb, 0, none⟩) S S) at_ 0 0 (.slice none 0 0)) 63
  stk : w.ownsRow B 138 1 (.slice sa st.length sc) st.length xs
  slr : Row w lb ys.toArray 138
  len : ys.length = S ∧ sl.length = S
  vst : ∀ j, (h : j < st.length) → ∃ x, xs[j]? = some x ∧ VIs (gdM mb lb sa) w x st[j]
  vsl : ∀ j, j < S → ∃ y, ys[j]? = some y ∧ ∀ v, sl.getD j none = some v → VIs (gdM mb lb sa) w y v
  low : B ≤ mb ∧ B ≤ lb
  apart : (Value.slice sa st.length sc).ownBlock ≠ some lb

/-- the machine's own blocks -/
def ownM (mb lb : Nat) (sv : Value) (k : Nat) : Prop := k = mb ∨ k = lb ∨ sv.ownBlock = some k

theorem McO.below {B mb lb : Nat} {pv iv q1 q2 : Value} {s : Int} {R : Rq} {S : Nat} {at_ : Int} {st : List Vv} {sl : List (Option Vv)} {sa : Option Addr} {sc : Nat} {xs ys : List Value} {w w' : World} (h : McO B mb lb pv iv q1 q2 s R S at_ st sl sa sc xs ys w) (hb : Below w.heap.size w w') : McO B mb lb pv iv q1 q2 s R S at_ st sl sa sc xs ys w' :=
  ⟨h.row.after hb (Nat.le_refl _), owns_blocks2 h.stk (fun q hq => hb.block q (h.stk.lt q hq).2), h.slr.after hb (Nat.le_refl _), h.len, fun j hj => by
    obtain ⟨x, e, hx⟩ := h.vst j hj
    exact ⟨x, e, hx.below hb (Nat.le_refl _)⟩, fun j hj => by
    obtain ⟨y, e, hy⟩ := h.vsl j hj
    exact ⟨y, e, fun v hv => (hy v hv).below hb (Nat.le_refl _)⟩, h.low, h.apart⟩

theorem own_of_some {g n c : Nat} : (Value.slice (some ⟨g, 0, none⟩) n c).ownBlock = some g := rfl

/-- a value is pushed -/
theorem McO.push {B mb lb : Nat} {pv iv q1 q2 : Value} {s : Int} {R : Rq} {S : Nat} {at_ at' : Int} {st : List Vv} {sl : List (Option Vv)} {sa : Option Addr} {sc : Nat} {xs ys : List Value} {w w' : World} (h : McO B mb lb pv iv q1 q2 s R S at_ st sl sa sc xs ys w) {x : Value} {v : Vv} (hx : VIs (gdM mb lb sa) w x v) {g cap : Nat}
    (R' : Row w' mb (mcV pv s iv R q1 q2 (.slice (some ⟨g, 0, none⟩) (st.length + 1) cap) (.slice (some ⟨lb, 0, none⟩) S S) at' 0 0 (.slice none 0 0)) 63) (O' : w'.ownsRow B 138 1 (.slice (some ⟨g, 0, none⟩) (st.length + 1) cap) (st.length + 1) (xs ++ [x])) (hg : (Value.slice sa st.length sc).ownBlock = some g ∨ w.heap.size ≤ g) (k : Kpt (fun k => k = mb ∨ (Value.slice sa st.length sc).ownBlock = some k) w w') :
    McO B mb lb pv iv q1 q2 s R S at' (st ++ [v]) sl (some ⟨g, 0, none⟩) cap (xs ++ [x]) ys w' := by
  have hl : (st ++ [v]).length = st.length + 1 := by simp
  have hxl : xs.length = st.length := by have := h.stk.1; omega
  have own_ad : ∀ q, (Value.slice sa st.length sc).ownBlock = some q → ∃ ad, sa = some ad ∧ ad.block = q := fun q hq => by
    cases sa with
    | none => cases hq
    | some ad => exact ⟨ad, rfl, by simpa [Value.ownBlock] using hq⟩
  have hS : ∀ b, gdM mb lb sa b → ¬ (b = mb ∨ (Value.slice sa st.length sc).ownBlock = some b) := fun b hb h' => by
    rcases h' with e | e
    · exact hb.1 e
    · obtain ⟨ad, e1, e2⟩ := own_ad b e
      exact hb.2.2 ad e1 e2.symm
  have hG : ∀ b, b < w.heap.size → gdM mb lb sa b → gdM mb lb (some ⟨g, 0, none⟩) b := fun b hb hg' => ⟨hg'.1, hg'.2.1, fun ad e => by
    cases e
    show b ≠ g
    rcases hg with q | q
    · obtain ⟨ad, e1, e2⟩ := own_ad g q
      have := hg'.2.2 ad e1
      rw [e2] at this
      exact this
    · omega⟩
  have hlb : lb ≠ mb := fun e => by
    have := h.row.out
    rw [← e, h.slr.out] at this
    simp at this
  have hgl : g ≠ lb := by
    rcases hg with q | q
    · intro e; exact h.apart (by rw [q, e])
    · have := h.slr.lt; omega
  have vh : ∀ {y : Value} {u : Vv}, VIs (gdM mb lb sa) w y u → VIs (gdM mb lb (some ⟨g, 0, none⟩)) w' y u := fun hv => ((hv.good (G' := fun b => gdM mb lb sa b ∧ b < w.heap.size) (fun b hb hg => ⟨hg, hb⟩)).kpt k (fun b hb => hS b hb.1)).good (fun b _ hb => hG b hb.2 hb.1)
  refine ⟨by rw [hl]; exact R', by rw [hl]; exact O', h.slr.kpt k (fun e => e.elim hlb h.apart), h.len, fun j hj => ?_, fun j hj => ?_, h.low, by rw [hl, own_of_some]; exact fun e => hgl (Option.some.inj e)⟩
  · by_cases hj2 : j < st.length
    · obtain ⟨y, e, hy⟩ := h.vst j hj2
      exact ⟨y, by rw [List.getElem?_append_left (by omega)]; exact e, by rw [List.getElem_append_left hj2]; exact vh hy⟩
    · have ej : j = st.length := by omega
      subst ej
      exact ⟨x, by rw [List.getElem?_append_right (by omega), hxl, Nat.sub_self]; rfl, by rw [List.getElem_append_right (Nat.le_refl _)]; simp only [Nat.sub_self, List.getElem_cons_zero]; exact vh hx⟩
  · obtain ⟨y, e, hy⟩ := h.vsl j hj
    exact ⟨y, e, fun u hu => vh (hy u hu)⟩

/-- the values from below, but the last -/
theorem McO.last {B mb lb : Nat} {pv iv q1 q2 : Value} {s : Int} {R : Rq} {S : Nat} {at_ : Int} {st : List Vv} {v : Vv} {sl : List (Option Vv)} {sa : Option Addr} {sc : Nat} {xs ys : List Value} {w : World} (h : McO B mb lb pv iv q1 q2 s R S at_ (st ++ [v]) sl sa sc xs ys w) : ∃ zs x, xs = zs ++ [x] ∧ zs.length = st.length ∧ VIs (gdM mb lb sa) w x v := by
  have hxl : xs.length = st.length + 1 := by have := h.stk.1; simp at this; omega
  obtain ⟨x, e, hx⟩ := h.vst st.length (by simp)
  rw [List.getElem_append_right (Nat.le_refl _)] at hx
  simp only [Nat.sub_self, List.getElem_cons_zero] at hx
  refine ⟨xs.take st.length, x, ?_, by rw [List.length_take]; omega, hx⟩
  obtain ⟨hlt, he⟩ := List.getElem?_eq_some_iff.1 e
  have := List.take_succ_eq_append_getElem hlt
  rw [he, ← hxl, List.take_length] at this
  exact this

/-- the last is popped -/
theorem McO.pop {B mb lb : Nat} {pv iv q1 q2 : Value} {s : Int} {R : Rq} {S : Nat} {at_ at' : Int} {st : List Vv} {v : Vv} {sl : List (Option Vv)} {sa : Option Addr} {sc : Nat} {zs ys : List Value} {x : Value} {w w' : World} (h : McO B mb lb pv iv q1 q2 s R S at_ (st ++ [v]) sl sa sc (zs ++ [x]) ys w) (hz : zs.length = st.length)
    (R' : Row w' mb (mcV pv s iv R q1 q2 (.slice sa st.length sc) (.slice (some ⟨lb, 0, none⟩) S S) at' 0 0 (.slice none 0 0)) 63) (O' : w'.ownsRow B 138 1 (.slice sa st.length sc) st.length zs) (k : Kpt (fun k => k = mb) w w') :
    McO B mb lb pv iv q1 q2 s R S at' st sl sa sc zs ys w' := by
  have hlb : lb ≠ mb := fun e => by
    have := h.row.out
    rw [← e, h.slr.out] at this
    simp at this
  have ap := h.apart
  refine ⟨R', O', h.slr.kpt k hlb, h.len, fun j hj => ?_, fun j hj => ?_, h.low, ?_⟩
  · obtain ⟨y, e, hy⟩ := h.vst j (by simp; omega)
    rw [List.getElem?_append_left (by omega)] at e
    rw [List.getElem_append_left hj] at hy
    exact ⟨y, e, hy.kpt k (fun b hb => hb.1)⟩
  · obtain ⟨y, e, hy⟩ := h.vsl j hj
    exact ⟨y, e, fun u hu => (hy u hu).kpt k (fun b hb => hb.1)⟩
  · cases sa with
    | none => intro e; cases e
    | some ad => simpa [Value.ownBlock] using ap

end Go.Proofs.YtogenboibgddaaaGreatDoor

namespace Go.Proofs.YtogenboibgddaaaGreatDoor
open Go.RowKit
set_option linter.unusedVariables false

variable {G : Nat → Prop}

set_option maxRecDepth 100000 in
set_option maxHeartbeats 1600000 in
theorem poolValue_any (x : Vl) (an : Option Addr) (nn cn : Nat) (w : World) (hx : valB x = true) (hS : Strs w an nn cn x.names) (hl : x.names.length ≤ 1048576) (hi : I64 x.num) (hg : ∀ ad, an = some ad → 0 < nn → G ad.block) :
    Calls Tryz.prog 88 #[.agg #[.int .i64 x.kind, .int .i64 x.num, .string x.text, .slice an nn cn]] w fun r w' => (∃ y, r = .returned y ∧ VIs G w' y (poolV x)) ∧ Below w.heap.size w w' := by
  have B0 := (Below.refl w.heap.size w).alloc (Nat.le_refl _) (.cells #[.int .i64 x.kind, .int .i64 x.num, .string x.text, .slice an nn cn] 88)
  have H0 := hide (hS.below B0 (Nat.le_refl _))
  clear hS
  unfold valB at hx
  by_cases h1 : x.kind = 1
  · have HV := hide (show poolV x = .bool (decide (x.num = 1)) by rw [poolV, if_pos h1])
    rw [if_pos h1] at hx
    simp only [Bool.and_eq_true, decide_eq_true_eq] at hx
    rw [h1] at B0 ⊢
    rcases hx.1.1 with e | e
    · rw [e] at B0 ⊢
      have HW := hide (show poolV x = .bool false by rw [unhide HV, e]; rfl)
      clear hx e h1
      go_enter Tryz.func88, Tryz.ntmps88
      go_wp2_with fail
      go_ret
      exact ⟨⟨_, rfl, by rw [unhide HW]; rfl⟩, B0⟩
    · rw [e] at B0 ⊢
      have HW := hide (show poolV x = .bool true by rw [unhide HV, e]; rfl)
      clear hx e h1
      go_enter Tryz.func88, Tryz.ntmps88
      go_wp2_with fail
      go_ret
      exact ⟨⟨_, rfl, by rw [unhide HW]; rfl⟩, B0⟩
  by_cases h2 : x.kind = 2
  · have HV := hide (show poolV x = .int x.num by rw [poolV, if_neg h1, if_pos h2])
    rw [h2] at B0 ⊢
    clear hx h1 h2
    go_enter Tryz.func88, Tryz.ntmps88
    go_wp2_with fail
    go_ret
    exact ⟨⟨_, rfl, by rw [unhide HV]; exact ⟨rfl, hi⟩⟩, B0⟩
  by_cases h3 : x.kind = 3
  · have HV := hide (show poolV x = .text x.text by rw [poolV, if_neg h1, if_neg h2, if_pos h3])
    rw [h3] at B0 ⊢
    clear hx h1 h2 h3
    go_enter Tryz.func88, Tryz.ntmps88
    go_wp2_with fail
    go_ret
    exact ⟨⟨_, rfl, by rw [unhide HV]; rfl⟩, B0⟩
  by_cases h4 : x.kind = 4
  · have HV := hide (show poolV x = .set x.names by rw [poolV, if_neg h1, if_neg h2, if_neg h3])
    rw [h4] at B0 H0 ⊢
    clear hx h1 h2 h3 h4
    go_enter Tryz.func88, Tryz.ntmps88
    go_wp2_with fail
    go_ret
    exact ⟨⟨_, rfl, by rw [unhide HV]; exact ⟨_, _, _, rfl, unhide H0, hl, hg⟩⟩, B0⟩
  · rw [if_neg h1, if_neg h2, if_neg h3, if_neg h4] at hx; cases hx

end Go.Proofs.YtogenboibgddaaaGreatDoor

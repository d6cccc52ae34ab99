/-
  The model's operators. Own work.
-/
import Derived.Test.YtogenboibgddaaaGreatDoorMXAG
import Derived.Test.YtogenboibgddaaaGreatDoorCalc6
import Derived.Test.YtogenboibgddaaaGreatDoorMXAF
import Derived.Test.YtogenboibgddaaaGreatDoorMXAH
namespace Go.Proofs.YtogenboibgddaaaGreatDoor
open Go.RowKit
set_option linter.unusedVariables false

theorem row4O {w : World} {b : Nat} {v0 v1 v2 v3 : Value} {t : TypeId} (R : Row w b #[v0, v1, v2, v3] t) : w.cell? ⟨b, 0, none⟩ = some v0 ∧ w.cell? ⟨b, 1, none⟩ = some v1 ∧ w.cell? ⟨b, 2, none⟩ = some v2 ∧ w.cell? ⟨b, 3, none⟩ = some v3 := ⟨R.cell 0, R.cell 1, R.cell 2, R.cell 3⟩

/-- a value of the model's, by its parts; a slice may lie beside a number -/
def MVx (w : World) (num : Int) (text : ByteArray) (a : Option Addr) (n c : Nat) (v : Vv) : Prop :=
  (match v with
    | .bool b => num = (if b then 1 else 0) ∧ text = ⟨#[]⟩
    | .int k => (num = k ∧ I64 k) ∧ text = ⟨#[]⟩
    | .text s => num = 0 ∧ text = s
    | .set _ => num = 0 ∧ text = ⟨#[]⟩) ∧ Strs w a n c v.names ∧ v.names.length ≤ 1048576 ∧ ZS w a c

theorem MVs.mvx {w : World} {num : Int} {text : ByteArray} {a : Option Addr} {n c : Nat} {v : Vv} (h : MVs w num text a n c v) : MVx w num text a n c v := by
  have q := h.strs
  cases v with
  | bool b => obtain ⟨h1, h2, rfl, rfl, rfl⟩ := h; exact ⟨⟨h1, h2⟩, q.1, q.2.1, fun _ => rfl, fun ad e => nomatch e⟩
  | int k => obtain ⟨h1, h2, rfl, rfl, rfl⟩ := h; exact ⟨⟨h1, h2⟩, q.1, q.2.1, fun _ => rfl, fun ad e => nomatch e⟩
  | text s => obtain ⟨h1, h2, rfl, rfl, rfl⟩ := h; exact ⟨⟨h1, h2⟩, q.1, q.2.1, fun _ => rfl, fun ad e => nomatch e⟩
  | set ss => exact ⟨⟨h.1, h.2.1⟩, q.1, q.2.1, h.2.2.2.2⟩

theorem MVx.below {w w' : World} {B : Nat} {num : Int} {text : ByteArray} {a : Option Addr} {n c : Nat} {v : Vv} (h : MVx w num text a n c v) (hb : Below B w w') (hB : w.heap.size ≤ B) : MVx w' num text a n c v := ⟨h.1, h.2.1.below hb hB, h.2.2.1, h.2.2.2.below hb hB⟩

open Classical in
theorem MVx.same {w : World} {num num' : Int} {text text' : ByteArray} {a a' : Option Addr} {n c n' c' : Nat} {v u : Vv} (h : MVx w num text a n c v) (h' : MVx w num' text' a' n' c' u) (ht : v.ty = u.ty) : sameV v u = eqP num num' text text' v.names u.names := by
  rw [sameV, eqP, decide_eq_decide]
  cases v with
  | bool b =>
    obtain ⟨d, rfl⟩ := Vv.bool_of (v := u) ht.symm
    obtain ⟨⟨rfl, rfl⟩, _⟩ := h
    obtain ⟨⟨rfl, rfl⟩, _⟩ := h'
    cases b <;> cases d <;> simp [Vv.names]
  | int k =>
    obtain ⟨d, rfl⟩ := Vv.int_of (v := u) ht.symm
    obtain ⟨⟨⟨rfl, _⟩, rfl⟩, _⟩ := h
    obtain ⟨⟨⟨rfl, _⟩, rfl⟩, _⟩ := h'
    simp [Vv.names]
  | text s =>
    obtain ⟨d, rfl⟩ := Vv.text_of (v := u) ht.symm
    obtain ⟨⟨rfl, rfl⟩, _⟩ := h
    obtain ⟨⟨rfl, rfl⟩, _⟩ := h'
    simp [Vv.names]
  | set ss =>
    obtain ⟨d, rfl⟩ := Vv.set_of (v := u) ht.symm
    obtain ⟨⟨rfl, rfl⟩, _⟩ := h
    obtain ⟨⟨rfl, rfl⟩, _⟩ := h'
    simp [Vv.names]

set_option maxRecDepth 100000 in
set_option maxHeartbeats 6400000 in
theorem applyO_neg (k : Int) (hi : I64 k) (xa : Option Addr) (xn xc : Nat) (g o cap : Nat) (w : World) (e0 : w.cell? ⟨g, o, none⟩ = some (.int .i64 0)) (e1 : w.cell? ⟨g, o + 1, none⟩ = some (.int .i64 k)) (e2 : w.cell? ⟨g, o + 2, none⟩ = some (.string ⟨#[]⟩)) (e3 : w.cell? ⟨g, o + 3, none⟩ = some (.slice xa xn xc)) (hg : g < w.heap.size) :
    Calls Tryz.prog 47 #[.int .i64 8, .slice (some ⟨g, o, none⟩) 1 cap] w (MAns (evUn 8 (.int k)) w) := by
  have B0 := ((((Below.refl w.heap.size w).alloc (Nat.le_refl _) (.cells #[.int .i64 0, .int .i64 0, .string ⟨#[]⟩, .slice none 0 0] 90)).alloc (by simp) (.cells #[.int .i64 0, .int .i64 k, .string ⟨#[]⟩, .slice xa xn xc] 90)).alloc (by simp; omega) (.cells #[.int .i64 0, .int .i64 k, .string ⟨#[]⟩, .slice xa xn xc] 90))
  have R0 := ((Row.new w #[.int .i64 0, .int .i64 0, .string ⟨#[]⟩, .slice none 0 0] 90).alloc (.cells #[.int .i64 0, .int .i64 k, .string ⟨#[]⟩, .slice xa xn xc] 90)).alloc (.cells #[.int .i64 0, .int .i64 k, .string ⟨#[]⟩, .slice xa xn xc] 90)
  have R1 := (Row.new (w.alloc (.cells #[.int .i64 0, .int .i64 0, .string ⟨#[]⟩, .slice none 0 0] 90)) #[.int .i64 0, .int .i64 k, .string ⟨#[]⟩, .slice xa xn xc] 90).alloc (.cells #[.int .i64 0, .int .i64 k, .string ⟨#[]⟩, .slice xa xn xc] 90)
  have R2 := Row.new ((w.alloc (.cells #[.int .i64 0, .int .i64 0, .string ⟨#[]⟩, .slice none 0 0] 90)).alloc (.cells #[.int .i64 0, .int .i64 k, .string ⟨#[]⟩, .slice xa xn xc] 90)) #[.int .i64 0, .int .i64 k, .string ⟨#[]⟩, .slice xa xn xc] 90
  simp only [World.size_alloc] at R1 R2

  have HC := hide (fun (W : World) => sCalc_any (w := W) 2 (a := 0) (b := k) ⟨by decide, by decide⟩ hi)
  have h2 := calcF_i64 2 0 k
  have HE := hide (show evUn 8 (.int k) = ofCalc (calcF 2 0 k) from rfl)
  generalize calcF 2 0 k = p at HC h2 HE
  obtain ⟨z1, z2⟩ := p

  go_enter Tryz.func47, Tryz.ntmps47
  go_wp2_with fail

  refine (unhide HC _).mono ?_
  rintro r w4 ⟨rfl, hb4⟩
  have R4 := R0.after hb4 (Nat.le_refl _)
  have B4 := B0.trans (hb4.mono (by simp; omega))
  have HP := hide h2
  clear h2

  obtain ⟨x0, x1, x2, x3⟩ := row4O R4
  have f0 := fun j => R4.frozen j
  have Q1 := R4.set 0 (.int .i64 z2)
  have f1 := fun j => Q1.frozen j
  have Q2 := Q1.set 1 (.int .i64 z1)
  have f2 := fun j => Q2.frozen j
  have Q3 := Q2.set 2 (.string ⟨#[]⟩)
  have f3 := fun j => Q3.frozen j
  have Q4 := Q3.set 3 (.slice none 0 0)
  obtain ⟨p0, p1, p2, p3⟩ := row4O Q4
  have BE := (((B4.setCell (p := ⟨w.heap.size, 0, none⟩) (Nat.le_refl _) (.int .i64 z2)).setCell (p := ⟨w.heap.size, 1, none⟩) (Nat.le_refl _) (.int .i64 z1)).setCell (p := ⟨w.heap.size, 2, none⟩) (Nat.le_refl _) (.string ⟨#[]⟩)).setCell (p := ⟨w.heap.size, 3, none⟩) (Nat.le_refl _) (.slice none 0 0)
  dsimp only
  go_wp2_with fail
  refine bodyPost_ret (v := .agg #[.int .i64 z2, .int .i64 z1, .string ⟨#[]⟩, .slice none 0 0]) (by simp [results, Tryz.results47, go_sem, p0, p1, p2, p3]) rfl ⟨⟨_, _, _, _, _, _, rfl, ?_⟩, BE⟩
  rw [unhide HE, ofCalc]
  by_cases h0 : z2 = 0
  · rw [if_pos h0]
    exact ⟨h0, ⟨rfl, unhide HP⟩, rfl, rfl, rfl, rfl⟩
  · rw [if_neg h0]
    exact ⟨rfl, h0⟩

set_option maxRecDepth 100000 in
set_option maxHeartbeats 6400000 in
theorem applyO_not (b : Bool) (xa : Option Addr) (xn xc : Nat) (g o cap : Nat) (w : World) (e0 : w.cell? ⟨g, o, none⟩ = some (.int .i64 0)) (e1 : w.cell? ⟨g, o + 1, none⟩ = some (.int .i64 (if b then 1 else 0))) (e2 : w.cell? ⟨g, o + 2, none⟩ = some (.string ⟨#[]⟩)) (e3 : w.cell? ⟨g, o + 3, none⟩ = some (.slice xa xn xc)) (hg : g < w.heap.size) :
    Calls Tryz.prog 47 #[.int .i64 9, .slice (some ⟨g, o, none⟩) 1 cap] w (MAns (evUn 9 (.bool b)) w) := by
  cases b
  rotate_left
  · have e1 : w.cell? ⟨g, o + 1, none⟩ = some (.int .i64 1) := e1
    go_enter Tryz.func47, Tryz.ntmps47
    go_wp2_with fail
    refine bodyPost_ret (v := .agg #[.int .i64 0, .int .i64 0, .string ⟨#[]⟩, .slice none 0 0]) (by simp [results, Tryz.results47, go_sem]) rfl ⟨⟨_, _, _, _, _, _, rfl, ?_⟩, (((Below.refl w.heap.size w).alloc (Nat.le_refl _) _).alloc (by simp) _).alloc (by simp; omega) _⟩
    exact ⟨rfl, rfl, rfl, rfl, rfl, rfl⟩
  · have e1 : w.cell? ⟨g, o + 1, none⟩ = some (.int .i64 0) := e1
    go_enter Tryz.func47, Tryz.ntmps47
    go_wp2_with fail
    refine bodyPost_ret (v := .agg #[.int .i64 0, .int .i64 1, .string ⟨#[]⟩, .slice none 0 0]) (by simp [results, Tryz.results47, go_sem]) rfl ⟨⟨_, _, _, _, _, _, rfl, ?_⟩, (((Below.refl w.heap.size w).alloc (Nat.le_refl _) _).alloc (by simp) _).alloc (by simp; omega) _⟩
    exact ⟨rfl, rfl, rfl, rfl, rfl, rfl⟩

set_option maxRecDepth 100000 in
set_option maxHeartbeats 6400000 in
theorem applyO_size (a : Option Addr) (n c : Nat) (ss : List ByteArray) (g o cap : Nat) (w : World) (e0 : w.cell? ⟨g, o, none⟩ = some (.int .i64 0)) (e1 : w.cell? ⟨g, o + 1, none⟩ = some (.int .i64 0)) (e2 : w.cell? ⟨g, o + 2, none⟩ = some (.string ⟨#[]⟩)) (e3 : w.cell? ⟨g, o + 3, none⟩ = some (.slice a n c)) (hS : Strs w a n c ss) (hg : g < w.heap.size) :
    Calls Tryz.prog 47 #[.int .i64 10, .slice (some ⟨g, o, none⟩) 1 cap] w (MAns (evUn 10 (.set ss)) w) := by
  have hl := hS.len
  have hi : I64 (n : Int) := ⟨by omega, by have := hS.cap; have := hS.small; unfold maxLen at this; omega⟩
  have HL := hide hl
  clear hl hS
  go_enter Tryz.func47, Tryz.ntmps47
  go_wp2_with fail
  refine bodyPost_ret (v := .agg #[.int .i64 0, .int .i64 n, .string ⟨#[]⟩, .slice none 0 0]) (by simp [results, Tryz.results47, go_sem]) rfl ⟨⟨_, _, _, _, _, _, rfl, ?_⟩, (((Below.refl w.heap.size w).alloc (Nat.le_refl _) _).alloc (by simp) _).alloc (by simp; omega) _⟩
  exact ⟨rfl, ⟨by rw [unhide HL], by rw [← unhide HL]; exact hi⟩, rfl, rfl, rfl, rfl⟩

set_option maxRecDepth 100000 in
set_option maxHeartbeats 6400000 in
theorem applyO_num11 (k l : Int) (hi : I64 k) (hj : I64 l) (xa : Option Addr) (xn xc : Nat) (ya : Option Addr) (yn yc : Nat) (g o cap : Nat) (w : World) (e0 : w.cell? ⟨g, o, none⟩ = some (.int .i64 0)) (e1 : w.cell? ⟨g, o + 1, none⟩ = some (.int .i64 k)) (e2 : w.cell? ⟨g, o + 2, none⟩ = some (.string ⟨#[]⟩)) (e3 : w.cell? ⟨g, o + 3, none⟩ = some (.slice xa xn xc)) (e4 : w.cell? ⟨g, o + 4, none⟩ = some (.int .i64 0)) (e5 : w.cell? ⟨g, o + 5, none⟩ = some (.int .i64 l)) (e6 : w.cell? ⟨g, o + 6, none⟩ = some (.string ⟨#[]⟩)) (e7 : w.cell? ⟨g, o + 7, none⟩ = some (.slice ya yn yc)) (hg : g < w.heap.size) :
    Calls Tryz.prog 47 #[.int .i64 11, .slice (some ⟨g, o, none⟩) 2 cap] w (MAns (evBin 11 (.int k) (.int l)) w) := by
  have B0 := ((((Below.refl w.heap.size w).alloc (Nat.le_refl _) (.cells #[.int .i64 0, .int .i64 0, .string ⟨#[]⟩, .slice none 0 0] 90)).alloc (by simp) (.cells #[.int .i64 0, .int .i64 k, .string ⟨#[]⟩, .slice xa xn xc] 90)).alloc (by simp; omega) (.cells #[.int .i64 0, .int .i64 l, .string ⟨#[]⟩, .slice ya yn yc] 90))
  have R0 := ((Row.new w #[.int .i64 0, .int .i64 0, .string ⟨#[]⟩, .slice none 0 0] 90).alloc (.cells #[.int .i64 0, .int .i64 k, .string ⟨#[]⟩, .slice xa xn xc] 90)).alloc (.cells #[.int .i64 0, .int .i64 l, .string ⟨#[]⟩, .slice ya yn yc] 90)
  have R1 := (Row.new (w.alloc (.cells #[.int .i64 0, .int .i64 0, .string ⟨#[]⟩, .slice none 0 0] 90)) #[.int .i64 0, .int .i64 k, .string ⟨#[]⟩, .slice xa xn xc] 90).alloc (.cells #[.int .i64 0, .int .i64 l, .string ⟨#[]⟩, .slice ya yn yc] 90)
  have R2 := Row.new ((w.alloc (.cells #[.int .i64 0, .int .i64 0, .string ⟨#[]⟩, .slice none 0 0] 90)).alloc (.cells #[.int .i64 0, .int .i64 k, .string ⟨#[]⟩, .slice xa xn xc] 90)) #[.int .i64 0, .int .i64 l, .string ⟨#[]⟩, .slice ya yn yc] 90
  simp only [World.size_alloc] at R1 R2

  have HC := hide (fun (W : World) => sCalc_any (w := W) 1 (a := k) (b := l) hi hj)
  have h2 := calcF_i64 1 k l
  have HE := hide (evBin_num (op := 11) (a := k) (b := l) (by decide))
  rw [show (11 : Int) - 10 = 1 by decide] at HE
  generalize calcF 1 k l = p at HC h2 HE
  obtain ⟨z1, z2⟩ := p

  go_enter Tryz.func47, Tryz.ntmps47
  go_wp2_with fail

  refine (unhide HC _).mono ?_
  rintro r w4 ⟨rfl, hb4⟩
  have R4 := R0.after hb4 (Nat.le_refl _)
  have B4 := B0.trans (hb4.mono (by simp; omega))
  have HP := hide h2
  clear h2

  obtain ⟨x0, x1, x2, x3⟩ := row4O R4
  have f0 := fun j => R4.frozen j
  have Q1 := R4.set 0 (.int .i64 z2)
  have f1 := fun j => Q1.frozen j
  have Q2 := Q1.set 1 (.int .i64 z1)
  have f2 := fun j => Q2.frozen j
  have Q3 := Q2.set 2 (.string ⟨#[]⟩)
  have f3 := fun j => Q3.frozen j
  have Q4 := Q3.set 3 (.slice none 0 0)
  obtain ⟨p0, p1, p2, p3⟩ := row4O Q4
  have BE := (((B4.setCell (p := ⟨w.heap.size, 0, none⟩) (Nat.le_refl _) (.int .i64 z2)).setCell (p := ⟨w.heap.size, 1, none⟩) (Nat.le_refl _) (.int .i64 z1)).setCell (p := ⟨w.heap.size, 2, none⟩) (Nat.le_refl _) (.string ⟨#[]⟩)).setCell (p := ⟨w.heap.size, 3, none⟩) (Nat.le_refl _) (.slice none 0 0)
  dsimp only
  go_wp2_with fail
  refine bodyPost_ret (v := .agg #[.int .i64 z2, .int .i64 z1, .string ⟨#[]⟩, .slice none 0 0]) (by simp [results, Tryz.results47, go_sem, p0, p1, p2, p3]) rfl ⟨⟨_, _, _, _, _, _, rfl, ?_⟩, BE⟩
  rw [unhide HE, ofCalc]
  by_cases h0 : z2 = 0
  · rw [if_pos h0]
    exact ⟨h0, ⟨rfl, unhide HP⟩, rfl, rfl, rfl, rfl⟩
  · rw [if_neg h0]
    exact ⟨rfl, h0⟩

set_option maxRecDepth 100000 in
set_option maxHeartbeats 6400000 in
theorem applyO_num12 (k l : Int) (hi : I64 k) (hj : I64 l) (xa : Option Addr) (xn xc : Nat) (ya : Option Addr) (yn yc : Nat) (g o cap : Nat) (w : World) (e0 : w.cell? ⟨g, o, none⟩ = some (.int .i64 0)) (e1 : w.cell? ⟨g, o + 1, none⟩ = some (.int .i64 k)) (e2 : w.cell? ⟨g, o + 2, none⟩ = some (.string ⟨#[]⟩)) (e3 : w.cell? ⟨g, o + 3, none⟩ = some (.slice xa xn xc)) (e4 : w.cell? ⟨g, o + 4, none⟩ = some (.int .i64 0)) (e5 : w.cell? ⟨g, o + 5, none⟩ = some (.int .i64 l)) (e6 : w.cell? ⟨g, o + 6, none⟩ = some (.string ⟨#[]⟩)) (e7 : w.cell? ⟨g, o + 7, none⟩ = some (.slice ya yn yc)) (hg : g < w.heap.size) :
    Calls Tryz.prog 47 #[.int .i64 12, .slice (some ⟨g, o, none⟩) 2 cap] w (MAns (evBin 12 (.int k) (.int l)) w) := by
  have B0 := ((((Below.refl w.heap.size w).alloc (Nat.le_refl _) (.cells #[.int .i64 0, .int .i64 0, .string ⟨#[]⟩, .slice none 0 0] 90)).alloc (by simp) (.cells #[.int .i64 0, .int .i64 k, .string ⟨#[]⟩, .slice xa xn xc] 90)).alloc (by simp; omega) (.cells #[.int .i64 0, .int .i64 l, .string ⟨#[]⟩, .slice ya yn yc] 90))
  have R0 := ((Row.new w #[.int .i64 0, .int .i64 0, .string ⟨#[]⟩, .slice none 0 0] 90).alloc (.cells #[.int .i64 0, .int .i64 k, .string ⟨#[]⟩, .slice xa xn xc] 90)).alloc (.cells #[.int .i64 0, .int .i64 l, .string ⟨#[]⟩, .slice ya yn yc] 90)
  have R1 := (Row.new (w.alloc (.cells #[.int .i64 0, .int .i64 0, .string ⟨#[]⟩, .slice none 0 0] 90)) #[.int .i64 0, .int .i64 k, .string ⟨#[]⟩, .slice xa xn xc] 90).alloc (.cells #[.int .i64 0, .int .i64 l, .string ⟨#[]⟩, .slice ya yn yc] 90)
  have R2 := Row.new ((w.alloc (.cells #[.int .i64 0, .int .i64 0, .string ⟨#[]⟩, .slice none 0 0] 90)).alloc (.cells #[.int .i64 0, .int .i64 k, .string ⟨#[]⟩, .slice xa xn xc] 90)) #[.int .i64 0, .int .i64 l, .string ⟨#[]⟩, .slice ya yn yc] 90
  simp only [World.size_alloc] at R1 R2

  have HC := hide (fun (W : World) => sCalc_any (w := W) 2 (a := k) (b := l) hi hj)
  have h2 := calcF_i64 2 k l
  have HE := hide (evBin_num (op := 12) (a := k) (b := l) (by decide))
  rw [show (12 : Int) - 10 = 2 by decide] at HE
  generalize calcF 2 k l = p at HC h2 HE
  obtain ⟨z1, z2⟩ := p

  go_enter Tryz.func47, Tryz.ntmps47
  go_wp2_with fail

  refine (unhide HC _).mono ?_
  rintro r w4 ⟨rfl, hb4⟩
  have R4 := R0.after hb4 (Nat.le_refl _)
  have B4 := B0.trans (hb4.mono (by simp; omega))
  have HP := hide h2
  clear h2

  obtain ⟨x0, x1, x2, x3⟩ := row4O R4
  have f0 := fun j => R4.frozen j
  have Q1 := R4.set 0 (.int .i64 z2)
  have f1 := fun j => Q1.frozen j
  have Q2 := Q1.set 1 (.int .i64 z1)
  have f2 := fun j => Q2.frozen j
  have Q3 := Q2.set 2 (.string ⟨#[]⟩)
  have f3 := fun j => Q3.frozen j
  have Q4 := Q3.set 3 (.slice none 0 0)
  obtain ⟨p0, p1, p2, p3⟩ := row4O Q4
  have BE := (((B4.setCell (p := ⟨w.heap.size, 0, none⟩) (Nat.le_refl _) (.int .i64 z2)).setCell (p := ⟨w.heap.size, 1, none⟩) (Nat.le_refl _) (.int .i64 z1)).setCell (p := ⟨w.heap.size, 2, none⟩) (Nat.le_refl _) (.string ⟨#[]⟩)).setCell (p := ⟨w.heap.size, 3, none⟩) (Nat.le_refl _) (.slice none 0 0)
  dsimp only
  go_wp2_with fail
  refine bodyPost_ret (v := .agg #[.int .i64 z2, .int .i64 z1, .string ⟨#[]⟩, .slice none 0 0]) (by simp [results, Tryz.results47, go_sem, p0, p1, p2, p3]) rfl ⟨⟨_, _, _, _, _, _, rfl, ?_⟩, BE⟩
  rw [unhide HE, ofCalc]
  by_cases h0 : z2 = 0
  · rw [if_pos h0]
    exact ⟨h0, ⟨rfl, unhide HP⟩, rfl, rfl, rfl, rfl⟩
  · rw [if_neg h0]
    exact ⟨rfl, h0⟩

set_option maxRecDepth 100000 in
set_option maxHeartbeats 6400000 in
theorem applyO_num13 (k l : Int) (hi : I64 k) (hj : I64 l) (xa : Option Addr) (xn xc : Nat) (ya : Option Addr) (yn yc : Nat) (g o cap : Nat) (w : World) (e0 : w.cell? ⟨g, o, none⟩ = some (.int .i64 0)) (e1 : w.cell? ⟨g, o + 1, none⟩ = some (.int .i64 k)) (e2 : w.cell? ⟨g, o + 2, none⟩ = some (.string ⟨#[]⟩)) (e3 : w.cell? ⟨g, o + 3, none⟩ = some (.slice xa xn xc)) (e4 : w.cell? ⟨g, o + 4, none⟩ = some (.int .i64 0)) (e5 : w.cell? ⟨g, o + 5, none⟩ = some (.int .i64 l)) (e6 : w.cell? ⟨g, o + 6, none⟩ = some (.string ⟨#[]⟩)) (e7 : w.cell? ⟨g, o + 7, none⟩ = some (.slice ya yn yc)) (hg : g < w.heap.size) :
    Calls Tryz.prog 47 #[.int .i64 13, .slice (some ⟨g, o, none⟩) 2 cap] w (MAns (evBin 13 (.int k) (.int l)) w) := by
  have B0 := ((((Below.refl w.heap.size w).alloc (Nat.le_refl _) (.cells #[.int .i64 0, .int .i64 0, .string ⟨#[]⟩, .slice none 0 0] 90)).alloc (by simp) (.cells #[.int .i64 0, .int .i64 k, .string ⟨#[]⟩, .slice xa xn xc] 90)).alloc (by simp; omega) (.cells #[.int .i64 0, .int .i64 l, .string ⟨#[]⟩, .slice ya yn yc] 90))
  have R0 := ((Row.new w #[.int .i64 0, .int .i64 0, .string ⟨#[]⟩, .slice none 0 0] 90).alloc (.cells #[.int .i64 0, .int .i64 k, .string ⟨#[]⟩, .slice xa xn xc] 90)).alloc (.cells #[.int .i64 0, .int .i64 l, .string ⟨#[]⟩, .slice ya yn yc] 90)
  have R1 := (Row.new (w.alloc (.cells #[.int .i64 0, .int .i64 0, .string ⟨#[]⟩, .slice none 0 0] 90)) #[.int .i64 0, .int .i64 k, .string ⟨#[]⟩, .slice xa xn xc] 90).alloc (.cells #[.int .i64 0, .int .i64 l, .string ⟨#[]⟩, .slice ya yn yc] 90)
  have R2 := Row.new ((w.alloc (.cells #[.int .i64 0, .int .i64 0, .string ⟨#[]⟩, .slice none 0 0] 90)).alloc (.cells #[.int .i64 0, .int .i64 k, .string ⟨#[]⟩, .slice xa xn xc] 90)) #[.int .i64 0, .int .i64 l, .string ⟨#[]⟩, .slice ya yn yc] 90
  simp only [World.size_alloc] at R1 R2

  have HC := hide (fun (W : World) => sCalc_any (w := W) 3 (a := k) (b := l) hi hj)
  have h2 := calcF_i64 3 k l
  have HE := hide (evBin_num (op := 13) (a := k) (b := l) (by decide))
  rw [show (13 : Int) - 10 = 3 by decide] at HE
  generalize calcF 3 k l = p at HC h2 HE
  obtain ⟨z1, z2⟩ := p

  go_enter Tryz.func47, Tryz.ntmps47
  go_wp2_with fail

  refine (unhide HC _).mono ?_
  rintro r w4 ⟨rfl, hb4⟩
  have R4 := R0.after hb4 (Nat.le_refl _)
  have B4 := B0.trans (hb4.mono (by simp; omega))
  have HP := hide h2
  clear h2

  obtain ⟨x0, x1, x2, x3⟩ := row4O R4
  have f0 := fun j => R4.frozen j
  have Q1 := R4.set 0 (.int .i64 z2)
  have f1 := fun j => Q1.frozen j
  have Q2 := Q1.set 1 (.int .i64 z1)
  have f2 := fun j => Q2.frozen j
  have Q3 := Q2.set 2 (.string ⟨#[]⟩)
  have f3 := fun j => Q3.frozen j
  have Q4 := Q3.set 3 (.slice none 0 0)
  obtain ⟨p0, p1, p2, p3⟩ := row4O Q4
  have BE := (((B4.setCell (p := ⟨w.heap.size, 0, none⟩) (Nat.le_refl _) (.int .i64 z2)).setCell (p := ⟨w.heap.size, 1, none⟩) (Nat.le_refl _) (.int .i64 z1)).setCell (p := ⟨w.heap.size, 2, none⟩) (Nat.le_refl _) (.string ⟨#[]⟩)).setCell (p := ⟨w.heap.size, 3, none⟩) (Nat.le_refl _) (.slice none 0 0)
  dsimp only
  go_wp2_with fail
  refine bodyPost_ret (v := .agg #[.int .i64 z2, .int .i64 z1, .string ⟨#[]⟩, .slice none 0 0]) (by simp [results, Tryz.results47, go_sem, p0, p1, p2, p3]) rfl ⟨⟨_, _, _, _, _, _, rfl, ?_⟩, BE⟩
  rw [unhide HE, ofCalc]
  by_cases h0 : z2 = 0
  · rw [if_pos h0]
    exact ⟨h0, ⟨rfl, unhide HP⟩, rfl, rfl, rfl, rfl⟩
  · rw [if_neg h0]
    exact ⟨rfl, h0⟩

set_option maxRecDepth 100000 in
set_option maxHeartbeats 6400000 in
theorem applyO_num14 (k l : Int) (hi : I64 k) (hj : I64 l) (xa : Option Addr) (xn xc : Nat) (ya : Option Addr) (yn yc : Nat) (g o cap : Nat) (w : World) (e0 : w.cell? ⟨g, o, none⟩ = some (.int .i64 0)) (e1 : w.cell? ⟨g, o + 1, none⟩ = some (.int .i64 k)) (e2 : w.cell? ⟨g, o + 2, none⟩ = some (.string ⟨#[]⟩)) (e3 : w.cell? ⟨g, o + 3, none⟩ = some (.slice xa xn xc)) (e4 : w.cell? ⟨g, o + 4, none⟩ = some (.int .i64 0)) (e5 : w.cell? ⟨g, o + 5, none⟩ = some (.int .i64 l)) (e6 : w.cell? ⟨g, o + 6, none⟩ = some (.string ⟨#[]⟩)) (e7 : w.cell? ⟨g, o + 7, none⟩ = some (.slice ya yn yc)) (hg : g < w.heap.size) :
    Calls Tryz.prog 47 #[.int .i64 14, .slice (some ⟨g, o, none⟩) 2 cap] w (MAns (evBin 14 (.int k) (.int l)) w) := by
  have B0 := ((((Below.refl w.heap.size w).alloc (Nat.le_refl _) (.cells #[.int .i64 0, .int .i64 0, .string ⟨#[]⟩, .slice none 0 0] 90)).alloc (by simp) (.cells #[.int .i64 0, .int .i64 k, .string ⟨#[]⟩, .slice xa xn xc] 90)).alloc (by simp; omega) (.cells #[.int .i64 0, .int .i64 l, .string ⟨#[]⟩, .slice ya yn yc] 90))
  have R0 := ((Row.new w #[.int .i64 0, .int .i64 0, .string ⟨#[]⟩, .slice none 0 0] 90).alloc (.cells #[.int .i64 0, .int .i64 k, .string ⟨#[]⟩, .slice xa xn xc] 90)).alloc (.cells #[.int .i64 0, .int .i64 l, .string ⟨#[]⟩, .slice ya yn yc] 90)
  have R1 := (Row.new (w.alloc (.cells #[.int .i64 0, .int .i64 0, .string ⟨#[]⟩, .slice none 0 0] 90)) #[.int .i64 0, .int .i64 k, .string ⟨#[]⟩, .slice xa xn xc] 90).alloc (.cells #[.int .i64 0, .int .i64 l, .string ⟨#[]⟩, .slice ya yn yc] 90)
  have R2 := Row.new ((w.alloc (.cells #[.int .i64 0, .int .i64 0, .string ⟨#[]⟩, .slice none 0 0] 90)).alloc (.cells #[.int .i64 0, .int .i64 k, .string ⟨#[]⟩, .slice xa xn xc] 90)) #[.int .i64 0, .int .i64 l, .string ⟨#[]⟩, .slice ya yn yc] 90
  simp only [World.size_alloc] at R1 R2

  have HC := hide (fun (W : World) => sCalc_any (w := W) 4 (a := k) (b := l) hi hj)
  have h2 := calcF_i64 4 k l
  have HE := hide (evBin_num (op := 14) (a := k) (b := l) (by decide))
  rw [show (14 : Int) - 10 = 4 by decide] at HE
  generalize calcF 4 k l = p at HC h2 HE
  obtain ⟨z1, z2⟩ := p

  go_enter Tryz.func47, Tryz.ntmps47
  go_wp2_with fail

  refine (unhide HC _).mono ?_
  rintro r w4 ⟨rfl, hb4⟩
  have R4 := R0.after hb4 (Nat.le_refl _)
  have B4 := B0.trans (hb4.mono (by simp; omega))
  have HP := hide h2
  clear h2

  obtain ⟨x0, x1, x2, x3⟩ := row4O R4
  have f0 := fun j => R4.frozen j
  have Q1 := R4.set 0 (.int .i64 z2)
  have f1 := fun j => Q1.frozen j
  have Q2 := Q1.set 1 (.int .i64 z1)
  have f2 := fun j => Q2.frozen j
  have Q3 := Q2.set 2 (.string ⟨#[]⟩)
  have f3 := fun j => Q3.frozen j
  have Q4 := Q3.set 3 (.slice none 0 0)
  obtain ⟨p0, p1, p2, p3⟩ := row4O Q4
  have BE := (((B4.setCell (p := ⟨w.heap.size, 0, none⟩) (Nat.le_refl _) (.int .i64 z2)).setCell (p := ⟨w.heap.size, 1, none⟩) (Nat.le_refl _) (.int .i64 z1)).setCell (p := ⟨w.heap.size, 2, none⟩) (Nat.le_refl _) (.string ⟨#[]⟩)).setCell (p := ⟨w.heap.size, 3, none⟩) (Nat.le_refl _) (.slice none 0 0)
  dsimp only
  go_wp2_with fail
  refine bodyPost_ret (v := .agg #[.int .i64 z2, .int .i64 z1, .string ⟨#[]⟩, .slice none 0 0]) (by simp [results, Tryz.results47, go_sem, p0, p1, p2, p3]) rfl ⟨⟨_, _, _, _, _, _, rfl, ?_⟩, BE⟩
  rw [unhide HE, ofCalc]
  by_cases h0 : z2 = 0
  · rw [if_pos h0]
    exact ⟨h0, ⟨rfl, unhide HP⟩, rfl, rfl, rfl, rfl⟩
  · rw [if_neg h0]
    exact ⟨rfl, h0⟩

set_option maxRecDepth 100000 in
set_option maxHeartbeats 6400000 in
theorem applyO_num15 (k l : Int) (hi : I64 k) (hj : I64 l) (xa : Option Addr) (xn xc : Nat) (ya : Option Addr) (yn yc : Nat) (g o cap : Nat) (w : World) (e0 : w.cell? ⟨g, o, none⟩ = some (.int .i64 0)) (e1 : w.cell? ⟨g, o + 1, none⟩ = some (.int .i64 k)) (e2 : w.cell? ⟨g, o + 2, none⟩ = some (.string ⟨#[]⟩)) (e3 : w.cell? ⟨g, o + 3, none⟩ = some (.slice xa xn xc)) (e4 : w.cell? ⟨g, o + 4, none⟩ = some (.int .i64 0)) (e5 : w.cell? ⟨g, o + 5, none⟩ = some (.int .i64 l)) (e6 : w.cell? ⟨g, o + 6, none⟩ = some (.string ⟨#[]⟩)) (e7 : w.cell? ⟨g, o + 7, none⟩ = some (.slice ya yn yc)) (hg : g < w.heap.size) :
    Calls Tryz.prog 47 #[.int .i64 15, .slice (some ⟨g, o, none⟩) 2 cap] w (MAns (evBin 15 (.int k) (.int l)) w) := by
  have B0 := ((((Below.refl w.heap.size w).alloc (Nat.le_refl _) (.cells #[.int .i64 0, .int .i64 0, .string ⟨#[]⟩, .slice none 0 0] 90)).alloc (by simp) (.cells #[.int .i64 0, .int .i64 k, .string ⟨#[]⟩, .slice xa xn xc] 90)).alloc (by simp; omega) (.cells #[.int .i64 0, .int .i64 l, .string ⟨#[]⟩, .slice ya yn yc] 90))
  have R0 := ((Row.new w #[.int .i64 0, .int .i64 0, .string ⟨#[]⟩, .slice none 0 0] 90).alloc (.cells #[.int .i64 0, .int .i64 k, .string ⟨#[]⟩, .slice xa xn xc] 90)).alloc (.cells #[.int .i64 0, .int .i64 l, .string ⟨#[]⟩, .slice ya yn yc] 90)
  have R1 := (Row.new (w.alloc (.cells #[.int .i64 0, .int .i64 0, .string ⟨#[]⟩, .slice none 0 0] 90)) #[.int .i64 0, .int .i64 k, .string ⟨#[]⟩, .slice xa xn xc] 90).alloc (.cells #[.int .i64 0, .int .i64 l, .string ⟨#[]⟩, .slice ya yn yc] 90)
  have R2 := Row.new ((w.alloc (.cells #[.int .i64 0, .int .i64 0, .string ⟨#[]⟩, .slice none 0 0] 90)).alloc (.cells #[.int .i64 0, .int .i64 k, .string ⟨#[]⟩, .slice xa xn xc] 90)) #[.int .i64 0, .int .i64 l, .string ⟨#[]⟩, .slice ya yn yc] 90
  simp only [World.size_alloc] at R1 R2

  have HC := hide (fun (W : World) => sCalc_any (w := W) 5 (a := k) (b := l) hi hj)
  have h2 := calcF_i64 5 k l
  have HE := hide (evBin_num (op := 15) (a := k) (b := l) (by decide))
  rw [show (15 : Int) - 10 = 5 by decide] at HE
  generalize calcF 5 k l = p at HC h2 HE
  obtain ⟨z1, z2⟩ := p

  go_enter Tryz.func47, Tryz.ntmps47
  go_wp2_with fail

  refine (unhide HC _).mono ?_
  rintro r w4 ⟨rfl, hb4⟩
  have R4 := R0.after hb4 (Nat.le_refl _)
  have B4 := B0.trans (hb4.mono (by simp; omega))
  have HP := hide h2
  clear h2

  obtain ⟨x0, x1, x2, x3⟩ := row4O R4
  have f0 := fun j => R4.frozen j
  have Q1 := R4.set 0 (.int .i64 z2)
  have f1 := fun j => Q1.frozen j
  have Q2 := Q1.set 1 (.int .i64 z1)
  have f2 := fun j => Q2.frozen j
  have Q3 := Q2.set 2 (.string ⟨#[]⟩)
  have f3 := fun j => Q3.frozen j
  have Q4 := Q3.set 3 (.slice none 0 0)
  obtain ⟨p0, p1, p2, p3⟩ := row4O Q4
  have BE := (((B4.setCell (p := ⟨w.heap.size, 0, none⟩) (Nat.le_refl _) (.int .i64 z2)).setCell (p := ⟨w.heap.size, 1, none⟩) (Nat.le_refl _) (.int .i64 z1)).setCell (p := ⟨w.heap.size, 2, none⟩) (Nat.le_refl _) (.string ⟨#[]⟩)).setCell (p := ⟨w.heap.size, 3, none⟩) (Nat.le_refl _) (.slice none 0 0)
  dsimp only
  go_wp2_with fail
  refine bodyPost_ret (v := .agg #[.int .i64 z2, .int .i64 z1, .string ⟨#[]⟩, .slice none 0 0]) (by simp [results, Tryz.results47, go_sem, p0, p1, p2, p3]) rfl ⟨⟨_, _, _, _, _, _, rfl, ?_⟩, BE⟩
  rw [unhide HE, ofCalc]
  by_cases h0 : z2 = 0
  · rw [if_pos h0]
    exact ⟨h0, ⟨rfl, unhide HP⟩, rfl, rfl, rfl, rfl⟩
  · rw [if_neg h0]
    exact ⟨rfl, h0⟩

set_option maxRecDepth 100000 in
set_option maxHeartbeats 6400000 in
theorem applyO_union (a : Option Addr) (n c : Nat) (ss : List ByteArray) (a2 : Option Addr) (n2 c2 : Nat) (tt : List ByteArray) (g o cap : Nat) (w : World) (e0 : w.cell? ⟨g, o, none⟩ = some (.int .i64 0)) (e1 : w.cell? ⟨g, o + 1, none⟩ = some (.int .i64 0)) (e2 : w.cell? ⟨g, o + 2, none⟩ = some (.string ⟨#[]⟩)) (e3 : w.cell? ⟨g, o + 3, none⟩ = some (.slice a n c)) (e4 : w.cell? ⟨g, o + 4, none⟩ = some (.int .i64 0)) (e5 : w.cell? ⟨g, o + 5, none⟩ = some (.int .i64 0)) (e6 : w.cell? ⟨g, o + 6, none⟩ = some (.string ⟨#[]⟩)) (e7 : w.cell? ⟨g, o + 7, none⟩ = some (.slice a2 n2 c2)) (hS : Strs w a n c ss) (hS2 : Strs w a2 n2 c2 tt) (k1 : a = none → c = 0) (k2 : a2 = none → c2 = 0) (hg : g < w.heap.size) :
    Calls Tryz.prog 47 #[.int .i64 16, .slice (some ⟨g, o, none⟩) 2 cap] w (MAns (evBin 16 (.set ss) (.set tt)) w) := by
  have B0 := ((((Below.refl w.heap.size w).alloc (Nat.le_refl _) (.cells #[.int .i64 0, .int .i64 0, .string ⟨#[]⟩, .slice none 0 0] 90)).alloc (by simp) (.cells #[.int .i64 0, .int .i64 0, .string ⟨#[]⟩, .slice a n c] 90)).alloc (by simp; omega) (.cells #[.int .i64 0, .int .i64 0, .string ⟨#[]⟩, .slice a2 n2 c2] 90))
  have R0 := ((Row.new w #[.int .i64 0, .int .i64 0, .string ⟨#[]⟩, .slice none 0 0] 90).alloc (.cells #[.int .i64 0, .int .i64 0, .string ⟨#[]⟩, .slice a n c] 90)).alloc (.cells #[.int .i64 0, .int .i64 0, .string ⟨#[]⟩, .slice a2 n2 c2] 90)
  have R1 := (Row.new (w.alloc (.cells #[.int .i64 0, .int .i64 0, .string ⟨#[]⟩, .slice none 0 0] 90)) #[.int .i64 0, .int .i64 0, .string ⟨#[]⟩, .slice a n c] 90).alloc (.cells #[.int .i64 0, .int .i64 0, .string ⟨#[]⟩, .slice a2 n2 c2] 90)
  have R2 := Row.new ((w.alloc (.cells #[.int .i64 0, .int .i64 0, .string ⟨#[]⟩, .slice none 0 0] 90)).alloc (.cells #[.int .i64 0, .int .i64 0, .string ⟨#[]⟩, .slice a n c] 90)) #[.int .i64 0, .int .i64 0, .string ⟨#[]⟩, .slice a2 n2 c2] 90
  simp only [World.size_alloc] at R1 R2

  have H1 := hS.below B0 (Nat.le_refl _)
  have H2 := hS2.below B0 (Nat.le_refl _)
  have HZ := hide (And.intro (sizes_of hS) (sizes_of hS2))
  have HC := hide (sUnionG_any a n c ss a2 n2 c2 tt _ H1 H2 k1 k2)
  clear H1 H2 hS hS2 k1 k2

  go_enter Tryz.func47, Tryz.ntmps47
  go_wp2_with fail

  refine (unhide HC).mono ?_
  rintro r w4 ⟨x, cx, K, e, rfl, O4, hb4, hU⟩
  have R4 := R0.after hb4 (Nat.le_refl _)
  have B4 := B0.trans (hb4.mono (by simp; omega))
  have hS4 := Strs.of_owns O4 (hU.sizes (unhide HZ).1 (unhide HZ).2)
  have HU := hide hU
  have HO := hide O4
  have z4 := R0.lt
  clear hU O4 HC

  obtain ⟨x0, x1, x2, x3⟩ := row4O R4
  have f0 := fun j => R4.frozen j
  have Q1 := R4.set 0 (.int .i64 e)
  have f1 := fun j => Q1.frozen j
  have Q2 := Q1.set 1 (.int .i64 0)
  have f2 := fun j => Q2.frozen j
  have Q3 := Q2.set 2 (.string ⟨#[]⟩)
  have f3 := fun j => Q3.frozen j
  have Q4 := Q3.set 3 (.slice x K.length cx)
  obtain ⟨p0, p1, p2, p3⟩ := row4O Q4
  have BE := (((B4.setCell (p := ⟨w.heap.size, 0, none⟩) (Nat.le_refl _) (.int .i64 e)).setCell (p := ⟨w.heap.size, 1, none⟩) (Nat.le_refl _) (.int .i64 0)).setCell (p := ⟨w.heap.size, 2, none⟩) (Nat.le_refl _) (.string ⟨#[]⟩)).setCell (p := ⟨w.heap.size, 3, none⟩) (Nat.le_refl _) (.slice x K.length cx)
  dsimp only
  go_wp2_with fail
  refine bodyPost_ret (v := .agg #[.int .i64 e, .int .i64 0, .string ⟨#[]⟩, .slice x K.length cx]) (by simp [results, Tryz.results47, go_sem, p0, p1, p2, p3]) rfl ⟨⟨_, _, _, _, _, _, rfl, ?_⟩, BE⟩
  rw [evBin_union, unionK_of (unhide HU), ofUnion]
  by_cases h0 : e = 0
  · rw [if_pos h0]
    have O4 := unhide HO
    refine ⟨h0, rfl, rfl, ?_, by have := (unhide HU).len; show K.length ≤ 1048576; omega, ((((ZS.of_owns O4).setCell _ _ _).setCell _ _ _).setCell _ _ _).setCell _ _ _⟩
    · refine Strs.of_owns (base := w.heap.size + 3) (own_set3 (own_set3 (own_set3 (own_set3 (by simpa using O4) _ _ (fun q hq => ?_)) _ _ (fun q hq => ?_)) _ _ (fun q hq => ?_)) _ _ (fun q hq => ?_)) ((unhide HU).sizes (unhide HZ).1 (unhide HZ).2)
      all_goals (have := (O4.lt q hq).1; simp at this; show q ≠ w.heap.size; omega)
  · rw [if_neg h0]
    exact ⟨rfl, h0⟩

set_option maxRecDepth 100000 in
set_option maxHeartbeats 6400000 in
theorem applyO_meet (a : Option Addr) (n c : Nat) (ss : List ByteArray) (a2 : Option Addr) (n2 c2 : Nat) (tt : List ByteArray) (g o cap : Nat) (w : World) (e0 : w.cell? ⟨g, o, none⟩ = some (.int .i64 0)) (e1 : w.cell? ⟨g, o + 1, none⟩ = some (.int .i64 0)) (e2 : w.cell? ⟨g, o + 2, none⟩ = some (.string ⟨#[]⟩)) (e3 : w.cell? ⟨g, o + 3, none⟩ = some (.slice a n c)) (e4 : w.cell? ⟨g, o + 4, none⟩ = some (.int .i64 0)) (e5 : w.cell? ⟨g, o + 5, none⟩ = some (.int .i64 0)) (e6 : w.cell? ⟨g, o + 6, none⟩ = some (.string ⟨#[]⟩)) (e7 : w.cell? ⟨g, o + 7, none⟩ = some (.slice a2 n2 c2)) (hS : Strs w a n c ss) (hS2 : Strs w a2 n2 c2 tt) (l1 : ss.length ≤ 1048576) (hg : g < w.heap.size) :
    Calls Tryz.prog 47 #[.int .i64 17, .slice (some ⟨g, o, none⟩) 2 cap] w (MAns (evBin 17 (.set ss) (.set tt)) w) := by
  have B0 := ((((Below.refl w.heap.size w).alloc (Nat.le_refl _) (.cells #[.int .i64 0, .int .i64 0, .string ⟨#[]⟩, .slice none 0 0] 90)).alloc (by simp) (.cells #[.int .i64 0, .int .i64 0, .string ⟨#[]⟩, .slice a n c] 90)).alloc (by simp; omega) (.cells #[.int .i64 0, .int .i64 0, .string ⟨#[]⟩, .slice a2 n2 c2] 90))
  have R0 := ((Row.new w #[.int .i64 0, .int .i64 0, .string ⟨#[]⟩, .slice none 0 0] 90).alloc (.cells #[.int .i64 0, .int .i64 0, .string ⟨#[]⟩, .slice a n c] 90)).alloc (.cells #[.int .i64 0, .int .i64 0, .string ⟨#[]⟩, .slice a2 n2 c2] 90)
  have R1 := (Row.new (w.alloc (.cells #[.int .i64 0, .int .i64 0, .string ⟨#[]⟩, .slice none 0 0] 90)) #[.int .i64 0, .int .i64 0, .string ⟨#[]⟩, .slice a n c] 90).alloc (.cells #[.int .i64 0, .int .i64 0, .string ⟨#[]⟩, .slice a2 n2 c2] 90)
  have R2 := Row.new ((w.alloc (.cells #[.int .i64 0, .int .i64 0, .string ⟨#[]⟩, .slice none 0 0] 90)).alloc (.cells #[.int .i64 0, .int .i64 0, .string ⟨#[]⟩, .slice a n c] 90)) #[.int .i64 0, .int .i64 0, .string ⟨#[]⟩, .slice a2 n2 c2] 90
  simp only [World.size_alloc] at R1 R2

  have H1 := hS.below B0 (Nat.le_refl _)
  have H2 := hS2.below B0 (Nat.le_refl _)
  have HZ := hide (meet_sizes ss tt (sizes_of hS))
  have HW := hide (Nat.le_trans (meet_len ss tt) l1)
  have HC := hide (sMeet_any a n c ss a2 n2 c2 tt _ H1 H2)
  generalize hL : meetL ss tt = K at HZ HW
  have HL := hide hL
  clear H1 H2 hS hS2 hL

  go_enter Tryz.func47, Tryz.ntmps47
  go_wp2_with fail

  refine (unhide HC).mono ?_
  rintro r w4 ⟨x, cx, rfl, O4, hb4⟩
  rw [unhide HL] at O4 ⊢
  have R4 := R0.after hb4 (Nat.le_refl _)
  have B4 := B0.trans (hb4.mono (by simp; omega))
  have HO := hide O4
  clear O4 HC

  obtain ⟨x0, x1, x2, x3⟩ := row4O R4
  have f0 := fun j => R4.frozen j
  have Q1 := R4.set 0 (.int .i64 0)
  have f1 := fun j => Q1.frozen j
  have Q2 := Q1.set 1 (.int .i64 0)
  have f2 := fun j => Q2.frozen j
  have Q3 := Q2.set 2 (.string ⟨#[]⟩)
  have f3 := fun j => Q3.frozen j
  have Q4 := Q3.set 3 (.slice x K.length cx)
  obtain ⟨p0, p1, p2, p3⟩ := row4O Q4
  have BE := (((B4.setCell (p := ⟨w.heap.size, 0, none⟩) (Nat.le_refl _) (.int .i64 0)).setCell (p := ⟨w.heap.size, 1, none⟩) (Nat.le_refl _) (.int .i64 0)).setCell (p := ⟨w.heap.size, 2, none⟩) (Nat.le_refl _) (.string ⟨#[]⟩)).setCell (p := ⟨w.heap.size, 3, none⟩) (Nat.le_refl _) (.slice x K.length cx)
  dsimp only
  go_wp2_with fail
  refine bodyPost_ret (v := .agg #[.int .i64 0, .int .i64 0, .string ⟨#[]⟩, .slice x K.length cx]) (by simp [results, Tryz.results47, go_sem, p0, p1, p2, p3]) rfl ⟨⟨_, _, _, _, _, _, rfl, ?_⟩, BE⟩
  rw [evBin_meet, unhide HL]
  have O4 := unhide HO
  refine ⟨rfl, rfl, rfl, ?_, unhide HW, ((((ZS.of_owns O4).setCell _ _ _).setCell _ _ _).setCell _ _ _).setCell _ _ _⟩
  · refine Strs.of_owns (base := w.heap.size + 3) (own_set3 (own_set3 (own_set3 (own_set3 (by simpa using O4) _ _ (fun q hq => ?_)) _ _ (fun q hq => ?_)) _ _ (fun q hq => ?_)) _ _ (fun q hq => ?_)) (unhide HZ)
    all_goals (have := (O4.lt q hq).1; simp at this; show q ≠ w.heap.size; omega)

set_option maxRecDepth 100000 in
set_option maxHeartbeats 6400000 in
theorem applyO_minus (a : Option Addr) (n c : Nat) (ss : List ByteArray) (a2 : Option Addr) (n2 c2 : Nat) (tt : List ByteArray) (g o cap : Nat) (w : World) (e0 : w.cell? ⟨g, o, none⟩ = some (.int .i64 0)) (e1 : w.cell? ⟨g, o + 1, none⟩ = some (.int .i64 0)) (e2 : w.cell? ⟨g, o + 2, none⟩ = some (.string ⟨#[]⟩)) (e3 : w.cell? ⟨g, o + 3, none⟩ = some (.slice a n c)) (e4 : w.cell? ⟨g, o + 4, none⟩ = some (.int .i64 0)) (e5 : w.cell? ⟨g, o + 5, none⟩ = some (.int .i64 0)) (e6 : w.cell? ⟨g, o + 6, none⟩ = some (.string ⟨#[]⟩)) (e7 : w.cell? ⟨g, o + 7, none⟩ = some (.slice a2 n2 c2)) (hS : Strs w a n c ss) (hS2 : Strs w a2 n2 c2 tt) (l1 : ss.length ≤ 1048576) (hg : g < w.heap.size) :
    Calls Tryz.prog 47 #[.int .i64 18, .slice (some ⟨g, o, none⟩) 2 cap] w (MAns (evBin 18 (.set ss) (.set tt)) w) := by
  have B0 := ((((Below.refl w.heap.size w).alloc (Nat.le_refl _) (.cells #[.int .i64 0, .int .i64 0, .string ⟨#[]⟩, .slice none 0 0] 90)).alloc (by simp) (.cells #[.int .i64 0, .int .i64 0, .string ⟨#[]⟩, .slice a n c] 90)).alloc (by simp; omega) (.cells #[.int .i64 0, .int .i64 0, .string ⟨#[]⟩, .slice a2 n2 c2] 90))
  have R0 := ((Row.new w #[.int .i64 0, .int .i64 0, .string ⟨#[]⟩, .slice none 0 0] 90).alloc (.cells #[.int .i64 0, .int .i64 0, .string ⟨#[]⟩, .slice a n c] 90)).alloc (.cells #[.int .i64 0, .int .i64 0, .string ⟨#[]⟩, .slice a2 n2 c2] 90)
  have R1 := (Row.new (w.alloc (.cells #[.int .i64 0, .int .i64 0, .string ⟨#[]⟩, .slice none 0 0] 90)) #[.int .i64 0, .int .i64 0, .string ⟨#[]⟩, .slice a n c] 90).alloc (.cells #[.int .i64 0, .int .i64 0, .string ⟨#[]⟩, .slice a2 n2 c2] 90)
  have R2 := Row.new ((w.alloc (.cells #[.int .i64 0, .int .i64 0, .string ⟨#[]⟩, .slice none 0 0] 90)).alloc (.cells #[.int .i64 0, .int .i64 0, .string ⟨#[]⟩, .slice a n c] 90)) #[.int .i64 0, .int .i64 0, .string ⟨#[]⟩, .slice a2 n2 c2] 90
  simp only [World.size_alloc] at R1 R2

  have H1 := hS.below B0 (Nat.le_refl _)
  have H2 := hS2.below B0 (Nat.le_refl _)
  have HZ := hide (minus_sizes ss tt (sizes_of hS))
  have HW := hide (Nat.le_trans (minus_len ss tt) l1)
  have HC := hide (sMinus_any a n c ss a2 n2 c2 tt _ H1 H2)
  generalize hL : minusL ss tt = K at HZ HW
  have HL := hide hL
  clear H1 H2 hS hS2 hL

  go_enter Tryz.func47, Tryz.ntmps47
  go_wp2_with fail

  refine (unhide HC).mono ?_
  rintro r w4 ⟨x, cx, rfl, O4, hb4⟩
  rw [unhide HL] at O4 ⊢
  have R4 := R0.after hb4 (Nat.le_refl _)
  have B4 := B0.trans (hb4.mono (by simp; omega))
  have HO := hide O4
  clear O4 HC

  obtain ⟨x0, x1, x2, x3⟩ := row4O R4
  have f0 := fun j => R4.frozen j
  have Q1 := R4.set 0 (.int .i64 0)
  have f1 := fun j => Q1.frozen j
  have Q2 := Q1.set 1 (.int .i64 0)
  have f2 := fun j => Q2.frozen j
  have Q3 := Q2.set 2 (.string ⟨#[]⟩)
  have f3 := fun j => Q3.frozen j
  have Q4 := Q3.set 3 (.slice x K.length cx)
  obtain ⟨p0, p1, p2, p3⟩ := row4O Q4
  have BE := (((B4.setCell (p := ⟨w.heap.size, 0, none⟩) (Nat.le_refl _) (.int .i64 0)).setCell (p := ⟨w.heap.size, 1, none⟩) (Nat.le_refl _) (.int .i64 0)).setCell (p := ⟨w.heap.size, 2, none⟩) (Nat.le_refl _) (.string ⟨#[]⟩)).setCell (p := ⟨w.heap.size, 3, none⟩) (Nat.le_refl _) (.slice x K.length cx)
  dsimp only
  go_wp2_with fail
  refine bodyPost_ret (v := .agg #[.int .i64 0, .int .i64 0, .string ⟨#[]⟩, .slice x K.length cx]) (by simp [results, Tryz.results47, go_sem, p0, p1, p2, p3]) rfl ⟨⟨_, _, _, _, _, _, rfl, ?_⟩, BE⟩
  rw [evBin_minus, unhide HL]
  have O4 := unhide HO
  refine ⟨rfl, rfl, rfl, ?_, unhide HW, ((((ZS.of_owns O4).setCell _ _ _).setCell _ _ _).setCell _ _ _).setCell _ _ _⟩
  · refine Strs.of_owns (base := w.heap.size + 3) (own_set3 (own_set3 (own_set3 (own_set3 (by simpa using O4) _ _ (fun q hq => ?_)) _ _ (fun q hq => ?_)) _ _ (fun q hq => ?_)) _ _ (fun q hq => ?_)) (unhide HZ)
    all_goals (have := (O4.lt q hq).1; simp at this; show q ≠ w.heap.size; omega)

set_option maxRecDepth 100000 in
set_option maxHeartbeats 6400000 in
theorem applyO_less (k l : Int) (hi : I64 k) (hj : I64 l) (xa : Option Addr) (xn xc : Nat) (ya : Option Addr) (yn yc : Nat) (g o cap : Nat) (w : World) (e0 : w.cell? ⟨g, o, none⟩ = some (.int .i64 0)) (e1 : w.cell? ⟨g, o + 1, none⟩ = some (.int .i64 k)) (e2 : w.cell? ⟨g, o + 2, none⟩ = some (.string ⟨#[]⟩)) (e3 : w.cell? ⟨g, o + 3, none⟩ = some (.slice xa xn xc)) (e4 : w.cell? ⟨g, o + 4, none⟩ = some (.int .i64 0)) (e5 : w.cell? ⟨g, o + 5, none⟩ = some (.int .i64 l)) (e6 : w.cell? ⟨g, o + 6, none⟩ = some (.string ⟨#[]⟩)) (e7 : w.cell? ⟨g, o + 7, none⟩ = some (.slice ya yn yc)) (hg : g < w.heap.size) :
    Calls Tryz.prog 47 #[.int .i64 21, .slice (some ⟨g, o, none⟩) 2 cap] w (MAns (evBin 21 (.int k) (.int l)) w) := by
  have B0 := ((((Below.refl w.heap.size w).alloc (Nat.le_refl _) (.cells #[.int .i64 0, .int .i64 0, .string ⟨#[]⟩, .slice none 0 0] 90)).alloc (by simp) (.cells #[.int .i64 0, .int .i64 k, .string ⟨#[]⟩, .slice xa xn xc] 90)).alloc (by simp; omega) (.cells #[.int .i64 0, .int .i64 l, .string ⟨#[]⟩, .slice ya yn yc] 90))
  have R0 := ((Row.new w #[.int .i64 0, .int .i64 0, .string ⟨#[]⟩, .slice none 0 0] 90).alloc (.cells #[.int .i64 0, .int .i64 k, .string ⟨#[]⟩, .slice xa xn xc] 90)).alloc (.cells #[.int .i64 0, .int .i64 l, .string ⟨#[]⟩, .slice ya yn yc] 90)
  have R1 := (Row.new (w.alloc (.cells #[.int .i64 0, .int .i64 0, .string ⟨#[]⟩, .slice none 0 0] 90)) #[.int .i64 0, .int .i64 k, .string ⟨#[]⟩, .slice xa xn xc] 90).alloc (.cells #[.int .i64 0, .int .i64 l, .string ⟨#[]⟩, .slice ya yn yc] 90)
  have R2 := Row.new ((w.alloc (.cells #[.int .i64 0, .int .i64 0, .string ⟨#[]⟩, .slice none 0 0] 90)).alloc (.cells #[.int .i64 0, .int .i64 k, .string ⟨#[]⟩, .slice xa xn xc] 90)) #[.int .i64 0, .int .i64 l, .string ⟨#[]⟩, .slice ya yn yc] 90
  simp only [World.size_alloc] at R1 R2

  go_enter Tryz.func47, Tryz.ntmps47
  go_wp2_with fail

  generalize hq : (decide (k < l)) = tq
  have HTQ := hide hq
  clear hq
  refine (l3truth_any tq _).mono ?_
  rintro r w5 ⟨⟨cd, nm, tx, xa, xn, xc, rfl, rfl, hnm, rfl, rfl, rfl, rfl⟩, hb5⟩
  have HNM := hide hnm
  clear hnm
  have R5 := R0.after hb5 (Nat.le_refl _)
  have B5 := B0.trans (hb5.mono (by simp; omega))

  obtain ⟨x0, x1, x2, x3⟩ := row4O R5
  have f0 := fun j => R5.frozen j
  have Q1 := R5.set 0 (.int .i64 0)
  have f1 := fun j => Q1.frozen j
  have Q2 := Q1.set 1 (.int .i64 nm)
  have f2 := fun j => Q2.frozen j
  have Q3 := Q2.set 2 (.string ⟨#[]⟩)
  have f3 := fun j => Q3.frozen j
  have Q4 := Q3.set 3 (.slice none 0 0)
  obtain ⟨p0, p1, p2, p3⟩ := row4O Q4
  have BE := (((B5.setCell (p := ⟨w.heap.size, 0, none⟩) (Nat.le_refl _) (.int .i64 0)).setCell (p := ⟨w.heap.size, 1, none⟩) (Nat.le_refl _) (.int .i64 nm)).setCell (p := ⟨w.heap.size, 2, none⟩) (Nat.le_refl _) (.string ⟨#[]⟩)).setCell (p := ⟨w.heap.size, 3, none⟩) (Nat.le_refl _) (.slice none 0 0)
  dsimp only
  go_wp2_with fail
  refine bodyPost_ret (v := .agg #[.int .i64 0, .int .i64 nm, .string ⟨#[]⟩, .slice none 0 0]) (by simp [results, Tryz.results47, go_sem, p0, p1, p2, p3]) rfl ⟨⟨_, _, _, _, _, _, rfl, ?_⟩, BE⟩
  rw [evBin_less]
  exact ⟨rfl, by rw [unhide HNM, ← unhide HTQ], rfl, rfl, rfl, rfl⟩

set_option maxRecDepth 100000 in
set_option maxHeartbeats 6400000 in
theorem applyO_most (k l : Int) (hi : I64 k) (hj : I64 l) (xa : Option Addr) (xn xc : Nat) (ya : Option Addr) (yn yc : Nat) (g o cap : Nat) (w : World) (e0 : w.cell? ⟨g, o, none⟩ = some (.int .i64 0)) (e1 : w.cell? ⟨g, o + 1, none⟩ = some (.int .i64 k)) (e2 : w.cell? ⟨g, o + 2, none⟩ = some (.string ⟨#[]⟩)) (e3 : w.cell? ⟨g, o + 3, none⟩ = some (.slice xa xn xc)) (e4 : w.cell? ⟨g, o + 4, none⟩ = some (.int .i64 0)) (e5 : w.cell? ⟨g, o + 5, none⟩ = some (.int .i64 l)) (e6 : w.cell? ⟨g, o + 6, none⟩ = some (.string ⟨#[]⟩)) (e7 : w.cell? ⟨g, o + 7, none⟩ = some (.slice ya yn yc)) (hg : g < w.heap.size) :
    Calls Tryz.prog 47 #[.int .i64 22, .slice (some ⟨g, o, none⟩) 2 cap] w (MAns (evBin 22 (.int k) (.int l)) w) := by
  have B0 := ((((Below.refl w.heap.size w).alloc (Nat.le_refl _) (.cells #[.int .i64 0, .int .i64 0, .string ⟨#[]⟩, .slice none 0 0] 90)).alloc (by simp) (.cells #[.int .i64 0, .int .i64 k, .string ⟨#[]⟩, .slice xa xn xc] 90)).alloc (by simp; omega) (.cells #[.int .i64 0, .int .i64 l, .string ⟨#[]⟩, .slice ya yn yc] 90))
  have R0 := ((Row.new w #[.int .i64 0, .int .i64 0, .string ⟨#[]⟩, .slice none 0 0] 90).alloc (.cells #[.int .i64 0, .int .i64 k, .string ⟨#[]⟩, .slice xa xn xc] 90)).alloc (.cells #[.int .i64 0, .int .i64 l, .string ⟨#[]⟩, .slice ya yn yc] 90)
  have R1 := (Row.new (w.alloc (.cells #[.int .i64 0, .int .i64 0, .string ⟨#[]⟩, .slice none 0 0] 90)) #[.int .i64 0, .int .i64 k, .string ⟨#[]⟩, .slice xa xn xc] 90).alloc (.cells #[.int .i64 0, .int .i64 l, .string ⟨#[]⟩, .slice ya yn yc] 90)
  have R2 := Row.new ((w.alloc (.cells #[.int .i64 0, .int .i64 0, .string ⟨#[]⟩, .slice none 0 0] 90)).alloc (.cells #[.int .i64 0, .int .i64 k, .string ⟨#[]⟩, .slice xa xn xc] 90)) #[.int .i64 0, .int .i64 l, .string ⟨#[]⟩, .slice ya yn yc] 90
  simp only [World.size_alloc] at R1 R2

  go_enter Tryz.func47, Tryz.ntmps47
  go_wp2_with fail

  generalize hq : (decide (k ≤ l)) = tq
  have HTQ := hide hq
  clear hq
  refine (l3truth_any tq _).mono ?_
  rintro r w5 ⟨⟨cd, nm, tx, xa, xn, xc, rfl, rfl, hnm, rfl, rfl, rfl, rfl⟩, hb5⟩
  have HNM := hide hnm
  clear hnm
  have R5 := R0.after hb5 (Nat.le_refl _)
  have B5 := B0.trans (hb5.mono (by simp; omega))

  obtain ⟨x0, x1, x2, x3⟩ := row4O R5
  have f0 := fun j => R5.frozen j
  have Q1 := R5.set 0 (.int .i64 0)
  have f1 := fun j => Q1.frozen j
  have Q2 := Q1.set 1 (.int .i64 nm)
  have f2 := fun j => Q2.frozen j
  have Q3 := Q2.set 2 (.string ⟨#[]⟩)
  have f3 := fun j => Q3.frozen j
  have Q4 := Q3.set 3 (.slice none 0 0)
  obtain ⟨p0, p1, p2, p3⟩ := row4O Q4
  have BE := (((B5.setCell (p := ⟨w.heap.size, 0, none⟩) (Nat.le_refl _) (.int .i64 0)).setCell (p := ⟨w.heap.size, 1, none⟩) (Nat.le_refl _) (.int .i64 nm)).setCell (p := ⟨w.heap.size, 2, none⟩) (Nat.le_refl _) (.string ⟨#[]⟩)).setCell (p := ⟨w.heap.size, 3, none⟩) (Nat.le_refl _) (.slice none 0 0)
  dsimp only
  go_wp2_with fail
  refine bodyPost_ret (v := .agg #[.int .i64 0, .int .i64 nm, .string ⟨#[]⟩, .slice none 0 0]) (by simp [results, Tryz.results47, go_sem, p0, p1, p2, p3]) rfl ⟨⟨_, _, _, _, _, _, rfl, ?_⟩, BE⟩
  rw [evBin_most]
  exact ⟨rfl, by rw [unhide HNM, ← unhide HTQ], rfl, rfl, rfl, rfl⟩


end Go.Proofs.YtogenboibgddaaaGreatDoor

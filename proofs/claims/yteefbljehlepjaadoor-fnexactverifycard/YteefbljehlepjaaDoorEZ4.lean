/-
  The law's look whether a code is as it was. Own work.
-/
import Derived.Test.YteefbljehlepjaaDoorEX0
import Derived.Test.YteefbljehlepjaaDoorLawsE
namespace Go.Proofs.YteefbljehlepjaaDoor
open Go.RowKit
set_option linter.unusedVariables false

set_option maxRecDepth 100000 in
set_option maxHeartbeats 1600000 in
theorem eqValue_same (x : Vl) (an an' : Option Addr) (nn cn cn' : Nat) (w : World)
    (h1 : Strs w an nn cn x.names) (h1' : Strs w an' nn cn' x.names) :
    Calls Tryd.prog 39 #[.agg #[.int .i64 x.kind, .int .i64 x.num, .string x.text, .slice an nn cn], .agg #[.int .i64 x.kind, .int .i64 x.num, .string x.text, .slice an' nn cn']] w fun e w' => e = .returned (.bool true) ∧ Below w.heap.size w w' := by
  have B0 := ((Below.refl w.heap.size w).alloc (Nat.le_refl _) (.cells #[.int .i64 x.kind, .int .i64 x.num, .string x.text, .slice an nn cn] 61)).alloc (by simp) (.cells #[.int .i64 x.kind, .int .i64 x.num, .string x.text, .slice an' nn cn'] 61)
  go_enter Tryd.func39, Tryd.ntmps39
  go_wp2_with fail
  refine (eqStringS_same _ _ _ _ _ _ _ (h1.below B0 (Nat.le_refl _)) (h1'.below B0 (Nat.le_refl _))).mono ?_
  rintro e w1 ⟨rfl, hb1⟩
  go_wp2_with fail
  go_ret
  exact ⟨rfl, B0.trans (hb1.mono (by simp; omega))⟩

set_option maxRecDepth 100000 in
set_option maxHeartbeats 1600000 in
theorem eqValueS_same (a a' : Option Addr) (n c c' : Nat) (N : List Vl) (w : World) (h : Vls w a n c N) (h' : Vls w a' n c' N) :
    Calls Tryd.prog 20 #[.slice a n c, .slice a' n c'] w fun e w' => e = .returned (.bool true) ∧ Below w.heap.size w w' := by
  have hn := h.small
  have Hl := hide h.len
  go_enter Tryd.func20, Tryd.ntmps20
  go_wp2_with fail
  go_loopw [5] (fun i wr => ∃ k : Nat, k ≤ n ∧ i = .int .i64 k ∧ Below w.heap.size w wr) (fun i _ => n - (intOf i).toNat)
  case atStart => exact ⟨0, Nat.zero_le _, rfl, Below.refl _ _⟩
  case round =>
    obtain ⟨k, hk, rfl, hb⟩ := hrel
    by_cases hlt : k < n
    · have hkl : k < N.length := by rw [unhide Hl]; exact hlt
      obtain ⟨b, off, rfl, hbl, an, nn, cn, c0, c1, c2, c3, hN⟩ := (h.below hb (Nat.le_refl _)).cells k hkl
      obtain ⟨b', off', rfl, hbl', an', nn', cn', d0, d1, d2, d3, hN'⟩ := (h'.below hb (Nat.le_refl _)).cells k hkl
      have i3 : (k : Int) < (n : Int) := by omega
      generalize N[k] = x at c0 c1 c2 c3 hN d0 d1 d2 d3 hN'
      obtain rfl : nn = nn' := by rw [hN.len, hN'.len]
      have Hlt := hide hlt
      clear hlt h h'
      go_wp2_with fail
      have D1 : Below wr.heap.size wr wr.drew := (Below.refl _ _).drew
      have q1 : wr.drew.cell? ⟨b, off + k * 4, none⟩ = some (.int .i64 x.kind) ∧ wr.drew.cell? ⟨b, off + k * 4 + 1, none⟩ = some (.int .i64 x.num) ∧ wr.drew.cell? ⟨b, off + k * 4 + 2, none⟩ = some (.string x.text) ∧ wr.drew.cell? ⟨b, off + k * 4 + 3, none⟩ = some (.slice an nn cn) ∧ wr.drew.cell? ⟨b', off' + k * 4, none⟩ = some (.int .i64 x.kind) ∧ wr.drew.cell? ⟨b', off' + k * 4 + 1, none⟩ = some (.int .i64 x.num) ∧ wr.drew.cell? ⟨b', off' + k * 4 + 2, none⟩ = some (.string x.text) ∧ wr.drew.cell? ⟨b', off' + k * 4 + 3, none⟩ = some (.slice an' nn cn') := ⟨c0, c1, c2, c3, d0, d1, d2, d3⟩
      go_region_held3 (fun w' => w'.cell? ⟨b, off + k * 4, none⟩ = some (.int .i64 x.kind) ∧ w'.cell? ⟨b, off + k * 4 + 1, none⟩ = some (.int .i64 x.num) ∧ w'.cell? ⟨b, off + k * 4 + 2, none⟩ = some (.string x.text) ∧ w'.cell? ⟨b, off + k * 4 + 3, none⟩ = some (.slice an nn cn) ∧ w'.cell? ⟨b', off' + k * 4, none⟩ = some (.int .i64 x.kind) ∧ w'.cell? ⟨b', off' + k * 4 + 1, none⟩ = some (.int .i64 x.num) ∧ w'.cell? ⟨b', off' + k * 4 + 2, none⟩ = some (.string x.text) ∧ w'.cell? ⟨b', off' + k * 4 + 3, none⟩ = some (.slice an' nn cn')) (first | assumption | go_keep)
        (first
          | (go_at_call 39; refine (eqValue_same x _ _ _ _ _ _ (hN.below D1 (Nat.le_refl _)) (hN'.below D1 (Nat.le_refl _))).mono ?_; rintro e w2 ⟨rfl, hb2⟩; have E2 := D1.trans (hb2.mono D1.size); obtain ⟨ec, _⟩ := bcell E2; have q2 : w2.cell? ⟨b, off + k * 4, none⟩ = some (.int .i64 x.kind) ∧ w2.cell? ⟨b, off + k * 4 + 1, none⟩ = some (.int .i64 x.num) ∧ w2.cell? ⟨b, off + k * 4 + 2, none⟩ = some (.string x.text) ∧ w2.cell? ⟨b, off + k * 4 + 3, none⟩ = some (.slice an nn cn) ∧ w2.cell? ⟨b', off' + k * 4, none⟩ = some (.int .i64 x.kind) ∧ w2.cell? ⟨b', off' + k * 4 + 1, none⟩ = some (.int .i64 x.num) ∧ w2.cell? ⟨b', off' + k * 4 + 2, none⟩ = some (.string x.text) ∧ w2.cell? ⟨b', off' + k * 4 + 3, none⟩ = some (.slice an' nn cn') := ⟨(ec _ _ hbl).trans c0, (ec _ _ hbl).trans c1, (ec _ _ hbl).trans c2, (ec _ _ hbl).trans c3, (ec _ _ hbl').trans d0, (ec _ _ hbl').trans d1, (ec _ _ hbl').trans d2, (ec _ _ hbl').trans d3⟩))
      go_wp2_with fail
      go_roundw
      case rel => exact ⟨k + 1, unhide Hlt, by go_num, hb.trans (E2.mono hb.size)⟩
      case measure => have := unhide Hlt; simp [intOf]; omega
    · have i3 : ¬ ((k : Int) < (n : Int)) := by omega
      go_wp2_with fail
      go_ret
      exact ⟨rfl, hb⟩

set_option maxHeartbeats 800000 in
theorem eqIns_same (s : Is1) (w : World) :
    Calls Tryd.prog 40 #[.agg #[.int .i64 s.op, .int .i64 s.arg], .agg #[.int .i64 s.op, .int .i64 s.arg]] w fun e w' => e = .returned (.bool true) ∧ Below w.heap.size w w' := by
  go_enter Tryd.func40, Tryd.ntmps40
  go_wp2
  go_ret
  exact ⟨rfl, ((Below.refl w.heap.size w).alloc (Nat.le_refl _) _).alloc (by simp) _⟩

set_option maxRecDepth 100000 in
set_option maxHeartbeats 1600000 in
theorem eqInsS_same (a a' : Option Addr) (n c c' : Nat) (N : List Is1) (w : World) (h : Iss w a n c N) (h' : Iss w a' n c' N) :
    Calls Tryd.prog 21 #[.slice a n c, .slice a' n c'] w fun e w' => e = .returned (.bool true) ∧ Below w.heap.size w w' := by
  have hn := h.small
  have Hl := hide h.len
  go_enter Tryd.func21, Tryd.ntmps21
  go_wp2_with fail
  go_loopw [5] (fun i wr => ∃ k : Nat, k ≤ n ∧ i = .int .i64 k ∧ Below w.heap.size w wr) (fun i _ => n - (intOf i).toNat)
  case atStart => exact ⟨0, Nat.zero_le _, rfl, Below.refl _ _⟩
  case round =>
    obtain ⟨k, hk, rfl, hb⟩ := hrel
    by_cases hlt : k < n
    · have hkl : k < N.length := by rw [unhide Hl]; exact hlt
      obtain ⟨b, off, rfl, hbl, c0, c1⟩ := (h.below hb (Nat.le_refl _)).cells k hkl
      obtain ⟨b', off', rfl, hbl', d0, d1⟩ := (h'.below hb (Nat.le_refl _)).cells k hkl
      have i3 : (k : Int) < (n : Int) := by omega
      generalize N[k] = x at c0 c1 d0 d1
      have Hlt := hide hlt
      clear hlt h h'
      go_wp2_with fail
      have D1 : Below wr.heap.size wr wr.drew := (Below.refl _ _).drew
      have q1 : wr.drew.cell? ⟨b, off + k * 2, none⟩ = some (.int .i64 x.op) ∧ wr.drew.cell? ⟨b, off + k * 2 + 1, none⟩ = some (.int .i64 x.arg) ∧ wr.drew.cell? ⟨b', off' + k * 2, none⟩ = some (.int .i64 x.op) ∧ wr.drew.cell? ⟨b', off' + k * 2 + 1, none⟩ = some (.int .i64 x.arg) := ⟨c0, c1, d0, d1⟩
      go_region_held3 (fun w' => w'.cell? ⟨b, off + k * 2, none⟩ = some (.int .i64 x.op) ∧ w'.cell? ⟨b, off + k * 2 + 1, none⟩ = some (.int .i64 x.arg) ∧ w'.cell? ⟨b', off' + k * 2, none⟩ = some (.int .i64 x.op) ∧ w'.cell? ⟨b', off' + k * 2 + 1, none⟩ = some (.int .i64 x.arg)) (first | assumption | go_keep)
        (first
          | (go_at_call 40; refine (eqIns_same x _).mono ?_; rintro e w2 ⟨rfl, hb2⟩; have E2 := D1.trans (hb2.mono D1.size); obtain ⟨ec, _⟩ := bcell E2; have q2 : w2.cell? ⟨b, off + k * 2, none⟩ = some (.int .i64 x.op) ∧ w2.cell? ⟨b, off + k * 2 + 1, none⟩ = some (.int .i64 x.arg) ∧ w2.cell? ⟨b', off' + k * 2, none⟩ = some (.int .i64 x.op) ∧ w2.cell? ⟨b', off' + k * 2 + 1, none⟩ = some (.int .i64 x.arg) := ⟨(ec _ _ hbl).trans c0, (ec _ _ hbl).trans c1, (ec _ _ hbl').trans d0, (ec _ _ hbl').trans d1⟩))
      go_wp2_with fail
      go_roundw
      case rel => exact ⟨k + 1, unhide Hlt, by go_num, hb.trans (E2.mono hb.size)⟩
      case measure => have := unhide Hlt; simp [intOf]; omega
    · have i3 : ¬ ((k : Int) < (n : Int)) := by omega
      go_wp2_with fail
      go_ret
      exact ⟨rfl, hb⟩

set_option maxHeartbeats 1600000 in
theorem eqCode_same (a a' b b' : Option Addr) (n c c' m d d' : Nat) (s : Int) (N : List Vl) (L : List Is1) (w : World) (h1 : Vls w a n c N) (h1' : Vls w a' n c' N) (h2 : Iss w b m d L) (h2' : Iss w b' m d' L) :
    Calls Tryd.prog 8 #[.agg #[.slice a n c, .int .i64 s, .slice b m d], .agg #[.slice a' n c', .int .i64 s, .slice b' m d']] w fun e w' => e = .returned (.bool true) ∧ Below w.heap.size w w' := by
  have B0 := ((Below.refl w.heap.size w).alloc (Nat.le_refl _) (.cells #[.slice a n c, .int .i64 s, .slice b m d] 32)).alloc (by simp) (.cells #[.slice a' n c', .int .i64 s, .slice b' m d'] 32)
  have R0 := (Row.new w #[.slice a n c, .int .i64 s, .slice b m d] 32).alloc (.cells #[.slice a' n c', .int .i64 s, .slice b' m d'] 32)
  have R1 := Row.new (w.alloc (.cells #[.slice a n c, .int .i64 s, .slice b m d] 32)) #[.slice a' n c', .int .i64 s, .slice b' m d'] 32
  simp only [World.size_alloc] at R1
  go_enter Tryd.func8, Tryd.ntmps8
  go_wp2_with fail
  refine (eqValueS_same _ _ _ _ _ _ _ (h1.below B0 (Nat.le_refl _)) (h1'.below B0 (Nat.le_refl _))).mono ?_
  rintro e w1 ⟨rfl, hb1⟩
  have B1 := B0.trans (hb1.mono (by simp; omega))
  have q0 := (R0.after hb1 (Nat.le_refl _)).cell 1
  have q1 := (R1.after hb1 (Nat.le_refl _)).cell 1
  have q2 := (R0.after hb1 (Nat.le_refl _)).cell 2
  have q3 := (R1.after hb1 (Nat.le_refl _)).cell 2
  have z1 := hb1.size
  simp at q0 q1 q2 q3 z1
  clear R0 R1 B0 hb1
  go_wp2_with fail
  refine (eqInsS_same _ _ _ _ _ _ _ (h2.below B1 (Nat.le_refl _)) (h2'.below B1 (Nat.le_refl _))).mono ?_
  rintro e w2 ⟨rfl, hb2⟩
  go_wp2_with fail
  go_ret
  exact ⟨rfl, B1.trans (hb2.mono (by omega))⟩

end Go.Proofs.YteefbljehlepjaaDoor

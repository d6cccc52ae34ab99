/-
  The model's table of types. Own work.
-/
import Derived.Test.YtpbopjgmiaoomaaGreatDoorMXAD
namespace Go.Proofs.YtpbopjgmiaoomaaGreatDoor
open Go.RowKit
set_option linter.unusedVariables false

/-- what the kids are, and what comes of it -/
def rowL (op : Int) : List Int × Int :=
  if op = 1 then ([], 2)
  else if op = 2 then ([], 3)
  else if op = 3 then ([], 1)
  else if op = 4 then ([], 4)
  else if op = 8 then ([2], 2)
  else if op = 9 then ([1], 1)
  else if op = 10 then ([4], 2)
  else if op = 11 then ([2, 2], 2)
  else if op = 12 then ([2, 2], 2)
  else if op = 13 then ([2, 2], 2)
  else if op = 14 then ([2, 2], 2)
  else if op = 15 then ([2, 2], 2)
  else if op = 16 then ([4, 4], 4)
  else if op = 17 then ([4, 4], 4)
  else if op = 18 then ([4, 4], 4)
  else if op = 19 then ([0, 0], 1)
  else if op = 20 then ([0, 0], 1)
  else if op = 21 then ([2, 2], 1)
  else if op = 22 then ([2, 2], 1)
  else if op = 23 then ([3, 4], 1)
  else if op = 24 then ([4, 4], 1)
  else if op = 25 then ([1, 1], 1)
  else if op = 26 then ([1, 1], 1)
  else if op = 27 then ([1, 0, 0], 0)
  else ([1, 0, 0], 0)

theorem ints_new (w : World) (t : TypeId) (L : List Int) (hL : L.length ≤ 1048576) : Ints (w.alloc (.cells (L.map (Value.int .i64)).toArray t)) (some ⟨w.heap.size, 0, none⟩) L.length L.length L := by
  refine ⟨rfl, hL, fun j hj => ⟨w.heap.size, 0, rfl, by simp, ?_⟩⟩
  rw [Nat.zero_add, (Row.new w (L.map (Value.int .i64)).toArray t).cell j]
  simp [hj]

theorem ints_none (w : World) : Ints w none 0 0 [] := ⟨rfl, by omega, fun j h => absurd h (by simp)⟩

def opOK (op : Int) : Prop := (1 ≤ op ∧ op ≤ 4) ∨ (8 ≤ op ∧ op ≤ 27)

def RwAns (op : Int) (w : World) (r : Ending) (w' : World) : Prop := (∃ x n c, r = .returned (.tuple #[.slice x n c, .int .i64 (rowL op).2]) ∧ Ints w' x n c (rowL op).1) ∧ Below w.heap.size w w'

set_option maxRecDepth 100000 in
set_option maxHeartbeats 800000 in
theorem l3row_1 (w : World) : Calls Tryz.prog 123 #[.int .i64 1] w (RwAns 1 w) := by
  go_enter Tryz.func123, Tryz.ntmps123
  go_wp2_with fail
  exact bodyPost_ret (v := .tuple #[.slice none 0 0, .int .i64 2]) (by simp [results, Tryz.results123, go_sem]) rfl ⟨⟨_, _, _, rfl, ints_none w⟩, Below.refl _ _⟩

set_option maxRecDepth 100000 in
set_option maxHeartbeats 800000 in
theorem l3row_2 (w : World) : Calls Tryz.prog 123 #[.int .i64 2] w (RwAns 2 w) := by
  go_enter Tryz.func123, Tryz.ntmps123
  go_wp2_with fail
  exact bodyPost_ret (v := .tuple #[.slice none 0 0, .int .i64 3]) (by simp [results, Tryz.results123, go_sem]) rfl ⟨⟨_, _, _, rfl, ints_none w⟩, Below.refl _ _⟩

set_option maxRecDepth 100000 in
set_option maxHeartbeats 800000 in
theorem l3row_3 (w : World) : Calls Tryz.prog 123 #[.int .i64 3] w (RwAns 3 w) := by
  go_enter Tryz.func123, Tryz.ntmps123
  go_wp2_with fail
  exact bodyPost_ret (v := .tuple #[.slice none 0 0, .int .i64 1]) (by simp [results, Tryz.results123, go_sem]) rfl ⟨⟨_, _, _, rfl, ints_none w⟩, Below.refl _ _⟩

set_option maxRecDepth 100000 in
set_option maxHeartbeats 800000 in
theorem l3row_4 (w : World) : Calls Tryz.prog 123 #[.int .i64 4] w (RwAns 4 w) := by
  go_enter Tryz.func123, Tryz.ntmps123
  go_wp2_with fail
  exact bodyPost_ret (v := .tuple #[.slice none 0 0, .int .i64 4]) (by simp [results, Tryz.results123, go_sem]) rfl ⟨⟨_, _, _, rfl, ints_none w⟩, Below.refl _ _⟩

set_option maxRecDepth 100000 in
set_option maxHeartbeats 800000 in
theorem l3row_8 (w : World) : Calls Tryz.prog 123 #[.int .i64 8] w (RwAns 8 w) := by
  have I := ints_new w 3 [2] (by decide)
  have B0 := (Below.refl w.heap.size w).alloc (Nat.le_refl _) (.cells #[.int .i64 2] 3)
  go_enter Tryz.func123, Tryz.ntmps123
  go_wp2_with fail
  exact bodyPost_ret (v := .tuple #[.slice (some ⟨w.heap.size, 0, none⟩) 1 1, .int .i64 2]) (by simp [results, Tryz.results123, go_sem]) rfl ⟨⟨_, _, _, rfl, I⟩, B0⟩

set_option maxRecDepth 100000 in
set_option maxHeartbeats 800000 in
theorem l3row_9 (w : World) : Calls Tryz.prog 123 #[.int .i64 9] w (RwAns 9 w) := by
  have I := ints_new w 3 [1] (by decide)
  have B0 := (Below.refl w.heap.size w).alloc (Nat.le_refl _) (.cells #[.int .i64 1] 3)
  go_enter Tryz.func123, Tryz.ntmps123
  go_wp2_with fail
  exact bodyPost_ret (v := .tuple #[.slice (some ⟨w.heap.size, 0, none⟩) 1 1, .int .i64 1]) (by simp [results, Tryz.results123, go_sem]) rfl ⟨⟨_, _, _, rfl, I⟩, B0⟩

set_option maxRecDepth 100000 in
set_option maxHeartbeats 800000 in
theorem l3row_10 (w : World) : Calls Tryz.prog 123 #[.int .i64 10] w (RwAns 10 w) := by
  have I := ints_new w 3 [4] (by decide)
  have B0 := (Below.refl w.heap.size w).alloc (Nat.le_refl _) (.cells #[.int .i64 4] 3)
  go_enter Tryz.func123, Tryz.ntmps123
  go_wp2_with fail
  exact bodyPost_ret (v := .tuple #[.slice (some ⟨w.heap.size, 0, none⟩) 1 1, .int .i64 2]) (by simp [results, Tryz.results123, go_sem]) rfl ⟨⟨_, _, _, rfl, I⟩, B0⟩

set_option maxRecDepth 100000 in
set_option maxHeartbeats 800000 in
theorem l3row_11 (w : World) : Calls Tryz.prog 123 #[.int .i64 11] w (RwAns 11 w) := by
  have I := ints_new w 3 [2, 2] (by decide)
  have B0 := (Below.refl w.heap.size w).alloc (Nat.le_refl _) (.cells #[.int .i64 2, .int .i64 2] 3)
  go_enter Tryz.func123, Tryz.ntmps123
  go_wp2_with fail
  exact bodyPost_ret (v := .tuple #[.slice (some ⟨w.heap.size, 0, none⟩) 2 2, .int .i64 2]) (by simp [results, Tryz.results123, go_sem]) rfl ⟨⟨_, _, _, rfl, I⟩, B0⟩

set_option maxRecDepth 100000 in
set_option maxHeartbeats 800000 in
theorem l3row_12 (w : World) : Calls Tryz.prog 123 #[.int .i64 12] w (RwAns 12 w) := by
  have I := ints_new w 3 [2, 2] (by decide)
  have B0 := (Below.refl w.heap.size w).alloc (Nat.le_refl _) (.cells #[.int .i64 2, .int .i64 2] 3)
  go_enter Tryz.func123, Tryz.ntmps123
  go_wp2_with fail
  exact bodyPost_ret (v := .tuple #[.slice (some ⟨w.heap.size, 0, none⟩) 2 2, .int .i64 2]) (by simp [results, Tryz.results123, go_sem]) rfl ⟨⟨_, _, _, rfl, I⟩, B0⟩

set_option maxRecDepth 100000 in
set_option maxHeartbeats 800000 in
theorem l3row_13 (w : World) : Calls Tryz.prog 123 #[.int .i64 13] w (RwAns 13 w) := by
  have I := ints_new w 3 [2, 2] (by decide)
  have B0 := (Below.refl w.heap.size w).alloc (Nat.le_refl _) (.cells #[.int .i64 2, .int .i64 2] 3)
  go_enter Tryz.func123, Tryz.ntmps123
  go_wp2_with fail
  exact bodyPost_ret (v := .tuple #[.slice (some ⟨w.heap.size, 0, none⟩) 2 2, .int .i64 2]) (by simp [results, Tryz.results123, go_sem]) rfl ⟨⟨_, _, _, rfl, I⟩, B0⟩

set_option maxRecDepth 100000 in
set_option maxHeartbeats 800000 in
theorem l3row_14 (w : World) : Calls Tryz.prog 123 #[.int .i64 14] w (RwAns 14 w) := by
  have I := ints_new w 3 [2, 2] (by decide)
  have B0 := (Below.refl w.heap.size w).alloc (Nat.le_refl _) (.cells #[.int .i64 2, .int .i64 2] 3)
  go_enter Tryz.func123, Tryz.ntmps123
  go_wp2_with fail
  exact bodyPost_ret (v := .tuple #[.slice (some ⟨w.heap.size, 0, none⟩) 2 2, .int .i64 2]) (by simp [results, Tryz.results123, go_sem]) rfl ⟨⟨_, _, _, rfl, I⟩, B0⟩

set_option maxRecDepth 100000 in
set_option maxHeartbeats 800000 in
theorem l3row_15 (w : World) : Calls Tryz.prog 123 #[.int .i64 15] w (RwAns 15 w) := by
  have I := ints_new w 3 [2, 2] (by decide)
  have B0 := (Below.refl w.heap.size w).alloc (Nat.le_refl _) (.cells #[.int .i64 2, .int .i64 2] 3)
  go_enter Tryz.func123, Tryz.ntmps123
  go_wp2_with fail
  exact bodyPost_ret (v := .tuple #[.slice (some ⟨w.heap.size, 0, none⟩) 2 2, .int .i64 2]) (by simp [results, Tryz.results123, go_sem]) rfl ⟨⟨_, _, _, rfl, I⟩, B0⟩

set_option maxRecDepth 100000 in
set_option maxHeartbeats 800000 in
theorem l3row_16 (w : World) : Calls Tryz.prog 123 #[.int .i64 16] w (RwAns 16 w) := by
  have I := ints_new w 3 [4, 4] (by decide)
  have B0 := (Below.refl w.heap.size w).alloc (Nat.le_refl _) (.cells #[.int .i64 4, .int .i64 4] 3)
  go_enter Tryz.func123, Tryz.ntmps123
  go_wp2_with fail
  exact bodyPost_ret (v := .tuple #[.slice (some ⟨w.heap.size, 0, none⟩) 2 2, .int .i64 4]) (by simp [results, Tryz.results123, go_sem]) rfl ⟨⟨_, _, _, rfl, I⟩, B0⟩

set_option maxRecDepth 100000 in
set_option maxHeartbeats 800000 in
theorem l3row_17 (w : World) : Calls Tryz.prog 123 #[.int .i64 17] w (RwAns 17 w) := by
  have I := ints_new w 3 [4, 4] (by decide)
  have B0 := (Below.refl w.heap.size w).alloc (Nat.le_refl _) (.cells #[.int .i64 4, .int .i64 4] 3)
  go_enter Tryz.func123, Tryz.ntmps123
  go_wp2_with fail
  exact bodyPost_ret (v := .tuple #[.slice (some ⟨w.heap.size, 0, none⟩) 2 2, .int .i64 4]) (by simp [results, Tryz.results123, go_sem]) rfl ⟨⟨_, _, _, rfl, I⟩, B0⟩

set_option maxRecDepth 100000 in
set_option maxHeartbeats 800000 in
theorem l3row_18 (w : World) : Calls Tryz.prog 123 #[.int .i64 18] w (RwAns 18 w) := by
  have I := ints_new w 3 [4, 4] (by decide)
  have B0 := (Below.refl w.heap.size w).alloc (Nat.le_refl _) (.cells #[.int .i64 4, .int .i64 4] 3)
  go_enter Tryz.func123, Tryz.ntmps123
  go_wp2_with fail
  exact bodyPost_ret (v := .tuple #[.slice (some ⟨w.heap.size, 0, none⟩) 2 2, .int .i64 4]) (by simp [results, Tryz.results123, go_sem]) rfl ⟨⟨_, _, _, rfl, I⟩, B0⟩

set_option maxRecDepth 100000 in
set_option maxHeartbeats 800000 in
theorem l3row_19 (w : World) : Calls Tryz.prog 123 #[.int .i64 19] w (RwAns 19 w) := by
  have I := ints_new w 3 [0, 0] (by decide)
  have B0 := (Below.refl w.heap.size w).alloc (Nat.le_refl _) (.cells #[.int .i64 0, .int .i64 0] 3)
  go_enter Tryz.func123, Tryz.ntmps123
  go_wp2_with fail
  exact bodyPost_ret (v := .tuple #[.slice (some ⟨w.heap.size, 0, none⟩) 2 2, .int .i64 1]) (by simp [results, Tryz.results123, go_sem]) rfl ⟨⟨_, _, _, rfl, I⟩, B0⟩

set_option maxRecDepth 100000 in
set_option maxHeartbeats 800000 in
theorem l3row_20 (w : World) : Calls Tryz.prog 123 #[.int .i64 20] w (RwAns 20 w) := by
  have I := ints_new w 3 [0, 0] (by decide)
  have B0 := (Below.refl w.heap.size w).alloc (Nat.le_refl _) (.cells #[.int .i64 0, .int .i64 0] 3)
  go_enter Tryz.func123, Tryz.ntmps123
  go_wp2_with fail
  exact bodyPost_ret (v := .tuple #[.slice (some ⟨w.heap.size, 0, none⟩) 2 2, .int .i64 1]) (by simp [results, Tryz.results123, go_sem]) rfl ⟨⟨_, _, _, rfl, I⟩, B0⟩

set_option maxRecDepth 100000 in
set_option maxHeartbeats 800000 in
theorem l3row_21 (w : World) : Calls Tryz.prog 123 #[.int .i64 21] w (RwAns 21 w) := by
  have I := ints_new w 3 [2, 2] (by decide)
  have B0 := (Below.refl w.heap.size w).alloc (Nat.le_refl _) (.cells #[.int .i64 2, .int .i64 2] 3)
  go_enter Tryz.func123, Tryz.ntmps123
  go_wp2_with fail
  exact bodyPost_ret (v := .tuple #[.slice (some ⟨w.heap.size, 0, none⟩) 2 2, .int .i64 1]) (by simp [results, Tryz.results123, go_sem]) rfl ⟨⟨_, _, _, rfl, I⟩, B0⟩

set_option maxRecDepth 100000 in
set_option maxHeartbeats 800000 in
theorem l3row_22 (w : World) : Calls Tryz.prog 123 #[.int .i64 22] w (RwAns 22 w) := by
  have I := ints_new w 3 [2, 2] (by decide)
  have B0 := (Below.refl w.heap.size w).alloc (Nat.le_refl _) (.cells #[.int .i64 2, .int .i64 2] 3)
  go_enter Tryz.func123, Tryz.ntmps123
  go_wp2_with fail
  exact bodyPost_ret (v := .tuple #[.slice (some ⟨w.heap.size, 0, none⟩) 2 2, .int .i64 1]) (by simp [results, Tryz.results123, go_sem]) rfl ⟨⟨_, _, _, rfl, I⟩, B0⟩

set_option maxRecDepth 100000 in
set_option maxHeartbeats 800000 in
theorem l3row_23 (w : World) : Calls Tryz.prog 123 #[.int .i64 23] w (RwAns 23 w) := by
  have I := ints_new w 3 [3, 4] (by decide)
  have B0 := (Below.refl w.heap.size w).alloc (Nat.le_refl _) (.cells #[.int .i64 3, .int .i64 4] 3)
  go_enter Tryz.func123, Tryz.ntmps123
  go_wp2_with fail
  exact bodyPost_ret (v := .tuple #[.slice (some ⟨w.heap.size, 0, none⟩) 2 2, .int .i64 1]) (by simp [results, Tryz.results123, go_sem]) rfl ⟨⟨_, _, _, rfl, I⟩, B0⟩

set_option maxRecDepth 100000 in
set_option maxHeartbeats 800000 in
theorem l3row_24 (w : World) : Calls Tryz.prog 123 #[.int .i64 24] w (RwAns 24 w) := by
  have I := ints_new w 3 [4, 4] (by decide)
  have B0 := (Below.refl w.heap.size w).alloc (Nat.le_refl _) (.cells #[.int .i64 4, .int .i64 4] 3)
  go_enter Tryz.func123, Tryz.ntmps123
  go_wp2_with fail
  exact bodyPost_ret (v := .tuple #[.slice (some ⟨w.heap.size, 0, none⟩) 2 2, .int .i64 1]) (by simp [results, Tryz.results123, go_sem]) rfl ⟨⟨_, _, _, rfl, I⟩, B0⟩

set_option maxRecDepth 100000 in
set_option maxHeartbeats 800000 in
theorem l3row_25 (w : World) : Calls Tryz.prog 123 #[.int .i64 25] w (RwAns 25 w) := by
  have I := ints_new w 3 [1, 1] (by decide)
  have B0 := (Below.refl w.heap.size w).alloc (Nat.le_refl _) (.cells #[.int .i64 1, .int .i64 1] 3)
  go_enter Tryz.func123, Tryz.ntmps123
  go_wp2_with fail
  exact bodyPost_ret (v := .tuple #[.slice (some ⟨w.heap.size, 0, none⟩) 2 2, .int .i64 1]) (by simp [results, Tryz.results123, go_sem]) rfl ⟨⟨_, _, _, rfl, I⟩, B0⟩

set_option maxRecDepth 100000 in
set_option maxHeartbeats 800000 in
theorem l3row_26 (w : World) : Calls Tryz.prog 123 #[.int .i64 26] w (RwAns 26 w) := by
  have I := ints_new w 3 [1, 1] (by decide)
  have B0 := (Below.refl w.heap.size w).alloc (Nat.le_refl _) (.cells #[.int .i64 1, .int .i64 1] 3)
  go_enter Tryz.func123, Tryz.ntmps123
  go_wp2_with fail
  exact bodyPost_ret (v := .tuple #[.slice (some ⟨w.heap.size, 0, none⟩) 2 2, .int .i64 1]) (by simp [results, Tryz.results123, go_sem]) rfl ⟨⟨_, _, _, rfl, I⟩, B0⟩

set_option maxRecDepth 100000 in
set_option maxHeartbeats 800000 in
theorem l3row_27 (w : World) : Calls Tryz.prog 123 #[.int .i64 27] w (RwAns 27 w) := by
  have I := ints_new w 3 [1, 0, 0] (by decide)
  have B0 := (Below.refl w.heap.size w).alloc (Nat.le_refl _) (.cells #[.int .i64 1, .int .i64 0, .int .i64 0] 3)
  go_enter Tryz.func123, Tryz.ntmps123
  go_wp2_with fail
  exact bodyPost_ret (v := .tuple #[.slice (some ⟨w.heap.size, 0, none⟩) 3 3, .int .i64 0]) (by simp [results, Tryz.results123, go_sem]) rfl ⟨⟨_, _, _, rfl, I⟩, B0⟩

theorem l3row_any (op : Int) (h : opOK op) (w : World) : Calls Tryz.prog 123 #[.int .i64 op] w (RwAns op w) := by
  by_cases h1 : op = 1
  · subst h1; exact l3row_1 w
  by_cases h2 : op = 2
  · subst h2; exact l3row_2 w
  by_cases h3 : op = 3
  · subst h3; exact l3row_3 w
  by_cases h4 : op = 4
  · subst h4; exact l3row_4 w
  by_cases h8 : op = 8
  · subst h8; exact l3row_8 w
  by_cases h9 : op = 9
  · subst h9; exact l3row_9 w
  by_cases h10 : op = 10
  · subst h10; exact l3row_10 w
  by_cases h11 : op = 11
  · subst h11; exact l3row_11 w
  by_cases h12 : op = 12
  · subst h12; exact l3row_12 w
  by_cases h13 : op = 13
  · subst h13; exact l3row_13 w
  by_cases h14 : op = 14
  · subst h14; exact l3row_14 w
  by_cases h15 : op = 15
  · subst h15; exact l3row_15 w
  by_cases h16 : op = 16
  · subst h16; exact l3row_16 w
  by_cases h17 : op = 17
  · subst h17; exact l3row_17 w
  by_cases h18 : op = 18
  · subst h18; exact l3row_18 w
  by_cases h19 : op = 19
  · subst h19; exact l3row_19 w
  by_cases h20 : op = 20
  · subst h20; exact l3row_20 w
  by_cases h21 : op = 21
  · subst h21; exact l3row_21 w
  by_cases h22 : op = 22
  · subst h22; exact l3row_22 w
  by_cases h23 : op = 23
  · subst h23; exact l3row_23 w
  by_cases h24 : op = 24
  · subst h24; exact l3row_24 w
  by_cases h25 : op = 25
  · subst h25; exact l3row_25 w
  by_cases h26 : op = 26
  · subst h26; exact l3row_26 w
  by_cases h27 : op = 27
  · subst h27; exact l3row_27 w
  exfalso
  unfold opOK at h
  omega

end Go.Proofs.YtpbopjgmiaoomaaGreatDoor

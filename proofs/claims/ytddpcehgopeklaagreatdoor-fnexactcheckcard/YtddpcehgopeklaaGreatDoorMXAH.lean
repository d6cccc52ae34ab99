/-
  ZA, ZB, ECA, CLN, QS0, Laws. Own work.
-/
import Derived.Test.YtddpcehgopeklaaGreatDoorMXAE
import Derived.Test.YtddpcehgopeklaaGreatDoorMXAG
import Derived.Test.YtddpcehgopeklaaGreatDoorMXAD
import Derived.Test.YtddpcehgopeklaaGreatDoorMXAM
import Derived.Lib.SmallJoins
namespace Go.Proofs.YtddpcehgopeklaaGreatDoor
open Go.RowKit
set_option linter.unusedVariables false

/-- what the kids are, and what comes of it -/
def rowL (op : Int) : List Int × Int :=
  if op = 1 then ([], 2)
  else if op = 2 then ([], 3)
  else if op = 3 then ([], 1)
  else if op = 4 then ([], 4)
  else if op = 8 then ([2], 2)
  else if op = 9 then ([1], 1)
  else if op = 10 then ([4], 2)
  else if op = 11 then ([2, 2], 2)
  else if op = 12 then ([2, 2], 2)
  else if op = 13 then ([2, 2], 2)
  else if op = 14 then ([2, 2], 2)
  else if op = 15 then ([2, 2], 2)
  else if op = 16 then ([4, 4], 4)
  else if op = 17 then ([4, 4], 4)
  else if op = 18 then ([4, 4], 4)
  else if op = 19 then ([0, 0], 1)
  else if op = 20 then ([0, 0], 1)
  else if op = 21 then ([2, 2], 1)
  else if op = 22 then ([2, 2], 1)
  else if op = 23 then ([3, 4], 1)
  else if op = 24 then ([4, 4], 1)
  else if op = 25 then ([1, 1], 1)
  else if op = 26 then ([1, 1], 1)
  else if op = 27 then ([1, 0, 0], 0)
  else ([1, 0, 0], 0)

theorem ints_new (w : World) (t : TypeId) (L : List Int) (hL : L.length ≤ 1048576) : Ints (w.alloc (.cells (L.map (Value.int .i64)).toArray t)) (some ⟨w.heap.size, 0, none⟩) L.length L.length L := by
  refine ⟨rfl, hL, fun j hj => ⟨w.heap.size, 0, rfl, by simp, ?_⟩⟩
  rw [Nat.zero_add, (Row.new w (L.map (Value.int .i64)).toArray t).cell j]
  simp [hj]

theorem ints_none (w : World) : Ints w none 0 0 [] := ⟨rfl, by omega, fun j h => absurd h (by simp)⟩

def opOK (op : Int) : Prop := (1 ≤ op ∧ op ≤ 4) ∨ (8 ≤ op ∧ op ≤ 27)

def RwAns (op : Int) (w : World) (r : Ending) (w' : World) : Prop := (∃ x n c, r = .returned (.tuple #[.slice x n c, .int .i64 (rowL op).2]) ∧ Ints w' x n c (rowL op).1) ∧ Below w.heap.size w w'

set_option maxRecDepth 100000 in
set_option maxHeartbeats 800000 in
theorem l3row_1 (w : World) : Calls Tryz.prog 103 #[.int .i64 1] w (RwAns 1 w) := by
  go_enter Tryz.func103, Tryz.ntmps103
  go_wp2_with fail
  exact bodyPost_ret (v := .tuple #[.slice none 0 0, .int .i64 2]) (by simp [results, Tryz.results103, go_sem]) rfl ⟨⟨_, _, _, rfl, ints_none w⟩, Below.refl _ _⟩

set_option maxRecDepth 100000 in
set_option maxHeartbeats 800000 in
theorem l3row_2 (w : World) : Calls Tryz.prog 103 #[.int .i64 2] w (RwAns 2 w) := by
  go_enter Tryz.func103, Tryz.ntmps103
  go_wp2_with fail
  exact bodyPost_ret (v := .tuple #[.slice none 0 0, .int .i64 3]) (by simp [results, Tryz.results103, go_sem]) rfl ⟨⟨_, _, _, rfl, ints_none w⟩, Below.refl _ _⟩

set_option maxRecDepth 100000 in
set_option maxHeartbeats 800000 in
theorem l3row_3 (w : World) : Calls Tryz.prog 103 #[.int .i64 3] w (RwAns 3 w) := by
  go_enter Tryz.func103, Tryz.ntmps103
  go_wp2_with fail
  exact bodyPost_ret (v := .tuple #[.slice none 0 0, .int .i64 1]) (by simp [results, Tryz.results103, go_sem]) rfl ⟨⟨_, _, _, rfl, ints_none w⟩, Below.refl _ _⟩

set_option maxRecDepth 100000 in
set_option maxHeartbeats 800000 in
theorem l3row_4 (w : World) : Calls Tryz.prog 103 #[.int .i64 4] w (RwAns 4 w) := by
  go_enter Tryz.func103, Tryz.ntmps103
  go_wp2_with fail
  exact bodyPost_ret (v := .tuple #[.slice none 0 0, .int .i64 4]) (by simp [results, Tryz.results103, go_sem]) rfl ⟨⟨_, _, _, rfl, ints_none w⟩, Below.refl _ _⟩

set_option maxRecDepth 100000 in
set_option maxHeartbeats 800000 in
theorem l3row_8 (w : World) : Calls Tryz.prog 103 #[.int .i64 8] w (RwAns 8 w) := by
  have I := ints_new w 3 [2] (by decide)
  have B0 := (Below.refl w.heap.size w).alloc (Nat.le_refl _) (.cells #[.int .i64 2] 3)
  go_enter Tryz.func103, Tryz.ntmps103
  go_wp2_with fail
  exact bodyPost_ret (v := .tuple #[.slice (some ⟨w.heap.size, 0, none⟩) 1 1, .int .i64 2]) (by simp [results, Tryz.results103, go_sem]) rfl ⟨⟨_, _, _, rfl, I⟩, B0⟩

set_option maxRecDepth 100000 in
set_option maxHeartbeats 800000 in
theorem l3row_9 (w : World) : Calls Tryz.prog 103 #[.int .i64 9] w (RwAns 9 w) := by
  have I := ints_new w 3 [1] (by decide)
  have B0 := (Below.refl w.heap.size w).alloc (Nat.le_refl _) (.cells #[.int .i64 1] 3)
  go_enter Tryz.func103, Tryz.ntmps103
  go_wp2_with fail
  exact bodyPost_ret (v := .tuple #[.slice (some ⟨w.heap.size, 0, none⟩) 1 1, .int .i64 1]) (by simp [results, Tryz.results103, go_sem]) rfl ⟨⟨_, _, _, rfl, I⟩, B0⟩

set_option maxRecDepth 100000 in
set_option maxHeartbeats 800000 in
theorem l3row_10 (w : World) : Calls Tryz.prog 103 #[.int .i64 10] w (RwAns 10 w) := by
  have I := ints_new w 3 [4] (by decide)
  have B0 := (Below.refl w.heap.size w).alloc (Nat.le_refl _) (.cells #[.int .i64 4] 3)
  go_enter Tryz.func103, Tryz.ntmps103
  go_wp2_with fail
  exact bodyPost_ret (v := .tuple #[.slice (some ⟨w.heap.size, 0, none⟩) 1 1, .int .i64 2]) (by simp [results, Tryz.results103, go_sem]) rfl ⟨⟨_, _, _, rfl, I⟩, B0⟩

set_option maxRecDepth 100000 in
set_option maxHeartbeats 800000 in
theorem l3row_11 (w : World) : Calls Tryz.prog 103 #[.int .i64 11] w (RwAns 11 w) := by
  have I := ints_new w 3 [2, 2] (by decide)
  have B0 := (Below.refl w.heap.size w).alloc (Nat.le_refl _) (.cells #[.int .i64 2, .int .i64 2] 3)
  go_enter Tryz.func103, Tryz.ntmps103
  go_wp2_with fail
  exact bodyPost_ret (v := .tuple #[.slice (some ⟨w.heap.size, 0, none⟩) 2 2, .int .i64 2]) (by simp [results, Tryz.results103, go_sem]) rfl ⟨⟨_, _, _, rfl, I⟩, B0⟩

set_option maxRecDepth 100000 in
set_option maxHeartbeats 800000 in
theorem l3row_12 (w : World) : Calls Tryz.prog 103 #[.int .i64 12] w (RwAns 12 w) := by
  have I := ints_new w 3 [2, 2] (by decide)
  have B0 := (Below.refl w.heap.size w).alloc (Nat.le_refl _) (.cells #[.int .i64 2, .int .i64 2] 3)
  go_enter Tryz.func103, Tryz.ntmps103
  go_wp2_with fail
  exact bodyPost_ret (v := .tuple #[.slice (some ⟨w.heap.size, 0, none⟩) 2 2, .int .i64 2]) (by simp [results, Tryz.results103, go_sem]) rfl ⟨⟨_, _, _, rfl, I⟩, B0⟩

set_option maxRecDepth 100000 in
set_option maxHeartbeats 800000 in
theorem l3row_13 (w : World) : Calls Tryz.prog 103 #[.int .i64 13] w (RwAns 13 w) := by
  have I := ints_new w 3 [2, 2] (by decide)
  have B0 := (Below.refl w.heap.size w).alloc (Nat.le_refl _) (.cells #[.int .i64 2, .int .i64 2] 3)
  go_enter Tryz.func103, Tryz.ntmps103
  go_wp2_with fail
  exact bodyPost_ret (v := .tuple #[.slice (some ⟨w.heap.size, 0, none⟩) 2 2, .int .i64 2]) (by simp [results, Tryz.results103, go_sem]) rfl ⟨⟨_, _, _, rfl, I⟩, B0⟩

set_option maxRecDepth 100000 in
set_option maxHeartbeats 800000 in
theorem l3row_14 (w : World) : Calls Tryz.prog 103 #[.int .i64 14] w (RwAns 14 w) := by
  have I := ints_new w 3 [2, 2] (by decide)
  have B0 := (Below.refl w.heap.size w).alloc (Nat.le_refl _) (.cells #[.int .i64 2, .int .i64 2] 3)
  go_enter Tryz.func103, Tryz.ntmps103
  go_wp2_with fail
  exact bodyPost_ret (v := .tuple #[.slice (some ⟨w.heap.size, 0, none⟩) 2 2, .int .i64 2]) (by simp [results, Tryz.results103, go_sem]) rfl ⟨⟨_, _, _, rfl, I⟩, B0⟩

set_option maxRecDepth 100000 in
set_option maxHeartbeats 800000 in
theorem l3row_15 (w : World) : Calls Tryz.prog 103 #[.int .i64 15] w (RwAns 15 w) := by
  have I := ints_new w 3 [2, 2] (by decide)
  have B0 := (Below.refl w.heap.size w).alloc (Nat.le_refl _) (.cells #[.int .i64 2, .int .i64 2] 3)
  go_enter Tryz.func103, Tryz.ntmps103
  go_wp2_with fail
  exact bodyPost_ret (v := .tuple #[.slice (some ⟨w.heap.size, 0, none⟩) 2 2, .int .i64 2]) (by simp [results, Tryz.results103, go_sem]) rfl ⟨⟨_, _, _, rfl, I⟩, B0⟩

set_option maxRecDepth 100000 in
set_option maxHeartbeats 800000 in
theorem l3row_16 (w : World) : Calls Tryz.prog 103 #[.int .i64 16] w (RwAns 16 w) := by
  have I := ints_new w 3 [4, 4] (by decide)
  have B0 := (Below.refl w.heap.size w).alloc (Nat.le_refl _) (.cells #[.int .i64 4, .int .i64 4] 3)
  go_enter Tryz.func103, Tryz.ntmps103
  go_wp2_with fail
  exact bodyPost_ret (v := .tuple #[.slice (some ⟨w.heap.size, 0, none⟩) 2 2, .int .i64 4]) (by simp [results, Tryz.results103, go_sem]) rfl ⟨⟨_, _, _, rfl, I⟩, B0⟩

set_option maxRecDepth 100000 in
set_option maxHeartbeats 800000 in
theorem l3row_17 (w : World) : Calls Tryz.prog 103 #[.int .i64 17] w (RwAns 17 w) := by
  have I := ints_new w 3 [4, 4] (by decide)
  have B0 := (Below.refl w.heap.size w).alloc (Nat.le_refl _) (.cells #[.int .i64 4, .int .i64 4] 3)
  go_enter Tryz.func103, Tryz.ntmps103
  go_wp2_with fail
  exact bodyPost_ret (v := .tuple #[.slice (some ⟨w.heap.size, 0, none⟩) 2 2, .int .i64 4]) (by simp [results, Tryz.results103, go_sem]) rfl ⟨⟨_, _, _, rfl, I⟩, B0⟩

set_option maxRecDepth 100000 in
set_option maxHeartbeats 800000 in
theorem l3row_18 (w : World) : Calls Tryz.prog 103 #[.int .i64 18] w (RwAns 18 w) := by
  have I := ints_new w 3 [4, 4] (by decide)
  have B0 := (Below.refl w.heap.size w).alloc (Nat.le_refl _) (.cells #[.int .i64 4, .int .i64 4] 3)
  go_enter Tryz.func103, Tryz.ntmps103
  go_wp2_with fail
  exact bodyPost_ret (v := .tuple #[.slice (some ⟨w.heap.size, 0, none⟩) 2 2, .int .i64 4]) (by simp [results, Tryz.results103, go_sem]) rfl ⟨⟨_, _, _, rfl, I⟩, B0⟩

set_option maxRecDepth 100000 in
set_option maxHeartbeats 800000 in
theorem l3row_19 (w : World) : Calls Tryz.prog 103 #[.int .i64 19] w (RwAns 19 w) := by
  have I := ints_new w 3 [0, 0] (by decide)
  have B0 := (Below.refl w.heap.size w).alloc (Nat.le_refl _) (.cells #[.int .i64 0, .int .i64 0] 3)
  go_enter Tryz.func103, Tryz.ntmps103
  go_wp2_with fail
  exact bodyPost_ret (v := .tuple #[.slice (some ⟨w.heap.size, 0, none⟩) 2 2, .int .i64 1]) (by simp [results, Tryz.results103, go_sem]) rfl ⟨⟨_, _, _, rfl, I⟩, B0⟩

set_option maxRecDepth 100000 in
set_option maxHeartbeats 800000 in
theorem l3row_20 (w : World) : Calls Tryz.prog 103 #[.int .i64 20] w (RwAns 20 w) := by
  have I := ints_new w 3 [0, 0] (by decide)
  have B0 := (Below.refl w.heap.size w).alloc (Nat.le_refl _) (.cells #[.int .i64 0, .int .i64 0] 3)
  go_enter Tryz.func103, Tryz.ntmps103
  go_wp2_with fail
  exact bodyPost_ret (v := .tuple #[.slice (some ⟨w.heap.size, 0, none⟩) 2 2, .int .i64 1]) (by simp [results, Tryz.results103, go_sem]) rfl ⟨⟨_, _, _, rfl, I⟩, B0⟩

set_option maxRecDepth 100000 in
set_option maxHeartbeats 800000 in
theorem l3row_21 (w : World) : Calls Tryz.prog 103 #[.int .i64 21] w (RwAns 21 w) := by
  have I := ints_new w 3 [2, 2] (by decide)
  have B0 := (Below.refl w.heap.size w).alloc (Nat.le_refl _) (.cells #[.int .i64 2, .int .i64 2] 3)
  go_enter Tryz.func103, Tryz.ntmps103
  go_wp2_with fail
  exact bodyPost_ret (v := .tuple #[.slice (some ⟨w.heap.size, 0, none⟩) 2 2, .int .i64 1]) (by simp [results, Tryz.results103, go_sem]) rfl ⟨⟨_, _, _, rfl, I⟩, B0⟩

set_option maxRecDepth 100000 in
set_option maxHeartbeats 800000 in
theorem l3row_22 (w : World) : Calls Tryz.prog 103 #[.int .i64 22] w (RwAns 22 w) := by
  have I := ints_new w 3 [2, 2] (by decide)
  have B0 := (Below.refl w.heap.size w).alloc (Nat.le_refl _) (.cells #[.int .i64 2, .int .i64 2] 3)
  go_enter Tryz.func103, Tryz.ntmps103
  go_wp2_with fail
  exact bodyPost_ret (v := .tuple #[.slice (some ⟨w.heap.size, 0, none⟩) 2 2, .int .i64 1]) (by simp [results, Tryz.results103, go_sem]) rfl ⟨⟨_, _, _, rfl, I⟩, B0⟩

set_option maxRecDepth 100000 in
set_option maxHeartbeats 800000 in
theorem l3row_23 (w : World) : Calls Tryz.prog 103 #[.int .i64 23] w (RwAns 23 w) := by
  have I := ints_new w 3 [3, 4] (by decide)
  have B0 := (Below.refl w.heap.size w).alloc (Nat.le_refl _) (.cells #[.int .i64 3, .int .i64 4] 3)
  go_enter Tryz.func103, Tryz.ntmps103
  go_wp2_with fail
  exact bodyPost_ret (v := .tuple #[.slice (some ⟨w.heap.size, 0, none⟩) 2 2, .int .i64 1]) (by simp [results, Tryz.results103, go_sem]) rfl ⟨⟨_, _, _, rfl, I⟩, B0⟩

set_option maxRecDepth 100000 in
set_option maxHeartbeats 800000 in
theorem l3row_24 (w : World) : Calls Tryz.prog 103 #[.int .i64 24] w (RwAns 24 w) := by
  have I := ints_new w 3 [4, 4] (by decide)
  have B0 := (Below.refl w.heap.size w).alloc (Nat.le_refl _) (.cells #[.int .i64 4, .int .i64 4] 3)
  go_enter Tryz.func103, Tryz.ntmps103
  go_wp2_with fail
  exact bodyPost_ret (v := .tuple #[.slice (some ⟨w.heap.size, 0, none⟩) 2 2, .int .i64 1]) (by simp [results, Tryz.results103, go_sem]) rfl ⟨⟨_, _, _, rfl, I⟩, B0⟩

set_option maxRecDepth 100000 in
set_option maxHeartbeats 800000 in
theorem l3row_25 (w : World) : Calls Tryz.prog 103 #[.int .i64 25] w (RwAns 25 w) := by
  have I := ints_new w 3 [1, 1] (by decide)
  have B0 := (Below.refl w.heap.size w).alloc (Nat.le_refl _) (.cells #[.int .i64 1, .int .i64 1] 3)
  go_enter Tryz.func103, Tryz.ntmps103
  go_wp2_with fail
  exact bodyPost_ret (v := .tuple #[.slice (some ⟨w.heap.size, 0, none⟩) 2 2, .int .i64 1]) (by simp [results, Tryz.results103, go_sem]) rfl ⟨⟨_, _, _, rfl, I⟩, B0⟩

set_option maxRecDepth 100000 in
set_option maxHeartbeats 800000 in
theorem l3row_26 (w : World) : Calls Tryz.prog 103 #[.int .i64 26] w (RwAns 26 w) := by
  have I := ints_new w 3 [1, 1] (by decide)
  have B0 := (Below.refl w.heap.size w).alloc (Nat.le_refl _) (.cells #[.int .i64 1, .int .i64 1] 3)
  go_enter Tryz.func103, Tryz.ntmps103
  go_wp2_with fail
  exact bodyPost_ret (v := .tuple #[.slice (some ⟨w.heap.size, 0, none⟩) 2 2, .int .i64 1]) (by simp [results, Tryz.results103, go_sem]) rfl ⟨⟨_, _, _, rfl, I⟩, B0⟩

set_option maxRecDepth 100000 in
set_option maxHeartbeats 800000 in
theorem l3row_27 (w : World) : Calls Tryz.prog 103 #[.int .i64 27] w (RwAns 27 w) := by
  have I := ints_new w 3 [1, 0, 0] (by decide)
  have B0 := (Below.refl w.heap.size w).alloc (Nat.le_refl _) (.cells #[.int .i64 1, .int .i64 0, .int .i64 0] 3)
  go_enter Tryz.func103, Tryz.ntmps103
  go_wp2_with fail
  exact bodyPost_ret (v := .tuple #[.slice (some ⟨w.heap.size, 0, none⟩) 3 3, .int .i64 0]) (by simp [results, Tryz.results103, go_sem]) rfl ⟨⟨_, _, _, rfl, I⟩, B0⟩

theorem l3row_any (op : Int) (h : opOK op) (w : World) : Calls Tryz.prog 103 #[.int .i64 op] w (RwAns op w) := by
  by_cases h1 : op = 1
  · subst h1; exact l3row_1 w
  by_cases h2 : op = 2
  · subst h2; exact l3row_2 w
  by_cases h3 : op = 3
  · subst h3; exact l3row_3 w
  by_cases h4 : op = 4
  · subst h4; exact l3row_4 w
  by_cases h8 : op = 8
  · subst h8; exact l3row_8 w
  by_cases h9 : op = 9
  · subst h9; exact l3row_9 w
  by_cases h10 : op = 10
  · subst h10; exact l3row_10 w
  by_cases h11 : op = 11
  · subst h11; exact l3row_11 w
  by_cases h12 : op = 12
  · subst h12; exact l3row_12 w
  by_cases h13 : op = 13
  · subst h13; exact l3row_13 w
  by_cases h14 : op = 14
  · subst h14; exact l3row_14 w
  by_cases h15 : op = 15
  · subst h15; exact l3row_15 w
  by_cases h16 : op = 16
  · subst h16; exact l3row_16 w
  by_cases h17 : op = 17
  · subst h17; exact l3row_17 w
  by_cases h18 : op = 18
  · subst h18; exact l3row_18 w
  by_cases h19 : op = 19
  · subst h19; exact l3row_19 w
  by_cases h20 : op = 20
  · subst h20; exact l3row_20 w
  by_cases h21 : op = 21
  · subst h21; exact l3row_21 w
  by_cases h22 : op = 22
  · subst h22; exact l3row_22 w
  by_cases h23 : op = 23
  · subst h23; exact l3row_23 w
  by_cases h24 : op = 24
  · subst h24; exact l3row_24 w
  by_cases h25 : op = 25
  · subst h25; exact l3row_25 w
  by_cases h26 : op = 26
  · subst h26; exact l3row_26 w
  by_cases h27 : op = 27
  · subst h27; exact l3row_27 w
  exfalso
  unfold opOK at h
  omega

end Go.Proofs.YtddpcehgopeklaaGreatDoor

namespace Go.Proofs.YtddpcehgopeklaaGreatDoor
open Go.RowKit
set_option linter.unusedVariables false

set_option maxRecDepth 100000 in
theorem l3attrType_any (n : Int) (w : World) : Calls Tryz.prog 82 #[.int .i64 n] w fun r w' => r = .returned (.int .i64 (attrTy n)) ∧ w' = w := by
  by_cases h1 : n < 2
  · have HX := hide (show attrTy n = 3 by rw [attrTy, if_pos h1])
    go_enter Tryz.func82, Tryz.ntmps82
    go_wp2_with fail
    go_ret
    exact ⟨by rw [unhide HX]; rfl, rfl⟩
  by_cases h2 : n < 4
  · have HX := hide (show attrTy n = 2 by rw [attrTy, if_neg h1, if_pos h2])
    go_enter Tryz.func82, Tryz.ntmps82
    go_wp2_with fail
    go_ret
    exact ⟨by rw [unhide HX]; rfl, rfl⟩
  · have HX := hide (show attrTy n = 4 by rw [attrTy, if_neg h1, if_neg h2])
    go_enter Tryz.func82, Tryz.ntmps82
    go_wp2_with fail
    go_ret
    exact ⟨by rw [unhide HX]; rfl, rfl⟩

/-- do the kids fit? and which is the one type -/
def fitL : Int → List Int → List Int → Option Int
  | any, [], _ => some any
  | any, w :: ws, ks => match ks with
    | [] => none
    | k :: ks => if w = 0 then (if any = 0 then fitL k ws ks else if k = any then fitL any ws ks else none) else if k = w then fitL any ws ks else none

def typeL (op : Int) (K : List Int) : Int := match fitL 0 (rowL op).1 K with
  | none => 0
  | some any => if (rowL op).2 = 0 then any else (rowL op).2

theorem fitL_at {any : Int} {W K : List Int} {k : Nat} (h1 : k < W.length) (h2 : k < K.length) : fitL any (W.drop k) (K.drop k) =
    if W[k] = 0 then (if any = 0 then fitL K[k] (W.drop (k + 1)) (K.drop (k + 1)) else if K[k] = any then fitL any (W.drop (k + 1)) (K.drop (k + 1)) else none) else if K[k] = W[k] then fitL any (W.drop (k + 1)) (K.drop (k + 1)) else none := by
  rw [List.drop_eq_getElem_cons h1, List.drop_eq_getElem_cons h2, fitL]

set_option maxRecDepth 100000 in
set_option maxHeartbeats 1600000 in
theorem l3type_any (op : Int) (h : opOK op) (a : Option Addr) (n c : Nat) (K : List Int) (w : World) (hK : Ints w a n c K) (hl : (rowL op).1.length ≤ n) :
    Calls Tryz.prog 83 #[.int .i64 op, .slice a n c] w fun r w' => r = .returned (.int .i64 (typeL op K)) ∧ Below w.heap.size w w' := by
  have HR := hide (l3row_any op h w)
  obtain ⟨W, hW⟩ : ∃ W, W = (rowL op).1 := ⟨_, rfl⟩
  obtain ⟨o, ho⟩ : ∃ o, o = (rowL op).2 := ⟨_, rfl⟩
  have HT := hide (show typeL op K = match fitL 0 W K with | none => 0 | some any => if o = 0 then any else o by rw [hW, ho]; rfl)
  unfold RwAns at HR
  rw [← hW, ← ho] at HR
  rw [← hW] at hl
  have HL := hide hl
  have HKl := hide hK.len
  have hn := hK.small
  clear hW ho hl h
  go_enter Tryz.func83, Tryz.ntmps83
  go_wp2_with fail
  refine (unhide HR).mono ?_
  rintro r w1 ⟨⟨x, m, c1, rfl, I1⟩, hb1⟩
  have HM := hide I1.len
  have K1 := hK.below hb1 (Nat.le_refl _)
  have hm := I1.small
  dsimp only
  go_wp2_with fail
  go_loopw [7, 17] (fun v i wr => ∃ (k : Nat) (any : Int), k ≤ m ∧ v = .int .i64 any ∧ i = .int .i64 k ∧ Below w1.heap.size w1 wr ∧ Hid (fitL 0 W K = fitL any (W.drop k) (K.drop k))) (fun _ i _ => m - (intOf i).toNat)
  case atStart => exact ⟨0, 0, by omega, rfl, rfl, Below.refl _ _, hide rfl⟩
  case round =>
    obtain ⟨k, any, hk, rfl, rfl, D1, HF⟩ := hrel
    by_cases hlt : k < m
    · have ilt : (k : Int) < (m : Int) := by omega
      have h1 : k < W.length := by rw [unhide HM]; exact hlt
      have h2 : k < K.length := by have := unhide HL; rw [unhide HKl]; omega
      have i2 : (k : Int) < (n : Int) := by have := unhide HKl; omega
      obtain ⟨b1, o1, rfl, hb, c0⟩ := (I1.below D1 (Nat.le_refl _)).cells k h1
      obtain ⟨b2, o2, rfl, hb', c2⟩ := (K1.below D1 (Nat.le_refl _)).cells k h2
      have HG := hide ((unhide HF).trans (fitL_at h1 h2))
      have HX := hide (show (if W[k] = 0 then (if any = 0 then fitL K[k] (W.drop (k + 1)) (K.drop (k + 1)) else if K[k] = any then fitL any (W.drop (k + 1)) (K.drop (k + 1)) else none) else if K[k] = W[k] then fitL any (W.drop (k + 1)) (K.drop (k + 1)) else none) = none → typeL op K = 0 from fun e => by rw [unhide HT, unhide HF, fitL_at h1 h2, e])
      have Hlt := hide hlt
      generalize fitL 0 W K = F at HG HT
      generalize W[k] = u at c0 HG HX
      generalize K[k] = v at c2 HG HX
      clear hlt h1 h2
      by_cases hu : u = 0
      · subst hu
        have z0 : ((0 : Int) == 0) = true := rfl
        by_cases ha : any = 0
        · subst ha
          have vv : (v != v) = false := by simp
          have HN := hide ((unhide HG).trans (by rw [if_pos rfl, if_pos rfl]))
          clear HG HX
          go_wp2_with fail
          go_roundw
          case rel => exact ⟨k + 1, v, unhide Hlt, rfl, by go_num, D1, HN⟩
          case measure => have := unhide Hlt; simp [intOf]; omega
        · have ea : (any == 0) = false := beq_eq_false_iff_ne.2 ha
          by_cases hv : v = any
          · have ev : (v != any) = false := by simp [hv]
            have HN := hide ((unhide HG).trans (by rw [if_pos rfl, if_neg ha, if_pos hv]))
            clear HG HX ha hv
            go_wp2_with fail
            go_roundw
            case rel => exact ⟨k + 1, any, unhide Hlt, rfl, by go_num, D1, HN⟩
            case measure => have := unhide Hlt; simp [intOf]; omega
          · have ev : (v != any) = true := bne_iff_ne.2 hv
            have HN := hide (unhide HX (by rw [if_pos rfl, if_neg ha, if_neg hv]))
            clear HG HX ha hv
            go_wp2_with fail
            go_ret
            exact ⟨by rw [unhide HN]; rfl, hb1.trans (D1.mono hb1.size)⟩
      · have eu : (u == 0) = false := beq_eq_false_iff_ne.2 hu
        by_cases hv : v = u
        · have ev : (v != u) = false := by simp [hv]
          have HN := hide ((unhide HG).trans (by rw [if_neg hu, if_pos hv]))
          clear HG HX hu hv
          go_wp2_with fail
          go_roundw
          case rel => exact ⟨k + 1, any, unhide Hlt, rfl, by go_num, D1, HN⟩
          case measure => have := unhide Hlt; simp [intOf]; omega
        · have ev : (v != u) = true := bne_iff_ne.2 hv
          have HN := hide (unhide HX (by rw [if_neg hu, if_neg hv]))
          clear HG HX hu hv
          go_wp2_with fail
          go_ret
          exact ⟨by rw [unhide HN]; rfl, hb1.trans (D1.mono hb1.size)⟩
    · have e : k = m := by omega
      subst e
      have HN := hide (show typeL op K = if o = 0 then any else o by
        rw [unhide HT, unhide HF, List.drop_of_length_le (by rw [unhide HM]; omega)]
        rfl)
      by_cases h0 : o = 0
      · subst h0
        have HN := hide ((unhide HN).trans (if_pos rfl))
        go_wp2_with fail
        go_ret
        exact ⟨by rw [unhide HN]; rfl, hb1.trans (D1.mono hb1.size)⟩
      · have e0 : (o == 0) = false := beq_eq_false_iff_ne.2 h0
        have H0 := hide h0
        clear h0
        go_wp2_with fail
        go_ret
        exact ⟨by rw [unhide HN, if_neg (unhide H0)]; rfl, hb1.trans (D1.mono hb1.size)⟩

end Go.Proofs.YtddpcehgopeklaaGreatDoor

namespace Go.Proofs.YtddpcehgopeklaaGreatDoor
open Go.RowKit
set_option linter.unusedVariables false

/-- what a name stands for -/
structure Dc where
  name : ByteArray
  isLet : Bool
  num : Int
  typ : Int

def Dc.val (d : Dc) : Value := .agg #[.bool d.isLet, .int .i64 d.num, .int .i64 d.typ]

/-- the declaration of a name -/
def fnd (K : List Dc) (s : ByteArray) : Option Dc := K.find? (fun d => d.name = s)

/-- a type, or a fault's code and place -/
abbrev Rs := Except (Int × Int) Int

def ofO (f : Int × Int) : Option Int → Rs
  | some t => .ok t
  | none => .error f

def gX : Rs → Int
  | .ok t => t
  | .error _ => 0

/-- the type of a written tree under what is known -/
def tyX (K : List Dc) : Ex → Rs
  | .int .. => .ok 2
  | .text .. => .ok 3
  | .bool .. => .ok 1
  | .set .. => .ok 4
  | .name i s => ofO (7, i) ((fnd K s).map Dc.typ)
  | .attr i _ => .error (9, i)
  | .lett i _ => .error (9, i)
  | .un i op k => (tyX K k).bind fun a => ofO (9, i) (nz (tyOp op [a]))
  | .bin i op l r => (tyX K l).bind fun a => (tyX K r).bind fun b => ofO (9, i) (nz (tyOp op [a, b]))
  | .ite i c t e => (tyX K c).bind fun a => (tyX K t).bind fun b => (tyX K e).bind fun d => ofO (9, i) (nz (tyOp 27 [a, b, d]))

/-- the types of all its nodes, in their order -/
def tysX (K : List Dc) : Ex → List Int
  | .un i op k => tysX K k ++ [gX (tyX K (.un i op k))]
  | .bin i op l r => tysX K l ++ tysX K r ++ [gX (tyX K (.bin i op l r))]
  | .ite i c t e => tysX K c ++ tysX K t ++ tysX K e ++ [gX (tyX K (.ite i c t e))]
  | e => [gX (tyX K e)]

theorem tysX_len (K : List Dc) : ∀ (e : Ex), (tysX K e).length = e.cnt
  | .int .. | .text .. | .bool .. | .set .. | .name .. | .attr .. | .lett .. => rfl
  | .un _ _ k => by simp [tysX, Ex.cnt, tysX_len K k]
  | .bin _ _ l r => by simp [tysX, Ex.cnt, tysX_len K l, tysX_len K r]; omega
  | .ite _ c t e => by simp [tysX, Ex.cnt, tysX_len K c, tysX_len K t, tysX_len K e]; omega

/-- types that are there -/
def inX (o : Rs) : Prop := ∀ a, o = .ok a → 1 ≤ a ∧ a ≤ 4

/-- what a written tree is like -/
def Ex.written : Ex → Prop
  | .attr .. => False
  | .lett .. => False
  | .un _ op k => (8 ≤ op ∧ op ≤ 10) ∧ k.written
  | .bin _ op l r => (11 ≤ op ∧ op ≤ 26) ∧ l.written ∧ r.written
  | .ite _ c t e => c.written ∧ t.written ∧ e.written
  | _ => True

theorem fnd_mem {K : List Dc} {s : ByteArray} {d : Dc} (h : fnd K s = some d) : d ∈ K ∧ d.name = s := by
  have h1 := List.mem_of_find?_eq_some h
  have h2 := List.find?_some h
  exact ⟨h1, by simpa using h2⟩

theorem fnd_none {K : List Dc} {s : ByteArray} (h : fnd K s = none) : s ∉ K.map Dc.name := fun hs => by
  obtain ⟨d, hd, e⟩ := List.mem_map.1 hs
  have := List.find?_eq_none.1 h d hd
  simp [e] at this

theorem fnd_of {K : List Dc} (hn : (K.map Dc.name).Nodup) {d : Dc} (hd : d ∈ K) : fnd K d.name = some d := by
  induction K with
  | nil => cases hd
  | cons x K ih =>
    rw [List.map_cons, List.nodup_cons] at hn
    rcases List.mem_cons.1 hd with rfl | h
    · simp [fnd]
    · have hne : x.name ≠ d.name := fun e => hn.1 (by rw [e]; exact List.mem_map.2 ⟨d, h, rfl⟩)
      have := ih hn.2 h
      rw [fnd, List.find?_cons_of_neg (by simpa using hne)]
      exact this

theorem ofO_in {f : Int × Int} {o : Option Int} (h : ∀ a, o = some a → 1 ≤ a ∧ a ≤ 4) : inX (ofO f o) := fun a e => by
  cases o with
  | none => cases e
  | some t => cases e; exact h _ rfl

end Go.Proofs.YtddpcehgopeklaaGreatDoor

namespace Go.Proofs.YtddpcehgopeklaaGreatDoor
open Go.RowKit
set_option linter.unusedVariables false

set_option maxHeartbeats 2000000 in
set_option maxRecDepth 100000 in
theorem cloneC_any (a : Option Addr) (n c : Nat) (ss : List ByteArray) (w : World) (h : Strs w a n c ss) (hl : ss.length ≤ 1048576) :
    Calls Tryz.prog 123 #[.slice a n c] w fun e w' => (∃ x cx, e = .returned (.slice x ss.length cx) ∧ w'.ownsRow w.heap.size 9 1 (.slice x ss.length cx) ss.length (ss.map Value.string)) ∧ Below w.heap.size w w' := by
  obtain ⟨si, hsi, sz0, sz1, sz2⟩ := info_parts infoS
  have hn := h.len
  cases a with
  | none =>
    have h0 : n = 0 := by
      rcases Nat.eq_zero_or_pos n with q | q
      · exact q
      · obtain ⟨b, off, e, _⟩ := h.cells 0 q; cases e
    subst h0
    obtain rfl : ss = [] := List.eq_nil_of_length_eq_zero hn.symm
    clear h hl hn
    have q24 : ∀ (w : World) (a : Option Addr) (n c n' c' : Nat), (binOp .eql 51 (.slice a n c) (.slice none n' c')).run Tryz.prog w = .ok (.bool a.isNone) w := fun w a n c n' c' => Lib.run_eql_slice_nil w _ _ a n c n' c' Tryz.underlying51
    go_enter Tryz.func123, Tryz.ntmps123
    go_wp2_with fail
    go_ret
    exact ⟨⟨none, 0, rfl, World.ownsRow_nil _ _ _ _⟩, Below.refl _ _⟩
  | some ad =>
    have q24 : ∀ (w : World) (a : Option Addr) (n c n' c' : Nat), (binOp .eql 51 (.slice a n c) (.slice none n' c')).run Tryz.prog w = .ok (.bool a.isNone) w := fun w a n c n' c' => Lib.run_eql_slice_nil w _ _ a n c n' c' Tryz.underlying51
    have u24 : ∀ w, Sem.run Tryz.prog (underlying 51) w = .ok (TypeDesc.slice 9) w := run_underlying Tryz.underlying51
    have HS := hide h
    have HN := hide hn
    have hsm : n ≤ 1048576 := by omega
    clear h hn
    go_enter Tryz.func123, Tryz.ntmps123
    go_wp2_with (at_builtin; refine wpList_append_own _ rfl _ _ 51 rfl w.heap.size 9 si (.string ByteArray.empty) 1 16 Tryz.underlying51 hsi sz0 sz1 sz2 rfl (by decide) _ _ _ rfl (World.ownsRow_made w #[] 0 (Nat.le_refl _) (Nat.zero_le _) rfl) ad n c (ss.map Value.string) rfl ?qc1 ?qc2 ?qc3 ?qc4 ?qc5 ?qc6 ?_)
    case qc1 => rw [List.length_map, unhide HN]; omega
    case qc2 =>
      intro j u hj
      have hjn : j < n := by
        have := (List.getElem?_eq_some_iff.1 hj).1
        rw [List.length_map] at this
        rw [unhide HN]; exact this
      obtain ⟨b, off, e, hb, hc⟩ := (unhide HS).cells j hjn
      cases e
      rw [Addr.add_lit]
      refine Lib.cell?_alloc_some _ ?_
      rw [hc, ← hj, List.getElem?_map, List.getElem?_eq_getElem (by rw [← unhide HN]; exact hjn), nth_eq _ _ (by rw [← unhide HN]; exact hjn)]
      rfl
    case qc3 => intro u hu; obtain ⟨x, _, rfl⟩ := List.mem_map.1 hu; rfl
    case qc4 => unfold maxLen; omega
    case qc5 => omega
    case qc6 => simp
    intro v' w1 hown hgrow hnil
    have B1 := ((Below.refl _ w).alloc (Nat.le_refl _) (.cells #[] 9)).grown hgrow (by simp) (by intro k hk; simp [Value.ownBlock] at hk; omega)
    have hown2 : w1.ownsRow w.heap.size 9 1 v' n (ss.map Value.string) := by simpa using hown
    obtain ⟨x, cx, rfl, _⟩ := owns_form2 hown2
    clear hown hnil hgrow
    go_wp2_with fail
    go_ret
    have e := unhide HN
    subst e
    exact ⟨⟨x, cx, rfl, hown2⟩, B1⟩

theorem own_lowC {w : World} {base base' : Nat} {e : TypeId} {size : Nat} {v : Value} {n : Nat} {xs : List Value} (h : w.ownsRow base e size v n xs) (hb : base' ≤ base) : w.ownsRow base' e size v n xs := by
  refine ⟨h.1, ?_⟩
  rcases h.2 with h2 | ⟨g, cap, cur, hv, h3, h4⟩
  · exact .inl h2
  · exact .inr ⟨g, cap, cur, hv, Nat.le_trans hb h3, h4⟩

end Go.Proofs.YtddpcehgopeklaaGreatDoor

namespace Go.Proofs.YtddpcehgopeklaaGreatDoor
open Go.RowKit
set_option linter.unusedVariables false

theorem IsT.inv {N : List Nd} {i : Nat} {f : Ex} (u : IsT N i f) {x : Nd} (hx : N[i]? = some x) :
    (x.op = 1 ∧ f = .int i x.num) ∨ (x.op = 2 ∧ f = .text i x.text) ∨ (x.op = 3 ∧ f = .bool i (decide (x.num = 1))) ∨ (x.op = 4 ∧ ∃ a n c, f = .set i a n c x.names) ∨ (x.op = 5 ∧ f = .name i x.text) ∨ (x.op = 6 ∧ f = .attr i x.num) ∨ (x.op = 7 ∧ f = .lett i x.num) ∨
    ((8 ≤ x.op ∧ x.op ≤ 10) ∧ ∃ (k : Nat) (e : Ex), x.kids = [(k : Int)] ∧ IsT N k e ∧ f = .un i x.op e) ∨
    ((11 ≤ x.op ∧ x.op ≤ 26) ∧ ∃ (k l : Nat) (e g : Ex), x.kids = [(k : Int), (l : Int)] ∧ IsT N k e ∧ IsT N l g ∧ f = .bin i x.op e g) ∨
    (x.op = 27 ∧ ∃ (k l m : Nat) (e g h : Ex), x.kids = [(k : Int), (l : Int), (m : Int)] ∧ IsT N k e ∧ IsT N l g ∧ IsT N m h ∧ f = .ite i e g h) := by
  have same : ∀ {y : Nd}, N[i]? = some y → y = x := fun k => Option.some.inj (k.symm.trans hx)
  cases u with
  | int h ho hk => obtain rfl := same h; exact .inl ⟨ho, rfl⟩
  | text h ho hk => obtain rfl := same h; exact .inr (.inl ⟨ho, rfl⟩)
  | bool h ho hk => obtain rfl := same h; exact .inr (.inr (.inl ⟨ho, rfl⟩))
  | set h ho hk a n c => obtain rfl := same h; exact .inr (.inr (.inr (.inl ⟨ho, a, n, c, rfl⟩)))
  | name h ho hk => obtain rfl := same h; exact .inr (.inr (.inr (.inr (.inl ⟨ho, rfl⟩))))
  | attr h ho hk => obtain rfl := same h; exact .inr (.inr (.inr (.inr (.inr (.inl ⟨ho, rfl⟩)))))
  | lett h ho hk => obtain rfl := same h; exact .inr (.inr (.inr (.inr (.inr (.inr (.inl ⟨ho, rfl⟩))))))
  | un h ho hk hi t => obtain rfl := same h; exact .inr (.inr (.inr (.inr (.inr (.inr (.inr (.inl ⟨ho, _, _, hk, t, rfl⟩)))))))
  | bin h ho hk hi t u => obtain rfl := same h; exact .inr (.inr (.inr (.inr (.inr (.inr (.inr (.inr (.inl ⟨ho, _, _, _, _, hk, t, u, rfl⟩))))))))
  | ite h ho hk hi t u v => obtain rfl := same h; exact .inr (.inr (.inr (.inr (.inr (.inr (.inr (.inr (.inr ⟨ho, _, _, _, _, _, _, hk, t, u, v, rfl⟩))))))))

end Go.Proofs.YtddpcehgopeklaaGreatDoor

namespace Go.Proofs.YtddpcehgopeklaaGreatDoor
open Go.RowKit

set_option maxHeartbeats 800000 in
theorem szStringS_any (a : Option Addr) (n c : Nat) (ss : List ByteArray) (L : Int) (w : World) (h : Strs w a n c ss) (hL : -1 ≤ L) (hL' : L ≤ 1048576) :
    Calls Tryz.prog 54 #[.slice a n c, .int .i64 L] w fun e w' => (∃ r : Int, e = .returned (.int .i64 r) ∧ (r = -1 ∨ 0 ≤ r ∧ r + n + tot ss = L)) ∧ w' = w := by
  have hn : n ≤ 9223372036854775807 := by have := h.cap; have := h.small; unfold maxLen at this; omega
  have Hl := hide h.len
  by_cases h0 : L - n < 0
  · go_enter Tryz.func54, Tryz.ntmps54
    go_wp2
    go_ret
    exact ⟨⟨_, rfl, .inl rfl⟩, rfl⟩
  · have h0' : 0 ≤ L - n := by omega
    have h0b : (L - n < 0) = False := by simp; omega
    go_enter Tryz.func54, Tryz.ntmps54
    go_wp2
    go_loop [1, 4, 5] (fun l _ i => ∃ k : Nat, k ≤ n ∧ i = .int .i64 k ∧ l = .int .i64 (L - n - tot (ss.take k)) ∧ 0 ≤ L - n - tot (ss.take k)) (fun _ _ i => n - (intOf i).toNat)
    case atStart => exact ⟨0, Nat.zero_le _, rfl, by simp [tot], by simp [tot]; omega⟩
    case round =>
      obtain ⟨k, hk, rfl, rfl, hp⟩ := hrel
      by_cases hlt : k < n
      · obtain ⟨b, off, ha', _, hc⟩ := h.cells k hlt
        have hsz := h.sizes k hlt
        subst ha'
        unfold maxLen at hsz
        have Ht := hide (tot_take_succ ss k (by have := unhide Hl; omega))
        generalize hT : tot (ss.take k) = T at *
        have HT := hide hT
        clear hT
        by_cases hneg : L - n - T - ((nth ss k).size : Int) < 0
        · go_wp2
          go_ret
          exact ⟨⟨_, rfl, .inl rfl⟩, rfl⟩
        · have hpos : 0 ≤ L - n - T - ((nth ss k).size : Int) := by omega
          go_wp2
          go_round
          case rel => exact ⟨k + 1, by omega, by go_num, by rw [unhide Ht]; go_num, by rw [unhide Ht]; omega⟩
          case measure => simp [intOf]; omega
      · go_wp2
        go_ret
        have e1 : ss.take k = ss := List.take_of_length_le (by have := unhide Hl; omega)
        rw [e1] at hp ⊢
        exact ⟨⟨_, rfl, .inr ⟨hp, by omega⟩⟩, rfl⟩

set_option maxHeartbeats 800000 in
theorem toStringS_any (a : Option Addr) (n c : Nat) (ss : List ByteArray) (w : World) (h : Strs w a n c ss) (hsm : n ≤ 1048576) :
    Calls Tryz.prog 61 #[.slice a n c] w fun e w' => e = .returned (.slice (some ⟨w.heap.size, 0, none⟩) n n) ∧ Below w.heap.size w w' ∧ w'.ownsRow w.heap.size 9 1 (.slice (some ⟨w.heap.size, 0, none⟩) n n) n (ss.map Value.string) := by
  obtain ⟨i, hi, hz0, hz1, hz2⟩ := info_parts infoS
  go_enter Tryz.func61, Tryz.ntmps61
  go_wp2_with (at_make; refine wpList_make_full _ rfl _ _ 51 rfl w.heap.size 9 i (.string ByteArray.empty) 1 Tryz.underlying51 hi hz0 hz1 _ _ _ _ n rfl rfl rfl rfl ?b2 ?b3 ?b4 ?_)
  case b2 => rw [hz2]; omega
  case b3 => unfold maxLen; omega
  case b4 => exact Nat.le_refl _
  intro w1 hown hgrow
  have hb1 : Below w.heap.size w w1 := (Below.refl _ _).grown hgrow (Nat.le_refl _) (fun k hk => by cases hk)
  clear hgrow
  have hown1 : w1.ownsRow w.heap.size 9 1 (.slice (some ⟨w.heap.size, 0, none⟩) n n) n ((half ss n 0).map Value.string) := by
    rw [half_zero, List.map_replicate, ← toList_madeCells_one, ← Nat.mul_one n]
    simpa using hown
  clear hown
  go_wp2
  go_loopw [4] (fun i wr => ∃ k : Nat, k ≤ n ∧ i = .int .i64 k ∧ wr.ownsRow w.heap.size 9 1 (.slice (some ⟨w.heap.size, 0, none⟩) n n) n ((half ss n k).map Value.string) ∧ Below w.heap.size w wr) (fun i _ => n - (intOf i).toNat)
  case atStart => exact ⟨0, Nat.zero_le _, rfl, hown1, hb1⟩
  case round =>
    obtain ⟨k, hk, rfl, hown, hb⟩ := hrel
    clear hown1 hb1
    by_cases hlt : k < n
    · obtain ⟨b, off, ha', _, hc⟩ := (h.below hb (Nat.le_refl _)).cells k hlt
      subst ha'
      have hfz := hown.frozenAt k
      have hck := (hown.cellAt k (by omega)).trans (half_at ss n k hlt)
      have Hst := hide (hown.stored k (.string (nth ss k))).1
      have Hown := hide hown
      clear hown
      go_wp2
      go_roundw
      case rel => exact ⟨k + 1, by omega, by go_num, by rw [← half_set]; exact unhide Hst, hb.setCell (Nat.le_refl _) _⟩
      case measure => simp [intOf]; omega
    · have e : k = n := by omega
      subst e
      go_wp2
      go_ret
      exact ⟨rfl, hb, by rw [half_full ss k h.len] at hown; exact hown⟩

end Go.Proofs.YtddpcehgopeklaaGreatDoor

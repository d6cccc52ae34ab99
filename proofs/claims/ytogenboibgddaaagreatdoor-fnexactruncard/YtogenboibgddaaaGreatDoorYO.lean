/-
  The model's verifier: its small parts. Own work.
-/
import Derived.Test.YtogenboibgddaaaGreatDoorYN
import Derived.Test.YtogenboibgddaaaGreatDoorEYS
namespace Go.Proofs.YtogenboibgddaaaGreatDoor
open Go.RowKit Go.Lib
set_option linter.unusedVariables false

set_option maxHeartbeats 1600000 in
theorem sAttr_any (x : Int) (w : World) : Calls Tryz.prog 95 #[.int .i64 x] w fun e w' => e = .returned (.int .i64 (attrT x)) ∧ w' = w := by
  unfold attrT
  by_cases h2 : x < 2
  · go_enter Tryz.func95, Tryz.ntmps95
    go_wp2
    go_ret
    exact ⟨rfl, rfl⟩
  · rw [if_neg h2]
    by_cases h4 : x < 4
    · rw [if_pos h4]
      go_enter Tryz.func95, Tryz.ntmps95
      go_wp2
      go_ret
      exact ⟨rfl, rfl⟩
    · rw [if_neg h4]
      go_enter Tryz.func95, Tryz.ntmps95
      go_wp2
      go_ret
      exact ⟨rfl, rfl⟩

/-- a line of the table -/
def rwV (op : Int) : List Int × Int :=
  if op = 8 then ([2], 2) else if op = 9 then ([1], 1) else if op = 10 then ([4], 2) else if op ≤ 15 then ([2, 2], 2) else if op ≤ 18 then ([4, 4], 4) else if op ≤ 20 then ([0, 0], 1) else if op ≤ 22 then ([2, 2], 1) else if op = 23 then ([3, 4], 1) else ([4, 4], 1)

/-- a list of numbers and a number -/
def LnA (w : World) (r : List Int × Int) (e : Ending) (w' : World) : Prop := ∃ x c, e = .returned (.tuple #[.slice x r.1.length c, .int .i64 r.2]) ∧ Ints w' x r.1.length c r.1 ∧ (∀ ad, x = some ad → w.heap.size ≤ ad.block) ∧ Below w.heap.size w w'

set_option maxRecDepth 100000 in
set_option maxHeartbeats 6400000 in
theorem sRow_any (op : Int) (w : World) (h0 : 8 ≤ op) (h1 : op ≤ 24) : Calls Tryz.prog 96 #[.int .i64 op] w fun e w' => LnA w (rwV op) e w' := by
  have hc : op = 8 ∨ op = 9 ∨ op = 10 ∨ op = 11 ∨ op = 12 ∨ op = 13 ∨ op = 14 ∨ op = 15 ∨ op = 16 ∨ op = 17 ∨ op = 18 ∨ op = 19 ∨ op = 20 ∨ op = 21 ∨ op = 22 ∨ op = 23 ∨ op = 24 := by omega
  rcases hc with e | e | e | e | e | e | e | e | e | e | e | e | e | e | e | e | e
  · subst e
    clear h0 h1
    go_enter Tryz.func96, Tryz.ntmps96
    go_wp2_with fail
    exact bodyPost_ret (v := .tuple #[.slice (some ⟨w.heap.size, 0, none⟩) 1 1, .int .i64 2]) (by simp [results, Tryz.results96, go_sem]) rfl ⟨some ⟨w.heap.size, 0, none⟩, 1, rfl, ints_new w w.heap.size rfl [2] _ _ (by decide), fun ad e => (by cases e; exact Nat.le_refl _), (Below.refl _ _).alloc (Nat.le_refl _) _⟩
  · subst e
    clear h0 h1
    go_enter Tryz.func96, Tryz.ntmps96
    go_wp2_with fail
    exact bodyPost_ret (v := .tuple #[.slice (some ⟨w.heap.size, 0, none⟩) 1 1, .int .i64 1]) (by simp [results, Tryz.results96, go_sem]) rfl ⟨some ⟨w.heap.size, 0, none⟩, 1, rfl, ints_new w w.heap.size rfl [1] _ _ (by decide), fun ad e => (by cases e; exact Nat.le_refl _), (Below.refl _ _).alloc (Nat.le_refl _) _⟩
  · subst e
    clear h0 h1
    go_enter Tryz.func96, Tryz.ntmps96
    go_wp2_with fail
    exact bodyPost_ret (v := .tuple #[.slice (some ⟨w.heap.size, 0, none⟩) 1 1, .int .i64 2]) (by simp [results, Tryz.results96, go_sem]) rfl ⟨some ⟨w.heap.size, 0, none⟩, 1, rfl, ints_new w w.heap.size rfl [4] _ _ (by decide), fun ad e => (by cases e; exact Nat.le_refl _), (Below.refl _ _).alloc (Nat.le_refl _) _⟩
  · subst e
    clear h0 h1
    go_enter Tryz.func96, Tryz.ntmps96
    go_wp2_with fail
    exact bodyPost_ret (v := .tuple #[.slice (some ⟨w.heap.size, 0, none⟩) 2 2, .int .i64 2]) (by simp [results, Tryz.results96, go_sem]) rfl ⟨some ⟨w.heap.size, 0, none⟩, 2, rfl, ints_new w w.heap.size rfl [2, 2] _ _ (by decide), fun ad e => (by cases e; exact Nat.le_refl _), (Below.refl _ _).alloc (Nat.le_refl _) _⟩
  · subst e
    clear h0 h1
    go_enter Tryz.func96, Tryz.ntmps96
    go_wp2_with fail
    exact bodyPost_ret (v := .tuple #[.slice (some ⟨w.heap.size, 0, none⟩) 2 2, .int .i64 2]) (by simp [results, Tryz.results96, go_sem]) rfl ⟨some ⟨w.heap.size, 0, none⟩, 2, rfl, ints_new w w.heap.size rfl [2, 2] _ _ (by decide), fun ad e => (by cases e; exact Nat.le_refl _), (Below.refl _ _).alloc (Nat.le_refl _) _⟩
  · subst e
    clear h0 h1
    go_enter Tryz.func96, Tryz.ntmps96
    go_wp2_with fail
    exact bodyPost_ret (v := .tuple #[.slice (some ⟨w.heap.size, 0, none⟩) 2 2, .int .i64 2]) (by simp [results, Tryz.results96, go_sem]) rfl ⟨some ⟨w.heap.size, 0, none⟩, 2, rfl, ints_new w w.heap.size rfl [2, 2] _ _ (by decide), fun ad e => (by cases e; exact Nat.le_refl _), (Below.refl _ _).alloc (Nat.le_refl _) _⟩
  · subst e
    clear h0 h1
    go_enter Tryz.func96, Tryz.ntmps96
    go_wp2_with fail
    exact bodyPost_ret (v := .tuple #[.slice (some ⟨w.heap.size, 0, none⟩) 2 2, .int .i64 2]) (by simp [results, Tryz.results96, go_sem]) rfl ⟨some ⟨w.heap.size, 0, none⟩, 2, rfl, ints_new w w.heap.size rfl [2, 2] _ _ (by decide), fun ad e => (by cases e; exact Nat.le_refl _), (Below.refl _ _).alloc (Nat.le_refl _) _⟩
  · subst e
    clear h0 h1
    go_enter Tryz.func96, Tryz.ntmps96
    go_wp2_with fail
    exact bodyPost_ret (v := .tuple #[.slice (some ⟨w.heap.size, 0, none⟩) 2 2, .int .i64 2]) (by simp [results, Tryz.results96, go_sem]) rfl ⟨some ⟨w.heap.size, 0, none⟩, 2, rfl, ints_new w w.heap.size rfl [2, 2] _ _ (by decide), fun ad e => (by cases e; exact Nat.le_refl _), (Below.refl _ _).alloc (Nat.le_refl _) _⟩
  · subst e
    clear h0 h1
    go_enter Tryz.func96, Tryz.ntmps96
    go_wp2_with fail
    exact bodyPost_ret (v := .tuple #[.slice (some ⟨w.heap.size, 0, none⟩) 2 2, .int .i64 4]) (by simp [results, Tryz.results96, go_sem]) rfl ⟨some ⟨w.heap.size, 0, none⟩, 2, rfl, ints_new w w.heap.size rfl [4, 4] _ _ (by decide), fun ad e => (by cases e; exact Nat.le_refl _), (Below.refl _ _).alloc (Nat.le_refl _) _⟩
  · subst e
    clear h0 h1
    go_enter Tryz.func96, Tryz.ntmps96
    go_wp2_with fail
    exact bodyPost_ret (v := .tuple #[.slice (some ⟨w.heap.size, 0, none⟩) 2 2, .int .i64 4]) (by simp [results, Tryz.results96, go_sem]) rfl ⟨some ⟨w.heap.size, 0, none⟩, 2, rfl, ints_new w w.heap.size rfl [4, 4] _ _ (by decide), fun ad e => (by cases e; exact Nat.le_refl _), (Below.refl _ _).alloc (Nat.le_refl _) _⟩
  · subst e
    clear h0 h1
    go_enter Tryz.func96, Tryz.ntmps96
    go_wp2_with fail
    exact bodyPost_ret (v := .tuple #[.slice (some ⟨w.heap.size, 0, none⟩) 2 2, .int .i64 4]) (by simp [results, Tryz.results96, go_sem]) rfl ⟨some ⟨w.heap.size, 0, none⟩, 2, rfl, ints_new w w.heap.size rfl [4, 4] _ _ (by decide), fun ad e => (by cases e; exact Nat.le_refl _), (Below.refl _ _).alloc (Nat.le_refl _) _⟩
  · subst e
    clear h0 h1
    go_enter Tryz.func96, Tryz.ntmps96
    go_wp2_with fail
    exact bodyPost_ret (v := .tuple #[.slice (some ⟨w.heap.size, 0, none⟩) 2 2, .int .i64 1]) (by simp [results, Tryz.results96, go_sem]) rfl ⟨some ⟨w.heap.size, 0, none⟩, 2, rfl, ints_new w w.heap.size rfl [0, 0] _ _ (by decide), fun ad e => (by cases e; exact Nat.le_refl _), (Below.refl _ _).alloc (Nat.le_refl _) _⟩
  · subst e
    clear h0 h1
    go_enter Tryz.func96, Tryz.ntmps96
    go_wp2_with fail
    exact bodyPost_ret (v := .tuple #[.slice (some ⟨w.heap.size, 0, none⟩) 2 2, .int .i64 1]) (by simp [results, Tryz.results96, go_sem]) rfl ⟨some ⟨w.heap.size, 0, none⟩, 2, rfl, ints_new w w.heap.size rfl [0, 0] _ _ (by decide), fun ad e => (by cases e; exact Nat.le_refl _), (Below.refl _ _).alloc (Nat.le_refl _) _⟩
  · subst e
    clear h0 h1
    go_enter Tryz.func96, Tryz.ntmps96
    go_wp2_with fail
    exact bodyPost_ret (v := .tuple #[.slice (some ⟨w.heap.size, 0, none⟩) 2 2, .int .i64 1]) (by simp [results, Tryz.results96, go_sem]) rfl ⟨some ⟨w.heap.size, 0, none⟩, 2, rfl, ints_new w w.heap.size rfl [2, 2] _ _ (by decide), fun ad e => (by cases e; exact Nat.le_refl _), (Below.refl _ _).alloc (Nat.le_refl _) _⟩
  · subst e
    clear h0 h1
    go_enter Tryz.func96, Tryz.ntmps96
    go_wp2_with fail
    exact bodyPost_ret (v := .tuple #[.slice (some ⟨w.heap.size, 0, none⟩) 2 2, .int .i64 1]) (by simp [results, Tryz.results96, go_sem]) rfl ⟨some ⟨w.heap.size, 0, none⟩, 2, rfl, ints_new w w.heap.size rfl [2, 2] _ _ (by decide), fun ad e => (by cases e; exact Nat.le_refl _), (Below.refl _ _).alloc (Nat.le_refl _) _⟩
  · subst e
    clear h0 h1
    go_enter Tryz.func96, Tryz.ntmps96
    go_wp2_with fail
    exact bodyPost_ret (v := .tuple #[.slice (some ⟨w.heap.size, 0, none⟩) 2 2, .int .i64 1]) (by simp [results, Tryz.results96, go_sem]) rfl ⟨some ⟨w.heap.size, 0, none⟩, 2, rfl, ints_new w w.heap.size rfl [3, 4] _ _ (by decide), fun ad e => (by cases e; exact Nat.le_refl _), (Below.refl _ _).alloc (Nat.le_refl _) _⟩
  · subst e
    clear h0 h1
    go_enter Tryz.func96, Tryz.ntmps96
    go_wp2_with fail
    exact bodyPost_ret (v := .tuple #[.slice (some ⟨w.heap.size, 0, none⟩) 2 2, .int .i64 1]) (by simp [results, Tryz.results96, go_sem]) rfl ⟨some ⟨w.heap.size, 0, none⟩, 2, rfl, ints_new w w.heap.size rfl [4, 4] _ _ (by decide), fun ad e => (by cases e; exact Nat.le_refl _), (Below.refl _ _).alloc (Nat.le_refl _) _⟩

set_option maxRecDepth 100000 in
set_option maxHeartbeats 3200000 in
theorem sSame_any (a b : Option Addr) (n c m d : Nat) (A B : List Int) (w : World) (h1 : Ints w a n c A) (h2 : Ints w b m d B) :
    Calls Tryz.prog 42 #[.slice a n c, .slice b m d] w fun e w' => e = .returned (.bool (decide (A = B))) ∧ ∃ m, w' = w.drewN m := by
  have s1 := h1.small
  have s2 := h2.small
  have HA := hide h1.len
  have HB := hide h2.len
  by_cases hnm : n = m
  · have enm : ((n : Int) != (m : Int)) = false := by rw [hnm]; simp
    have Hll := hide (show A.length = B.length by rw [h1.len, h2.len, hnm])
    have HE := hide (eq_iff_at A B (unhide Hll))
    have Hnm := hide hnm
    clear hnm
    go_enter Tryz.func42, Tryz.ntmps42
    go_wp2_with fail
    go_loop [14] (fun i => ∃ k : Nat, k ≤ n ∧ i = .int .i64 k ∧ ∀ j, (h : j < A.length) → j < k → A[j] = B[j]'(unhide Hll ▸ h)) (fun i => n - (RowKit.intOf i).toNat)
    case atStart => exact ⟨0, by omega, rfl, fun j _ h => absurd h (by omega)⟩
    case round =>
      obtain ⟨k, hk, rfl, hal⟩ := hrel
      have Ha := hide hal
      clear hal
      by_cases hlt : k < n
      · have ilt : (k : Int) < (n : Int) := by omega
        have ilm : (k : Int) < (m : Int) := by have := unhide Hnm; omega
        have hka : k < A.length := by rw [unhide HA]; exact hlt
        have hkb : k < B.length := by rw [unhide HB, ← unhide Hnm]; exact hlt
        obtain ⟨b1, o1, rfl, hl1, c1⟩ := h1.cells k hka
        obtain ⟨b2, o2, rfl, hl2, c2⟩ := h2.cells k hkb
        have Hno := hide (show A[k] ≠ B[k] → decide (A = B) = false from fun e => decide_eq_false (fun e' => e ((unhide HE).1 e' k hka)))
        have HN := hide (show A[k] = B[k] → ∀ j, (h : j < A.length) → j < k + 1 → A[j] = B[j]'(unhide Hll ▸ h) from fun e j hj h' => by
          by_cases ej : j = k
          · subst ej; exact e
          · exact unhide Ha j hj (by omega))
        have Hlt := hide hlt
        clear Ha
        generalize A[k] = x at c1 Hno HN
        generalize B[k] = y at c2 Hno HN
        by_cases hxy : x = y
        · have exy : (x != y) = false := by rw [hxy]; simp
          have HN2 := hide (unhide HN hxy)
          clear hxy Hno HN
          go_wp2_with fail
          go_round
          case rel => exact ⟨k + 1, unhide Hlt, by go_num, unhide HN2⟩
          case measure => have := unhide Hlt; simp [RowKit.intOf]; omega
        · have exy : (x != y) = true := bne_iff_ne.2 hxy
          have HX := hide (unhide Hno hxy)
          clear hxy Hno HN
          go_wp2_with fail
          go_ret
          exact ⟨ret_bool (unhide HX).symm, 0, rfl⟩
      · have e : k = n := by omega
        subst e
        have HX := hide (show decide (A = B) = true from decide_eq_true ((unhide HE).2 (fun j hj => unhide Ha j hj (by have := unhide HA; omega))))
        go_wp2
        go_ret
        exact ⟨ret_bool (unhide HX).symm, 0, rfl⟩
  · have enm : ((n : Int) != (m : Int)) = true := bne_iff_ne.2 (by omega)
    have HX := hide (show decide (A = B) = false from decide_eq_false (fun e => hnm (by rw [← h1.len, ← h2.len, e])))
    clear hnm
    go_enter Tryz.func42, Tryz.ntmps42
    go_wp2
    go_ret
    exact ⟨ret_bool (unhide HX).symm, 0, rfl⟩

set_option maxRecDepth 100000 in
set_option maxHeartbeats 3200000 in
theorem sNext_any (a b : Option Addr) (n c m d : Nat) (s : Int) (I : List Is1) (k : Nat) (w : World) (hI : Iss w b m d I) (hk : k < m) (hop : 1 ≤ (I.getD k ⟨0, 0⟩).op ∧ (I.getD k ⟨0, 0⟩).op ≤ 25) (harg : 0 ≤ (I.getD k ⟨0, 0⟩).arg) :
    Calls Tryz.prog 41 #[.agg #[.slice a n c, .int .i64 s, .slice b m d], .int .i64 k] w fun e w' => ∃ x c', e = .returned (.slice x (nextV k (I.getD k ⟨0, 0⟩)).length c') ∧ Ints w' x (nextV k (I.getD k ⟨0, 0⟩)).length c' ((nextV k (I.getD k ⟨0, 0⟩)).map Int.ofNat) ∧ (∀ ad, x = some ad → w.heap.size ≤ ad.block) ∧ Below w.heap.size w w' := by
  obtain ⟨g, off, hb, hgl, i0, i1⟩ := hI.at k hk
  subst hb
  have hsm := hI.small
  generalize I.getD k ⟨0, 0⟩ = i at i0 i1 hop harg
  obtain ⟨op, arg⟩ := i
  simp only at i0 i1 hop harg
  obtain ⟨arg, rfl⟩ := Int.eq_ofNat_of_zero_le harg
  have ik : (k : Int) < (m : Int) := by omega
  have B1 := (Below.refl w.heap.size w).alloc (Nat.le_refl _) (.cells #[.slice a n c, .int .i64 s, .slice (some ⟨g, off, none⟩) m d] 39)
  have B2 := B1.alloc B1.size (.cells #[.int .i64 op, .int .i64 arg] 87)
  have j0 := (B1.cell (p := ⟨g, off + k * 2, none⟩) hgl).trans i0
  have j1 := (B1.cell (p := ⟨g, off + k * 2 + 1, none⟩) hgl).trans i1
  clear hI i0 i1
  by_cases h1 : op = 24 ∨ op = 25
  · have HX := hide (show nextV k ⟨op, arg⟩ = [] by unfold nextV; rw [if_pos h1])
    rw [unhide HX]
    rcases h1 with rfl | rfl
    all_goals
      go_enter Tryz.func41, Tryz.ntmps41
      go_wp2_with fail
      go_ret
      exact ⟨none, 0, rfl, ⟨rfl, by decide, fun j hj => absurd hj (by simp)⟩, fun ad e => (by cases e), B2⟩
  by_cases h2 : op = 22
  · have HX := hide (show nextV k ⟨op, arg⟩ = [arg] by unfold nextV; rw [if_neg h1, if_pos h2]; simp)
    rw [unhide HX]
    subst h2
    go_enter Tryz.func41, Tryz.ntmps41
    go_wp2_with fail
    go_ret
    exact ⟨some ⟨_, 0, none⟩, _, rfl, ints_new _ _ (by simp) [(arg : Int)] _ _ (by simp), fun ad e => (by cases e; show w.heap.size ≤ w.heap.size + 1 + 1; omega), B2.alloc (by simp; omega) _⟩
  by_cases h3 : op = 23
  · have HX := hide (show nextV k ⟨op, arg⟩ = [k + 1, arg] by unfold nextV; rw [if_neg h1, if_neg h2, if_pos h3]; simp)
    rw [unhide HX]
    subst h3
    go_enter Tryz.func41, Tryz.ntmps41
    go_wp2_with fail
    go_ret
    exact ⟨some ⟨_, 0, none⟩, _, rfl, ints_new _ _ (by simp) [(k : Int) + 1, (arg : Int)] _ _ (by simp), fun ad e => (by cases e; show w.heap.size ≤ w.heap.size + 1 + 1; omega), B2.alloc (by simp; omega) _⟩
  · have HX := hide (show nextV k ⟨op, arg⟩ = [k + 1] by unfold nextV; rw [if_neg h1, if_neg h2, if_neg h3])
    rw [unhide HX]
    have e24 : (op == 24) = false := beq_eq_false_iff_ne.2 (fun e => h1 (.inl e))
    have e25 : (op == 25) = false := beq_eq_false_iff_ne.2 (fun e => h1 (.inr e))
    have e22 : (op == 22) = false := beq_eq_false_iff_ne.2 h2
    have e23 : (op == 23) = false := beq_eq_false_iff_ne.2 h3
    go_enter Tryz.func41, Tryz.ntmps41
    go_wp2_with fail
    go_ret
    exact ⟨some ⟨_, 0, none⟩, _, rfl, ints_new _ _ (by simp) [(k : Int) + 1] _ _ (by simp), fun ad e => (by cases e; show w.heap.size ≤ w.heap.size + 1 + 1; omega), B2.alloc (by simp; omega) _⟩

end Go.Proofs.YtogenboibgddaaaGreatDoor

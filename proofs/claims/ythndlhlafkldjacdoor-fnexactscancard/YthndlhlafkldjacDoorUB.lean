/-
  Tokens marked, and asked for their marks. Own work.
-/
import Derived.Test.YthndlhlafkldjacDoorUA
namespace Go.Proofs.YthndlhlafkldjacDoor
open Go.RowKit
set_option linter.unusedVariables false

/-- a token's mark -/
def mkT (k j : Nat) : Tok := ⟨((k + 4 * j : Nat) : Int), ((k + 4 * j + 1 : Nat) : Int), markS (k + 4 * j + 2), k + 4 * j + 3⟩

def marksT (k n : Nat) : List Tok := (List.range n).map (mkT k)

theorem marksT_succ (k n : Nat) : marksT k (n + 1) = marksT k n ++ [mkT k n] := by simp [marksT, List.range_succ]

theorem marksT_len (k n : Nat) : (marksT k n).length = n := by simp [marksT]

/-- the first j are marked -/
def markedT (T : List Tok) (k j : Nat) : List Tok := marksT k j ++ T.drop j

theorem markedT_zero (T : List Tok) (k : Nat) : markedT T k 0 = T := by simp [markedT, marksT]

theorem markedT_len (T : List Tok) (k j : Nat) (h : j ≤ T.length) : (markedT T k j).length = T.length := by
  rw [markedT, List.length_append, marksT_len, List.length_drop]; omega

theorem markedT_full (T : List Tok) (k : Nat) : markedT T k T.length = marksT k T.length := by simp [markedT]

theorem markedT_set (T : List Tok) (k j : Nat) (h : j < T.length) : (markedT T k j).set j (mkT k j) = markedT T k (j + 1) := by
  rw [markedT, List.drop_eq_getElem_cons h, List.set_append_right _ _ (by rw [marksT_len]; exact Nat.le_refl _), marksT_len, Nat.sub_self, List.set_cons_zero, markedT, marksT_succ, List.append_assoc]
  rfl

theorem marksT_ok (k n : Nat) (h : k + 4 * n ≤ 1073741824) : okT (marksT k n) := fun x hx => by
  obtain ⟨j, hj, rfl⟩ := List.mem_map.1 hx
  have := List.mem_range.1 hj
  have := markS_size (k + 4 * j + 2)
  show (markS (k + 4 * j + 2)).size ≤ _
  unfold maxLen
  omega

theorem ownsT_block' {w w' : World} {lo n c g : Nat} {xs : List Value} (h : w.ownsRow lo 49 4 (.slice (some ⟨g, 0, none⟩) n c) n xs) (hb : w'.heap[g]? = w.heap[g]?) : w'.ownsRow lo 49 4 (.slice (some ⟨g, 0, none⟩) n c) n xs :=
  ownsT_of_block h (fun x hx => by cases hx; exact hb)

set_option maxRecDepth 100000 in
set_option maxHeartbeats 3200000 in
theorem markTokenS_any (lo hi : Nat) (a : Option Addr) (n c : Nat) (T : List Tok) (k : Nat) (w : World) (h : OwnT w lo hi a n c T) (hk : k + 4 * n ≤ 1073741824) :
    Calls Tryd.prog 10 #[.slice a n c, .int .i64 k] w fun e w' => e = .returned (.int .i64 ((k + 4 * n : Nat) : Int)) ∧ OwnT w' lo hi a n c (marksT k n) ∧ Touch lo hi w w' := by
  have hl := h.len
  go_enter Tryd.func10, Tryd.ntmps10
  go_wp2
  go_loopw [1, 5] (fun q i wr => ∃ (j : Nat) (z : Int), j ≤ n ∧ i = .int .i64 j ∧ q = .int .i64 z ∧ z = ((k + 4 * j : Nat) : Int) ∧ wr.ownsRow lo 49 4 (.slice a n c) n (tokC (markedT T k j)) ∧ Touch lo hi w wr) (fun _ i _ => n - (intOf i).toNat)
  case atStart => exact ⟨0, k, Nat.zero_le _, rfl, rfl, by simp, by rw [markedT_zero]; exact h.own, Touch.refl _ _ _⟩
  case round =>
    obtain ⟨j, z, hj, rfl, rfl, hz, hown, ht⟩ := hrel
    by_cases hlt : j < n
    · obtain ⟨g, rfl, hgl, hgh, hgs⟩ := h.form (by omega)
      have hgr : g < wr.heap.size := Nat.lt_of_lt_of_le hgs ht.size
      have ilt : (j : Int) < (n : Int) := by omega
      have hml : j < (markedT T k j).length := by rw [markedT_len T k j (by omega)]; omega
      have z0 : 0 ≤ z := by omega
      have z1 : z + 4 ≤ 1073741824 := by omega
      obtain ⟨x0, x1, x2, x3⟩ := tokC_at (markedT T k j) j hml
      have c0 := (hown.cellAt (j * 4) (by omega)).trans x0
      have c1 := (hown.cellAt (j * 4 + 1) (by omega)).trans x1
      have cf := fun i => hown.frozenAt i
      have O2 := ((hown.stored (j * 4) (.int .i64 z)).1.stored (j * 4 + 1) (.int .i64 (z + 1))).1
      have T2 := (ht.trans (Touch.setCell (lo := lo) (hi := hi) wr ⟨g, j * 4, none⟩ (.int .i64 z) hgl hgh)).trans (Touch.setCell (lo := lo) (hi := hi) _ ⟨g, j * 4 + 1, none⟩ (.int .i64 (z + 1)) hgl hgh)
      have g2 : g < ((wr.setCell ⟨g, j * 4, none⟩ (.int .i64 z)).setCell ⟨g, j * 4 + 1, none⟩ (.int .i64 (z + 1))).heap.size := by simp; exact hgr
      have Hz := hide hz
      clear x0 x1 x2 x3 hz
      go_wp2_with fail
      generalize (wr.setCell ⟨g, j * 4, none⟩ (.int .i64 z)).setCell ⟨g, j * 4 + 1, none⟩ (.int .i64 (z + 1)) = W2 at O2 T2 g2 ⊢
      clear c0 c1 cf hown ht
      refine (markText_int (z + 1 + 1) W2 (by omega) (by omega)).mono ?_
      rintro e w3 ⟨rfl, hb3⟩
      have O3 := ownsT_block' O2 (hb3.block g g2)
      have T3 := T2.trans (Touch.of_below (lo := lo) (hi := hi) hb3 (Nat.le_refl _))
      clear O2 T2 hb3
      have hl3 : j * 4 + 3 < ((((tokC (markedT T k j)).set (j * 4) (.int .i64 z)).set (j * 4 + 1) (.int .i64 (z + 1)))).length := by simp only [List.length_set, tokC_len]; omega
      have c2 : w3.cell? ⟨g, j * 4 + 2, none⟩ = some _ := (O3.cellAt (j * 4 + 2) (by omega)).trans (List.getElem?_eq_getElem (by omega))
      have c3 : w3.cell? ⟨g, j * 4 + 3, none⟩ = some _ := (O3.cellAt (j * 4 + 3) (by omega)).trans (List.getElem?_eq_getElem hl3)
      have cf := fun i => O3.frozenAt i
      have O5 := ((O3.stored (j * 4 + 2) (.string (markS (z + 1 + 1).toNat))).1.stored (j * 4 + 3) (.int .i64 (z + 1 + 1 + 1))).1
      have T5 := (T3.trans (Touch.setCell (lo := lo) (hi := hi) w3 ⟨g, j * 4 + 2, none⟩ (.string (markS (z + 1 + 1).toNat)) hgl hgh)).trans (Touch.setCell (lo := lo) (hi := hi) _ ⟨g, j * 4 + 3, none⟩ (.int .i64 (z + 1 + 1 + 1)) hgl hgh)
      have HO := hide O5
      have Hml := hide hml
      generalize hA : ((((tokC (markedT T k j)).set (j * 4) (.int .i64 z)).set (j * 4 + 1) (.int .i64 (z + 1))))[j * 4 + 2]'(by omega) = A2 at c2
      generalize hB : ((((tokC (markedT T k j)).set (j * 4) (.int .i64 z)).set (j * 4 + 1) (.int .i64 (z + 1))))[j * 4 + 3]'hl3 = A3 at c3
      have Hk := hide hlt
      clear O3 O5 T3 hA hB hl3 hml
      go_wp2_with fail
      go_roundw
      case rel =>
        have hz := unhide Hz
        refine ⟨j + 1, z + 1 + 1 + 1 + 1, unhide Hk, by go_num, by go_num, by omega, ?_, T5⟩
        have e3 : z + 1 + 1 + 1 = ((mkT k j).at_ : Int) := by show _ = ((k + 4 * j + 3 : Nat) : Int); omega
        have e2 : markS (z + 1 + 1).toNat = (mkT k j).text := by show _ = markS (k + 4 * j + 2); rw [show (z + 1 + 1).toNat = k + 4 * j + 2 by omega]
        have e1 : z + 1 = (mkT k j).num := by show _ = ((k + 4 * j + 1 : Nat) : Int); omega
        have e0 : z = (mkT k j).kind := hz
        have E := (tokC_set (markedT T k j) j (unhide Hml) (mkT k j)).trans (congrArg tokC (markedT_set T k j (by have := unhide Hk; omega)))
        rw [← e3, ← e2, ← e1, ← e0] at E
        rw [← E]
        exact unhide HO
      case measure => have := unhide Hk; simp [intOf]; omega
    · have e : j = n := by omega
      subst e
      go_wp2
      go_ret
      have hM : markedT T k j = marksT k j := by rw [← hl, markedT_full]
      rw [hM] at hown
      exact ⟨by rw [hz]; rfl, ⟨hown, h.lt, marksT_ok k j hk, Nat.le_trans h.top ht.size⟩, ht⟩

set_option maxRecDepth 100000 in
set_option maxHeartbeats 3200000 in
theorem heldTokenS_any (lo hi : Nat) (a : Option Addr) (n c : Nat) (k : Nat) (w : World) (h : OwnT w lo hi a n c (marksT k n)) (hk : k + 4 * n ≤ 1073741824) :
    Calls Tryd.prog 11 #[.slice a n c, .int .i64 k] w fun e w' => e = .returned (.int .i64 ((k + 4 * n : Nat) : Int)) ∧ Below w.heap.size w w' := by
  have hl := marksT_len k n
  have t1 := h.top
  go_enter Tryd.func11, Tryd.ntmps11
  go_wp2
  go_loopw [1, 5] (fun q i wr => ∃ (j : Nat) (z : Int), j ≤ n ∧ i = .int .i64 j ∧ q = .int .i64 z ∧ z = ((k + 4 * j : Nat) : Int) ∧ Below w.heap.size w wr) (fun _ i _ => n - (intOf i).toNat)
  case atStart => exact ⟨0, k, Nat.zero_le _, rfl, rfl, by simp, Below.refl _ _⟩
  case round =>
    obtain ⟨j, z, hj, rfl, rfl, hz, hb⟩ := hrel
    by_cases hlt : j < n
    · obtain ⟨g, rfl, hgl, hgh, hgs⟩ := h.form (by omega)
      have hgr : g < wr.heap.size := Nat.lt_of_lt_of_le hgs hb.size
      have ilt : (j : Int) < (n : Int) := by omega
      have z0 : 0 ≤ z := by omega
      have z1 : z + 4 ≤ 1073741824 := by omega
      obtain ⟨c0, c1, c2, c3⟩ := (h.below hb t1).cells j (by omega)
      have em : (marksT k n)[j]'(by omega) = mkT k j := by simp [marksT]
      rw [em] at c0 c1 c2 c3
      have e0 : (mkT k j).kind = z := hz.symm
      have e1 : (mkT k j).num = z + 1 := by show ((k + 4 * j + 1 : Nat) : Int) = _; omega
      have e2 : (mkT k j).text = markS (z + 1 + 1).toNat := by show markS (k + 4 * j + 2) = _; rw [show (z + 1 + 1).toNat = k + 4 * j + 2 by omega]
      have e3 : ((mkT k j).at_ : Int) = z + 1 + 1 + 1 := by show ((k + 4 * j + 3 : Nat) : Int) = _; omega
      rw [e0] at c0
      rw [e1] at c1
      rw [e2] at c2
      rw [e3] at c3
      have Hz := hide hz
      have Hk := hide hlt
      clear em e0 e1 e2 e3 hz
      go_wp2_with fail
      go_region_held3 (fun w' => w'.cell? ⟨g, j * 4 + 2, none⟩ = some (.string (markS (z + 1 + 1).toNat))) (go_keep)
        ((go_at_call 30; refine (markText_int _ _ (by omega) (by omega)).mono ?_; rintro e w1 ⟨rfl, hb1⟩; have q2 := (hb1.cell (p := ⟨g, j * 4 + 2, none⟩) hgr).trans c2; have q3 := (hb1.cell (p := ⟨g, j * 4 + 3, none⟩) hgr).trans c3))
      all_goals
        go_wp2_with fail
        go_roundw
        case rel => exact ⟨j + 1, z + 1 + 1 + 1 + 1, unhide Hk, by go_num, by go_num, by have := unhide Hz; omega, hb.drew.trans (hb1.mono hb.size)⟩
        case measure => have := unhide Hk; simp [intOf]; omega
    · have e : j = n := by omega
      subst e
      go_wp2
      go_ret
      exact ⟨by rw [hz]; rfl, hb⟩

end Go.Proofs.YthndlhlafkldjacDoor

/-
  Operations marked. Own work.
-/
import Derived.Test.YthdoakeocaegkaaDoorXI
namespace Go.Proofs.YthdoakeocaegkaaDoor
open Go.RowKit
set_option linter.unusedVariables false

/-- an operation's mark -/
def mkO (k j : Nat) : Op1 := ⟨((k + 5 * j : Nat) : Int), markS (k + 5 * j + 1), markS (k + 5 * j + 2), markS (k + 5 * j + 3), ((k + 5 * j + 4 : Nat) : Int)⟩

def marksO (k n : Nat) : List Op1 := (List.range n).map (mkO k)

theorem marksO_succ (k n : Nat) : marksO k (n + 1) = marksO k n ++ [mkO k n] := by simp [marksO, List.range_succ]

theorem marksO_len (k n : Nat) : (marksO k n).length = n := by simp [marksO]

/-- the first j are marked -/
def markedO (T : List Op1) (k j : Nat) : List Op1 := marksO k j ++ T.drop j

theorem markedO_zero (T : List Op1) (k : Nat) : markedO T k 0 = T := by simp [markedO, marksO]

theorem markedO_len (T : List Op1) (k j : Nat) (h : j ≤ T.length) : (markedO T k j).length = T.length := by
  rw [markedO, List.length_append, marksO_len, List.length_drop]; omega

theorem markedO_full (T : List Op1) (k : Nat) : markedO T k T.length = marksO k T.length := by simp [markedO]

theorem markedO_set (T : List Op1) (k j : Nat) (h : j < T.length) : (markedO T k j).set j (mkO k j) = markedO T k (j + 1) := by
  rw [markedO, List.drop_eq_getElem_cons h, List.set_append_right _ _ (by rw [marksO_len]; exact Nat.le_refl _), marksO_len, Nat.sub_self, List.set_cons_zero, markedO, marksO_succ, List.append_assoc]
  rfl

theorem marksO_ok (k n : Nat) (h : k + 5 * n ≤ 1073741824) : okO (marksO k n) := fun x hx => by
  obtain ⟨j, hj, rfl⟩ := List.mem_map.1 hx
  have := List.mem_range.1 hj
  have h1 := markS_size (k + 5 * j + 1)
  have h2 := markS_size (k + 5 * j + 2)
  have h3 := markS_size (k + 5 * j + 3)
  show (markS (k + 5 * j + 1)).size ≤ _ ∧ (markS (k + 5 * j + 2)).size ≤ _ ∧ (markS (k + 5 * j + 3)).size ≤ _
  unfold maxLen
  omega

theorem ownsO_block' {w w' : World} {lo n c g : Nat} {xs : List Value} (h : w.ownsRow lo 31 5 (.slice (some ⟨g, 0, none⟩) n c) n xs) (hb : w'.heap[g]? = w.heap[g]?) : w'.ownsRow lo 31 5 (.slice (some ⟨g, 0, none⟩) n c) n xs :=
  ownsO_of_block h (fun x hx => by cases hx; exact hb)

set_option maxRecDepth 100000 in
set_option maxHeartbeats 3200000 in
theorem markOpS_any (lo hi : Nat) (a : Option Addr) (n c : Nat) (T : List Op1) (k : Nat) (w : World) (h : OwnO w lo hi a n c T) (hk : k + 5 * n ≤ 1073741824) :
    Calls Tryd.prog 7 #[.slice a n c, .int .i64 k] w fun e w' => e = .returned (.int .i64 ((k + 5 * n : Nat) : Int)) ∧ OwnO w' lo hi a n c (marksO k n) ∧ Touch lo hi w w' := by
  have hl := h.len
  go_enter Tryd.func7, Tryd.ntmps7
  go_wp2
  go_loopw [1, 5] (fun q i wr => ∃ (j : Nat) (z : Int), j ≤ n ∧ i = .int .i64 j ∧ q = .int .i64 z ∧ z = ((k + 5 * j : Nat) : Int) ∧ wr.ownsRow lo 31 5 (.slice a n c) n (opC (markedO T k j)) ∧ Touch lo hi w wr) (fun _ i _ => n - (intOf i).toNat)
  case atStart => exact ⟨0, k, Nat.zero_le _, rfl, rfl, by simp, by rw [markedO_zero]; exact h.own, Touch.refl _ _ _⟩
  case round =>
    obtain ⟨j, z, hj, rfl, rfl, hz, hown, ht⟩ := hrel
    by_cases hlt : j < n
    · obtain ⟨g, rfl, hgl, hgh, hgs⟩ := h.form (by omega)
      have hgr : g < wr.heap.size := Nat.lt_of_lt_of_le hgs ht.size
      have ilt : (j : Int) < (n : Int) := by omega
      have hml : j < (markedO T k j).length := by rw [markedO_len T k j (by omega)]; omega
      have z0 : 0 ≤ z := by omega
      have z1 : z + 5 ≤ 1073741824 := by omega
      have x0 := (opC_at (markedO T k j) j hml).1
      have hlC : (opC (markedO T k j)).length = n * 5 := by rw [opC_len, markedO_len T k j (by omega)]; omega
      have hj5 : j * 5 + 4 < n * 5 := by omega
      have c0 : ∃ u, wr.cell? ⟨g, j * 5, none⟩ = some u := ⟨_, (hown.cellAt (j * 5) (by omega)).trans x0⟩
      obtain ⟨u0, c0⟩ := c0
      have f0 := hown.frozenAt (j * 5)
      have O1 := (hown.stored (j * 5) (.int .i64 z)).1
      have T1 := ht.trans (Touch.setCell (lo := lo) (hi := hi) wr ⟨g, j * 5, none⟩ (.int .i64 z) hgl hgh)
      have g1 : g < (wr.setCell ⟨g, j * 5, none⟩ (.int .i64 z)).heap.size := by simp; exact hgr
      have Hz := hide hz
      have Hml := hide hml
      have Hk := hide hlt
      have H5 := hide hj5
      have HlC := hide hlC
      clear x0 hz hml hj5 hlC
      go_wp2_with fail
      generalize wr.setCell ⟨g, j * 5, none⟩ (.int .i64 z) = W1 at O1 T1 g1 ⊢
      clear c0 f0 hown ht
      refine (markText_int (z + 1) W1 (by omega) (by omega)).mono ?_
      rintro e v1 ⟨rfl, hb1⟩
      have P1 := ownsO_block' O1 (hb1.block g g1)
      have U1 := T1.trans (Touch.of_below (lo := lo) (hi := hi) hb1 (Nat.le_refl _))
      have h1 : g < v1.heap.size := Nat.lt_of_lt_of_le g1 hb1.size
      have c1 : ∃ u, v1.cell? ⟨g, j * 5 + 1, none⟩ = some u := ⟨_, (P1.cellAt (j * 5 + 1) (by have := unhide H5; omega)).trans (List.getElem?_eq_getElem (by simp only [List.length_set]; have := unhide HlC; have := unhide H5; omega))⟩
      obtain ⟨u1, c1⟩ := c1
      have f1 := P1.frozenAt (j * 5 + 1)
      have O2 := (P1.stored (j * 5 + 1) (.string (markS (z + 1).toNat))).1
      have T2 := U1.trans (Touch.setCell (lo := lo) (hi := hi) v1 ⟨g, j * 5 + 1, none⟩ (.string (markS (z + 1).toNat)) hgl hgh)
      have g2 : g < (v1.setCell ⟨g, j * 5 + 1, none⟩ (.string (markS (z + 1).toNat))).heap.size := by simp; exact h1
      clear O1 T1 hb1 P1 U1
      go_wp2_with fail
      generalize v1.setCell ⟨g, j * 5 + 1, none⟩ (.string (markS (z + 1).toNat)) = W2 at O2 T2 g2 ⊢
      clear c1 f1
      refine (markText_int (z + 1 + 1) W2 (by omega) (by omega)).mono ?_
      rintro e v2 ⟨rfl, hb2⟩
      have P2 := ownsO_block' O2 (hb2.block g g2)
      have U2 := T2.trans (Touch.of_below (lo := lo) (hi := hi) hb2 (Nat.le_refl _))
      have h2 : g < v2.heap.size := Nat.lt_of_lt_of_le g2 hb2.size
      have c2 : ∃ u, v2.cell? ⟨g, j * 5 + 2, none⟩ = some u := ⟨_, (P2.cellAt (j * 5 + 2) (by have := unhide H5; omega)).trans (List.getElem?_eq_getElem (by simp only [List.length_set]; have := unhide HlC; have := unhide H5; omega))⟩
      obtain ⟨u2, c2⟩ := c2
      have f2 := P2.frozenAt (j * 5 + 2)
      have O3 := (P2.stored (j * 5 + 2) (.string (markS (z + 1 + 1).toNat))).1
      have T3 := U2.trans (Touch.setCell (lo := lo) (hi := hi) v2 ⟨g, j * 5 + 2, none⟩ (.string (markS (z + 1 + 1).toNat)) hgl hgh)
      have g3 : g < (v2.setCell ⟨g, j * 5 + 2, none⟩ (.string (markS (z + 1 + 1).toNat))).heap.size := by simp; exact h2
      clear O2 T2 hb2 P2 U2
      go_wp2_with fail
      generalize v2.setCell ⟨g, j * 5 + 2, none⟩ (.string (markS (z + 1 + 1).toNat)) = W3 at O3 T3 g3 ⊢
      clear c2 f2
      refine (markText_int (z + 1 + 1 + 1) W3 (by omega) (by omega)).mono ?_
      rintro e v3 ⟨rfl, hb3⟩
      have P3 := ownsO_block' O3 (hb3.block g g3)
      have U3 := T3.trans (Touch.of_below (lo := lo) (hi := hi) hb3 (Nat.le_refl _))
      have h3 : g < v3.heap.size := Nat.lt_of_lt_of_le g3 hb3.size
      have c3 : ∃ u, v3.cell? ⟨g, j * 5 + 3, none⟩ = some u := ⟨_, (P3.cellAt (j * 5 + 3) (by have := unhide H5; omega)).trans (List.getElem?_eq_getElem (by simp only [List.length_set]; have := unhide HlC; have := unhide H5; omega))⟩
      obtain ⟨u3, c3⟩ := c3
      have f3 := P3.frozenAt (j * 5 + 3)
      have c4 : ∃ u, v3.cell? ⟨g, j * 5 + 4, none⟩ = some u := ⟨_, (P3.cellAt (j * 5 + 4) (by have := unhide H5; omega)).trans (List.getElem?_eq_getElem (by simp only [List.length_set]; have := unhide HlC; have := unhide H5; omega))⟩
      obtain ⟨u4, c4⟩ := c4
      have f4 := P3.frozenAt (j * 5 + 4)
      have O5 := ((P3.stored (j * 5 + 3) (.string (markS (z + 1 + 1 + 1).toNat))).1.stored (j * 5 + 4) (.int .i64 (z + 1 + 1 + 1 + 1))).1
      have T5 := (U3.trans (Touch.setCell (lo := lo) (hi := hi) v3 ⟨g, j * 5 + 3, none⟩ (.string (markS (z + 1 + 1 + 1).toNat)) hgl hgh)).trans (Touch.setCell (lo := lo) (hi := hi) _ ⟨g, j * 5 + 4, none⟩ (.int .i64 (z + 1 + 1 + 1 + 1)) hgl hgh)
      have HO := hide O5
      clear O3 T3 hb3 P3 U3 O5
      go_wp2_with fail
      go_roundw
      case rel =>
        have hz := unhide Hz
        refine ⟨j + 1, z + 1 + 1 + 1 + 1 + 1, unhide Hk, by go_num, by go_num, by omega, ?_, T5⟩
        have e4 : z + 1 + 1 + 1 + 1 = (mkO k j).num := by show _ = ((k + 5 * j + 4 : Nat) : Int); omega
        have e3 : markS (z + 1 + 1 + 1).toNat = (mkO k j).text := by show _ = markS (k + 5 * j + 3); rw [show (z + 1 + 1 + 1).toNat = k + 5 * j + 3 by omega]
        have e2 : markS (z + 1 + 1).toNat = (mkO k j).other := by show _ = markS (k + 5 * j + 2); rw [show (z + 1 + 1).toNat = k + 5 * j + 2 by omega]
        have e1 : markS (z + 1).toNat = (mkO k j).name := by show _ = markS (k + 5 * j + 1); rw [show (z + 1).toNat = k + 5 * j + 1 by omega]
        have e0 : z = (mkO k j).kind := hz
        have E := (opC_set (markedO T k j) j (unhide Hml) (mkO k j)).trans (congrArg opC (markedO_set T k j (by have := unhide Hk; omega)))
        rw [← e4, ← e3, ← e2, ← e1, ← e0] at E
        rw [← E]
        exact unhide HO
      case measure => have := unhide Hk; simp [intOf]; omega
    · have e : j = n := by omega
      subst e
      go_wp2
      go_ret
      have hM : markedO T k j = marksO k j := by rw [← hl, markedO_full]
      rw [hM] at hown
      exact ⟨by rw [hz]; rfl, ⟨hown, h.lt, marksO_ok k j hk, Nat.le_trans h.top ht.size⟩, ht⟩

end Go.Proofs.YthdoakeocaegkaaDoor

/-
  Operators of two, written by the model. Own work.
-/
import Derived.Test.YtbdplgelkgngmaaGreatDoorQQ
namespace Go.Proofs.YtbdplgelkgngmaaGreatDoor
open Go.RowKit
set_option linter.unusedVariables false

set_option maxHeartbeats 1600000 in
set_option maxRecDepth 100000 in
theorem put_lv1 (w : World) (a : Option Addr) (n c : Nat) (N : List Nd) (h : Nds w a n c N) (i : Nat) (x : Nd) (hx : N[i]? = some x) (ho : 11 ≤ x.op ∧ x.op ≤ 26) (lv : Int) (hlv : lvN x.op = lv) (h4 : lv = 1) (k l : Nat) (hk : x.kids = [(k : Int), (l : Int)]) (p1 p2 : Int → ByteArray) (h1 : PutV w a n c k p1) (h2 : PutV w a n c l p2) (z1 : (p1 (1)).size ≤ 16000010) (z2 : (p2 (2)).size ≤ 16000010) : InP w a n c i x.op (p1 (1) ++ (⟨#[32]⟩ ++ signB x.op ++ ⟨#[32]⟩) ++ p2 (2)) := by
  intro want W hl hw
  have hil : i < N.length := (List.getElem?_eq_some_iff.1 hx).1
  have ex : N[i] = x := (List.getElem?_eq_some_iff.1 hx).2
  obtain ⟨b, off, rfl, hb, an, nn, cn, ak, nk, ck, c0, c1, c2, c3, c4, hS, hI⟩ := (h.below hw (Nat.le_refl _)).cells i hil
  rw [ex] at c0 c1 c2 hS hI
  have iln : (i : Int) < (n : Int) := by have := h.len; omega
  have hn := h.small
  have lv0 : 0 ≤ lv := by rw [← hlv]; exact lvN_pos _
  have lv8 : lv ≤ 8 := by rw [← hlv]; exact lvN_top _
  have hd : decide (lv < want) = false := decide_eq_false (by omega)
  have HL := hide (l2level_at (op := x.op) (by omega) hlv)
  have HG := hide (l2sign_any x.op ho)
  have HE := hide (show p1 (1) ++ (⟨#[32]⟩ ++ signB x.op ++ ⟨#[32]⟩) ++ p2 (2) = p1 (1) ++ ⟨#[32]⟩ ++ signB x.op ++ ⟨#[32]⟩ ++ p2 (2) by simp only [ByteArray.append_assoc])
  rw [unhide HE]
  have zs := signB_size x.op
  generalize signB x.op = sgn at HG zs ⊢
  clear HE
  have B0 := (Below.refl W.heap.size W).alloc (Nat.le_refl _) (.cells #[.int .i64 x.op, .int .i64 x.num, .string x.text, .slice an nn cn, .slice ak nk ck] 67)
  have R0 := Row.new W #[.int .i64 x.op, .int .i64 x.num, .string x.text, .slice an nn cn, .slice ak nk ck] 67
  have HW := hide (hw.trans (B0.mono hw.size))
  subst h4
  have g1 : (x.op == 1) = false := beq_eq_false_iff_ne.2 (by omega)
  have g2 : (x.op == 2) = false := beq_eq_false_iff_ne.2 (by omega)
  have g3 : (x.op == 3) = false := beq_eq_false_iff_ne.2 (by omega)
  have g4 : (x.op == 4) = false := beq_eq_false_iff_ne.2 (by omega)
  have g5 : (x.op == 5) = false := beq_eq_false_iff_ne.2 (by omega)
  have g8 : (x.op == 8) = false := beq_eq_false_iff_ne.2 (by omega)
  have g9 : (x.op == 9) = false := beq_eq_false_iff_ne.2 (by omega)
  have g10 : (x.op == 10) = false := beq_eq_false_iff_ne.2 (by omega)
  have g27 : (x.op == 27) = false := beq_eq_false_iff_ne.2 (by omega)
  generalize x.op = op at c0 HL HG B0 R0 HW g1 g2 g3 g4 g5 g8 g9 g10 g27
  rw [hk] at hI
  obtain ⟨bk, ok, rfl, lk, ck0⟩ := hI.cells 0 (by simp)
  have ck1 : W.cell? ⟨bk, ok + 1, none⟩ = some (.int .i64 l) := by
    obtain ⟨b2, o2, e2, _, d2⟩ := hI.cells 1 (by simp)
    obtain ⟨rfl, rfl⟩ : bk = b2 ∧ ok = o2 := by simpa using e2
    simpa using d2
  obtain rfl : nk = 2 := hI.len.symm
  simp only [List.getElem_cons_zero, Nat.add_zero] at ck0
  have H1 := hide (h1 (1))
  have H2 := hide (h2 (2))
  generalize p1 (1) = t1 at H1 z1 ⊢
  generalize p2 (2) = t2 at H2 z2 ⊢
  clear hS hI hk h1 h2 h hx hil ex ho hl hw hlv
  go_enter Tryz.func12, Tryz.ntmps12
  go_wp2_with fail
  refine (unhide HL _).mono ?_
  rintro r w1 ⟨rfl, hw1⟩
  rw [hw1]
  clear hw1 HL
  dsimp only
  have W0E : ∃ W0, W0 = W.alloc (.cells #[.int .i64 op, .int .i64 x.num, .string x.text, .slice an nn cn, .slice (some ⟨bk, ok, none⟩) 2 ck] 67) := ⟨_, rfl⟩
  go_wp2_with fail
  obtain ⟨W0, hW0⟩ := W0E
  rw [← hW0] at B0 R0 HW ⊢
  have C0 := (B0.cell (p := ⟨bk, ok, none⟩) lk).trans ck0
  have C1 := (B0.cell (p := ⟨bk, ok + 1, none⟩) lk).trans ck1
  have CR : W0.cell? ⟨W.heap.size, 4, none⟩ = some (.slice (some ⟨bk, ok, none⟩) 2 ck) := R0.cell 4
  have CO : W0.cell? ⟨W.heap.size, 0, none⟩ = some (.int .i64 op) := R0.cell 0
  have LR := R0.lt
  have LK : bk < W0.heap.size := Nat.lt_of_lt_of_le lk B0.size
  clear hW0 R0 ck0 ck1 c0 c1 c2 c3 c4
  have D1 : Below W0.heap.size W0 W0.drew := (Below.refl _ _).drew
  have HWD := hide ((unhide HW).trans (D1.mono (unhide HW).size))
  have keep : ∀ w', Below W0.heap.size W0 w' → w'.cell? ⟨W.heap.size, 4, none⟩ = some (.slice (some ⟨bk, ok, none⟩) 2 ck) ∧ w'.cell? ⟨W.heap.size, 0, none⟩ = some (.int .i64 op) ∧ w'.cell? ⟨bk, ok, none⟩ = some (.int .i64 k) ∧ w'.cell? ⟨bk, ok + 1, none⟩ = some (.int .i64 l) := fun w' hb => ⟨(hb.cell (p := ⟨W.heap.size, 4, none⟩) LR).trans CR, (hb.cell (p := ⟨W.heap.size, 0, none⟩) LR).trans CO, (hb.cell (p := ⟨bk, ok, none⟩) LK).trans C0, (hb.cell (p := ⟨bk, ok + 1, none⟩) LK).trans C1⟩
  have KP := hide keep
  have q1 := keep _ D1
  have e1 : (⟨#[32]⟩ : ByteArray).size = 1 := rfl
  have s1 := addS' (a := t1) (b := ⟨#[32]⟩) (by rw [e1]; omega)
  have s2 := addS' (a := t1 ++ ⟨#[32]⟩) (b := sgn) (by rw [ByteArray.size_append, e1]; omega)
  have s3 := addS' (a := t1 ++ ⟨#[32]⟩ ++ sgn) (b := ⟨#[32]⟩) (by simp only [ByteArray.size_append, e1]; omega)
  have s4 := addS' (a := t1 ++ ⟨#[32]⟩ ++ sgn ++ ⟨#[32]⟩) (b := t2) (by simp only [ByteArray.size_append, e1]; omega)
  clear keep C0 C1 CR CO z1 z2 zs
  go_region_held3 (fun w' => w'.cell? ⟨W.heap.size, 4, none⟩ = some (.slice (some ⟨bk, ok, none⟩) 2 ck) ∧ w'.cell? ⟨W.heap.size, 0, none⟩ = some (.int .i64 op) ∧ w'.cell? ⟨bk, ok, none⟩ = some (.int .i64 k) ∧ w'.cell? ⟨bk, ok + 1, none⟩ = some (.int .i64 l)) (first | assumption | go_keep)
    (first
      | (go_at_call 12; refine (unhide H2 _ (unhide HW3)).mono ?_; rintro r w4 ⟨rfl, hb4⟩; have G4 := G3.trans (hb4.mono G3.size); have HW4 := hide ((unhide HW3).trans (hb4.mono (unhide HW3).size)); have q4 := unhide KP _ G4)
      | (go_at_call 27; refine (unhide HG _).mono ?_; rintro r w3 ⟨rfl, hb3⟩; have G3 := G2.trans (hb3.mono G2.size); have HW3 := hide ((unhide HW2).trans (hb3.mono (unhide HW2).size)); have q3 := unhide KP _ G3)
      | (go_at_call 12; refine (unhide H1 _ (unhide HWD)).mono ?_; rintro r w2 ⟨rfl, hb2⟩; have G2 := D1.trans (hb2.mono D1.size); have HW2 := hide ((unhide HWD).trans (hb2.mono (unhide HWD).size)); have q2 := unhide KP _ G2))
  go_wp2_with fail
  go_ret
  exact ⟨rfl, B0.trans (G4.mono B0.size)⟩

set_option maxHeartbeats 1600000 in
set_option maxRecDepth 100000 in
theorem put_lv2 (w : World) (a : Option Addr) (n c : Nat) (N : List Nd) (h : Nds w a n c N) (i : Nat) (x : Nd) (hx : N[i]? = some x) (ho : 11 ≤ x.op ∧ x.op ≤ 26) (lv : Int) (hlv : lvN x.op = lv) (h4 : lv = 2) (k l : Nat) (hk : x.kids = [(k : Int), (l : Int)]) (p1 p2 : Int → ByteArray) (h1 : PutV w a n c k p1) (h2 : PutV w a n c l p2) (z1 : (p1 (2)).size ≤ 16000010) (z2 : (p2 (3)).size ≤ 16000010) : InP w a n c i x.op (p1 (2) ++ (⟨#[32]⟩ ++ signB x.op ++ ⟨#[32]⟩) ++ p2 (3)) := by
  intro want W hl hw
  have hil : i < N.length := (List.getElem?_eq_some_iff.1 hx).1
  have ex : N[i] = x := (List.getElem?_eq_some_iff.1 hx).2
  obtain ⟨b, off, rfl, hb, an, nn, cn, ak, nk, ck, c0, c1, c2, c3, c4, hS, hI⟩ := (h.below hw (Nat.le_refl _)).cells i hil
  rw [ex] at c0 c1 c2 hS hI
  have iln : (i : Int) < (n : Int) := by have := h.len; omega
  have hn := h.small
  have lv0 : 0 ≤ lv := by rw [← hlv]; exact lvN_pos _
  have lv8 : lv ≤ 8 := by rw [← hlv]; exact lvN_top _
  have hd : decide (lv < want) = false := decide_eq_false (by omega)
  have HL := hide (l2level_at (op := x.op) (by omega) hlv)
  have HG := hide (l2sign_any x.op ho)
  have HE := hide (show p1 (2) ++ (⟨#[32]⟩ ++ signB x.op ++ ⟨#[32]⟩) ++ p2 (3) = p1 (2) ++ ⟨#[32]⟩ ++ signB x.op ++ ⟨#[32]⟩ ++ p2 (3) by simp only [ByteArray.append_assoc])
  rw [unhide HE]
  have zs := signB_size x.op
  generalize signB x.op = sgn at HG zs ⊢
  clear HE
  have B0 := (Below.refl W.heap.size W).alloc (Nat.le_refl _) (.cells #[.int .i64 x.op, .int .i64 x.num, .string x.text, .slice an nn cn, .slice ak nk ck] 67)
  have R0 := Row.new W #[.int .i64 x.op, .int .i64 x.num, .string x.text, .slice an nn cn, .slice ak nk ck] 67
  have HW := hide (hw.trans (B0.mono hw.size))
  subst h4
  have g1 : (x.op == 1) = false := beq_eq_false_iff_ne.2 (by omega)
  have g2 : (x.op == 2) = false := beq_eq_false_iff_ne.2 (by omega)
  have g3 : (x.op == 3) = false := beq_eq_false_iff_ne.2 (by omega)
  have g4 : (x.op == 4) = false := beq_eq_false_iff_ne.2 (by omega)
  have g5 : (x.op == 5) = false := beq_eq_false_iff_ne.2 (by omega)
  have g8 : (x.op == 8) = false := beq_eq_false_iff_ne.2 (by omega)
  have g9 : (x.op == 9) = false := beq_eq_false_iff_ne.2 (by omega)
  have g10 : (x.op == 10) = false := beq_eq_false_iff_ne.2 (by omega)
  have g27 : (x.op == 27) = false := beq_eq_false_iff_ne.2 (by omega)
  generalize x.op = op at c0 HL HG B0 R0 HW g1 g2 g3 g4 g5 g8 g9 g10 g27
  rw [hk] at hI
  obtain ⟨bk, ok, rfl, lk, ck0⟩ := hI.cells 0 (by simp)
  have ck1 : W.cell? ⟨bk, ok + 1, none⟩ = some (.int .i64 l) := by
    obtain ⟨b2, o2, e2, _, d2⟩ := hI.cells 1 (by simp)
    obtain ⟨rfl, rfl⟩ : bk = b2 ∧ ok = o2 := by simpa using e2
    simpa using d2
  obtain rfl : nk = 2 := hI.len.symm
  simp only [List.getElem_cons_zero, Nat.add_zero] at ck0
  have H1 := hide (h1 (2))
  have H2 := hide (h2 (3))
  generalize p1 (2) = t1 at H1 z1 ⊢
  generalize p2 (3) = t2 at H2 z2 ⊢
  clear hS hI hk h1 h2 h hx hil ex ho hl hw hlv
  go_enter Tryz.func12, Tryz.ntmps12
  go_wp2_with fail
  refine (unhide HL _).mono ?_
  rintro r w1 ⟨rfl, hw1⟩
  rw [hw1]
  clear hw1 HL
  dsimp only
  have W0E : ∃ W0, W0 = W.alloc (.cells #[.int .i64 op, .int .i64 x.num, .string x.text, .slice an nn cn, .slice (some ⟨bk, ok, none⟩) 2 ck] 67) := ⟨_, rfl⟩
  go_wp2_with fail
  obtain ⟨W0, hW0⟩ := W0E
  rw [← hW0] at B0 R0 HW ⊢
  have C0 := (B0.cell (p := ⟨bk, ok, none⟩) lk).trans ck0
  have C1 := (B0.cell (p := ⟨bk, ok + 1, none⟩) lk).trans ck1
  have CR : W0.cell? ⟨W.heap.size, 4, none⟩ = some (.slice (some ⟨bk, ok, none⟩) 2 ck) := R0.cell 4
  have CO : W0.cell? ⟨W.heap.size, 0, none⟩ = some (.int .i64 op) := R0.cell 0
  have LR := R0.lt
  have LK : bk < W0.heap.size := Nat.lt_of_lt_of_le lk B0.size
  clear hW0 R0 ck0 ck1 c0 c1 c2 c3 c4
  have D1 : Below W0.heap.size W0 W0.drew := (Below.refl _ _).drew
  have HWD := hide ((unhide HW).trans (D1.mono (unhide HW).size))
  have keep : ∀ w', Below W0.heap.size W0 w' → w'.cell? ⟨W.heap.size, 4, none⟩ = some (.slice (some ⟨bk, ok, none⟩) 2 ck) ∧ w'.cell? ⟨W.heap.size, 0, none⟩ = some (.int .i64 op) ∧ w'.cell? ⟨bk, ok, none⟩ = some (.int .i64 k) ∧ w'.cell? ⟨bk, ok + 1, none⟩ = some (.int .i64 l) := fun w' hb => ⟨(hb.cell (p := ⟨W.heap.size, 4, none⟩) LR).trans CR, (hb.cell (p := ⟨W.heap.size, 0, none⟩) LR).trans CO, (hb.cell (p := ⟨bk, ok, none⟩) LK).trans C0, (hb.cell (p := ⟨bk, ok + 1, none⟩) LK).trans C1⟩
  have KP := hide keep
  have q1 := keep _ D1
  have e1 : (⟨#[32]⟩ : ByteArray).size = 1 := rfl
  have s1 := addS' (a := t1) (b := ⟨#[32]⟩) (by rw [e1]; omega)
  have s2 := addS' (a := t1 ++ ⟨#[32]⟩) (b := sgn) (by rw [ByteArray.size_append, e1]; omega)
  have s3 := addS' (a := t1 ++ ⟨#[32]⟩ ++ sgn) (b := ⟨#[32]⟩) (by simp only [ByteArray.size_append, e1]; omega)
  have s4 := addS' (a := t1 ++ ⟨#[32]⟩ ++ sgn ++ ⟨#[32]⟩) (b := t2) (by simp only [ByteArray.size_append, e1]; omega)
  clear keep C0 C1 CR CO z1 z2 zs
  go_region_held3 (fun w' => w'.cell? ⟨W.heap.size, 4, none⟩ = some (.slice (some ⟨bk, ok, none⟩) 2 ck) ∧ w'.cell? ⟨W.heap.size, 0, none⟩ = some (.int .i64 op) ∧ w'.cell? ⟨bk, ok, none⟩ = some (.int .i64 k) ∧ w'.cell? ⟨bk, ok + 1, none⟩ = some (.int .i64 l)) (first | assumption | go_keep)
    (first
      | (go_at_call 12; refine (unhide H2 _ (unhide HW3)).mono ?_; rintro r w4 ⟨rfl, hb4⟩; have G4 := G3.trans (hb4.mono G3.size); have HW4 := hide ((unhide HW3).trans (hb4.mono (unhide HW3).size)); have q4 := unhide KP _ G4)
      | (go_at_call 27; refine (unhide HG _).mono ?_; rintro r w3 ⟨rfl, hb3⟩; have G3 := G2.trans (hb3.mono G2.size); have HW3 := hide ((unhide HW2).trans (hb3.mono (unhide HW2).size)); have q3 := unhide KP _ G3)
      | (go_at_call 12; refine (unhide H1 _ (unhide HWD)).mono ?_; rintro r w2 ⟨rfl, hb2⟩; have G2 := D1.trans (hb2.mono D1.size); have HW2 := hide ((unhide HWD).trans (hb2.mono (unhide HWD).size)); have q2 := unhide KP _ G2))
  go_wp2_with fail
  go_ret
  exact ⟨rfl, B0.trans (G4.mono B0.size)⟩

set_option maxHeartbeats 1600000 in
set_option maxRecDepth 100000 in
theorem put_lv4 (w : World) (a : Option Addr) (n c : Nat) (N : List Nd) (h : Nds w a n c N) (i : Nat) (x : Nd) (hx : N[i]? = some x) (ho : 11 ≤ x.op ∧ x.op ≤ 26) (lv : Int) (hlv : lvN x.op = lv) (h4 : lv = 4) (k l : Nat) (hk : x.kids = [(k : Int), (l : Int)]) (p1 p2 : Int → ByteArray) (h1 : PutV w a n c k p1) (h2 : PutV w a n c l p2) (z1 : (p1 (5)).size ≤ 16000010) (z2 : (p2 (5)).size ≤ 16000010) : InP w a n c i x.op (p1 (5) ++ (⟨#[32]⟩ ++ signB x.op ++ ⟨#[32]⟩) ++ p2 (5)) := by
  intro want W hl hw
  have hil : i < N.length := (List.getElem?_eq_some_iff.1 hx).1
  have ex : N[i] = x := (List.getElem?_eq_some_iff.1 hx).2
  obtain ⟨b, off, rfl, hb, an, nn, cn, ak, nk, ck, c0, c1, c2, c3, c4, hS, hI⟩ := (h.below hw (Nat.le_refl _)).cells i hil
  rw [ex] at c0 c1 c2 hS hI
  have iln : (i : Int) < (n : Int) := by have := h.len; omega
  have hn := h.small
  have lv0 : 0 ≤ lv := by rw [← hlv]; exact lvN_pos _
  have lv8 : lv ≤ 8 := by rw [← hlv]; exact lvN_top _
  have hd : decide (lv < want) = false := decide_eq_false (by omega)
  have HL := hide (l2level_at (op := x.op) (by omega) hlv)
  have HG := hide (l2sign_any x.op ho)
  have HE := hide (show p1 (5) ++ (⟨#[32]⟩ ++ signB x.op ++ ⟨#[32]⟩) ++ p2 (5) = p1 (5) ++ ⟨#[32]⟩ ++ signB x.op ++ ⟨#[32]⟩ ++ p2 (5) by simp only [ByteArray.append_assoc])
  rw [unhide HE]
  have zs := signB_size x.op
  generalize signB x.op = sgn at HG zs ⊢
  clear HE
  have B0 := (Below.refl W.heap.size W).alloc (Nat.le_refl _) (.cells #[.int .i64 x.op, .int .i64 x.num, .string x.text, .slice an nn cn, .slice ak nk ck] 67)
  have R0 := Row.new W #[.int .i64 x.op, .int .i64 x.num, .string x.text, .slice an nn cn, .slice ak nk ck] 67
  have HW := hide (hw.trans (B0.mono hw.size))
  subst h4
  have g1 : (x.op == 1) = false := beq_eq_false_iff_ne.2 (by omega)
  have g2 : (x.op == 2) = false := beq_eq_false_iff_ne.2 (by omega)
  have g3 : (x.op == 3) = false := beq_eq_false_iff_ne.2 (by omega)
  have g4 : (x.op == 4) = false := beq_eq_false_iff_ne.2 (by omega)
  have g5 : (x.op == 5) = false := beq_eq_false_iff_ne.2 (by omega)
  have g8 : (x.op == 8) = false := beq_eq_false_iff_ne.2 (by omega)
  have g9 : (x.op == 9) = false := beq_eq_false_iff_ne.2 (by omega)
  have g10 : (x.op == 10) = false := beq_eq_false_iff_ne.2 (by omega)
  have g27 : (x.op == 27) = false := beq_eq_false_iff_ne.2 (by omega)
  generalize x.op = op at c0 HL HG B0 R0 HW g1 g2 g3 g4 g5 g8 g9 g10 g27
  rw [hk] at hI
  obtain ⟨bk, ok, rfl, lk, ck0⟩ := hI.cells 0 (by simp)
  have ck1 : W.cell? ⟨bk, ok + 1, none⟩ = some (.int .i64 l) := by
    obtain ⟨b2, o2, e2, _, d2⟩ := hI.cells 1 (by simp)
    obtain ⟨rfl, rfl⟩ : bk = b2 ∧ ok = o2 := by simpa using e2
    simpa using d2
  obtain rfl : nk = 2 := hI.len.symm
  simp only [List.getElem_cons_zero, Nat.add_zero] at ck0
  have H1 := hide (h1 (5))
  have H2 := hide (h2 (5))
  generalize p1 (5) = t1 at H1 z1 ⊢
  generalize p2 (5) = t2 at H2 z2 ⊢
  clear hS hI hk h1 h2 h hx hil ex ho hl hw hlv
  go_enter Tryz.func12, Tryz.ntmps12
  go_wp2_with fail
  refine (unhide HL _).mono ?_
  rintro r w1 ⟨rfl, hw1⟩
  rw [hw1]
  clear hw1 HL
  dsimp only
  have W0E : ∃ W0, W0 = W.alloc (.cells #[.int .i64 op, .int .i64 x.num, .string x.text, .slice an nn cn, .slice (some ⟨bk, ok, none⟩) 2 ck] 67) := ⟨_, rfl⟩
  go_wp2_with fail
  obtain ⟨W0, hW0⟩ := W0E
  rw [← hW0] at B0 R0 HW ⊢
  have C0 := (B0.cell (p := ⟨bk, ok, none⟩) lk).trans ck0
  have C1 := (B0.cell (p := ⟨bk, ok + 1, none⟩) lk).trans ck1
  have CR : W0.cell? ⟨W.heap.size, 4, none⟩ = some (.slice (some ⟨bk, ok, none⟩) 2 ck) := R0.cell 4
  have CO : W0.cell? ⟨W.heap.size, 0, none⟩ = some (.int .i64 op) := R0.cell 0
  have LR := R0.lt
  have LK : bk < W0.heap.size := Nat.lt_of_lt_of_le lk B0.size
  clear hW0 R0 ck0 ck1 c0 c1 c2 c3 c4
  have D1 : Below W0.heap.size W0 W0.drew := (Below.refl _ _).drew
  have HWD := hide ((unhide HW).trans (D1.mono (unhide HW).size))
  have keep : ∀ w', Below W0.heap.size W0 w' → w'.cell? ⟨W.heap.size, 4, none⟩ = some (.slice (some ⟨bk, ok, none⟩) 2 ck) ∧ w'.cell? ⟨W.heap.size, 0, none⟩ = some (.int .i64 op) ∧ w'.cell? ⟨bk, ok, none⟩ = some (.int .i64 k) ∧ w'.cell? ⟨bk, ok + 1, none⟩ = some (.int .i64 l) := fun w' hb => ⟨(hb.cell (p := ⟨W.heap.size, 4, none⟩) LR).trans CR, (hb.cell (p := ⟨W.heap.size, 0, none⟩) LR).trans CO, (hb.cell (p := ⟨bk, ok, none⟩) LK).trans C0, (hb.cell (p := ⟨bk, ok + 1, none⟩) LK).trans C1⟩
  have KP := hide keep
  have q1 := keep _ D1
  have e1 : (⟨#[32]⟩ : ByteArray).size = 1 := rfl
  have s1 := addS' (a := t1) (b := ⟨#[32]⟩) (by rw [e1]; omega)
  have s2 := addS' (a := t1 ++ ⟨#[32]⟩) (b := sgn) (by rw [ByteArray.size_append, e1]; omega)
  have s3 := addS' (a := t1 ++ ⟨#[32]⟩ ++ sgn) (b := ⟨#[32]⟩) (by simp only [ByteArray.size_append, e1]; omega)
  have s4 := addS' (a := t1 ++ ⟨#[32]⟩ ++ sgn ++ ⟨#[32]⟩) (b := t2) (by simp only [ByteArray.size_append, e1]; omega)
  clear keep C0 C1 CR CO z1 z2 zs
  go_region_held3 (fun w' => w'.cell? ⟨W.heap.size, 4, none⟩ = some (.slice (some ⟨bk, ok, none⟩) 2 ck) ∧ w'.cell? ⟨W.heap.size, 0, none⟩ = some (.int .i64 op) ∧ w'.cell? ⟨bk, ok, none⟩ = some (.int .i64 k) ∧ w'.cell? ⟨bk, ok + 1, none⟩ = some (.int .i64 l)) (first | assumption | go_keep)
    (first
      | (go_at_call 12; refine (unhide H2 _ (unhide HW3)).mono ?_; rintro r w4 ⟨rfl, hb4⟩; have G4 := G3.trans (hb4.mono G3.size); have HW4 := hide ((unhide HW3).trans (hb4.mono (unhide HW3).size)); have q4 := unhide KP _ G4)
      | (go_at_call 27; refine (unhide HG _).mono ?_; rintro r w3 ⟨rfl, hb3⟩; have G3 := G2.trans (hb3.mono G2.size); have HW3 := hide ((unhide HW2).trans (hb3.mono (unhide HW2).size)); have q3 := unhide KP _ G3)
      | (go_at_call 12; refine (unhide H1 _ (unhide HWD)).mono ?_; rintro r w2 ⟨rfl, hb2⟩; have G2 := D1.trans (hb2.mono D1.size); have HW2 := hide ((unhide HWD).trans (hb2.mono (unhide HWD).size)); have q2 := unhide KP _ G2))
  go_wp2_with fail
  go_ret
  exact ⟨rfl, B0.trans (G4.mono B0.size)⟩

set_option maxHeartbeats 1600000 in
set_option maxRecDepth 100000 in
theorem put_lv5 (w : World) (a : Option Addr) (n c : Nat) (N : List Nd) (h : Nds w a n c N) (i : Nat) (x : Nd) (hx : N[i]? = some x) (ho : 11 ≤ x.op ∧ x.op ≤ 26) (lv : Int) (hlv : lvN x.op = lv) (h4 : lv = 5) (k l : Nat) (hk : x.kids = [(k : Int), (l : Int)]) (p1 p2 : Int → ByteArray) (h1 : PutV w a n c k p1) (h2 : PutV w a n c l p2) (z1 : (p1 (5)).size ≤ 16000010) (z2 : (p2 (6)).size ≤ 16000010) : InP w a n c i x.op (p1 (5) ++ (⟨#[32]⟩ ++ signB x.op ++ ⟨#[32]⟩) ++ p2 (6)) := by
  intro want W hl hw
  have hil : i < N.length := (List.getElem?_eq_some_iff.1 hx).1
  have ex : N[i] = x := (List.getElem?_eq_some_iff.1 hx).2
  obtain ⟨b, off, rfl, hb, an, nn, cn, ak, nk, ck, c0, c1, c2, c3, c4, hS, hI⟩ := (h.below hw (Nat.le_refl _)).cells i hil
  rw [ex] at c0 c1 c2 hS hI
  have iln : (i : Int) < (n : Int) := by have := h.len; omega
  have hn := h.small
  have lv0 : 0 ≤ lv := by rw [← hlv]; exact lvN_pos _
  have lv8 : lv ≤ 8 := by rw [← hlv]; exact lvN_top _
  have hd : decide (lv < want) = false := decide_eq_false (by omega)
  have HL := hide (l2level_at (op := x.op) (by omega) hlv)
  have HG := hide (l2sign_any x.op ho)
  have HE := hide (show p1 (5) ++ (⟨#[32]⟩ ++ signB x.op ++ ⟨#[32]⟩) ++ p2 (6) = p1 (5) ++ ⟨#[32]⟩ ++ signB x.op ++ ⟨#[32]⟩ ++ p2 (6) by simp only [ByteArray.append_assoc])
  rw [unhide HE]
  have zs := signB_size x.op
  generalize signB x.op = sgn at HG zs ⊢
  clear HE
  have B0 := (Below.refl W.heap.size W).alloc (Nat.le_refl _) (.cells #[.int .i64 x.op, .int .i64 x.num, .string x.text, .slice an nn cn, .slice ak nk ck] 67)
  have R0 := Row.new W #[.int .i64 x.op, .int .i64 x.num, .string x.text, .slice an nn cn, .slice ak nk ck] 67
  have HW := hide (hw.trans (B0.mono hw.size))
  subst h4
  have g1 : (x.op == 1) = false := beq_eq_false_iff_ne.2 (by omega)
  have g2 : (x.op == 2) = false := beq_eq_false_iff_ne.2 (by omega)
  have g3 : (x.op == 3) = false := beq_eq_false_iff_ne.2 (by omega)
  have g4 : (x.op == 4) = false := beq_eq_false_iff_ne.2 (by omega)
  have g5 : (x.op == 5) = false := beq_eq_false_iff_ne.2 (by omega)
  have g8 : (x.op == 8) = false := beq_eq_false_iff_ne.2 (by omega)
  have g9 : (x.op == 9) = false := beq_eq_false_iff_ne.2 (by omega)
  have g10 : (x.op == 10) = false := beq_eq_false_iff_ne.2 (by omega)
  have g27 : (x.op == 27) = false := beq_eq_false_iff_ne.2 (by omega)
  generalize x.op = op at c0 HL HG B0 R0 HW g1 g2 g3 g4 g5 g8 g9 g10 g27
  rw [hk] at hI
  obtain ⟨bk, ok, rfl, lk, ck0⟩ := hI.cells 0 (by simp)
  have ck1 : W.cell? ⟨bk, ok + 1, none⟩ = some (.int .i64 l) := by
    obtain ⟨b2, o2, e2, _, d2⟩ := hI.cells 1 (by simp)
    obtain ⟨rfl, rfl⟩ : bk = b2 ∧ ok = o2 := by simpa using e2
    simpa using d2
  obtain rfl : nk = 2 := hI.len.symm
  simp only [List.getElem_cons_zero, Nat.add_zero] at ck0
  have H1 := hide (h1 (5))
  have H2 := hide (h2 (6))
  generalize p1 (5) = t1 at H1 z1 ⊢
  generalize p2 (6) = t2 at H2 z2 ⊢
  clear hS hI hk h1 h2 h hx hil ex ho hl hw hlv
  go_enter Tryz.func12, Tryz.ntmps12
  go_wp2_with fail
  refine (unhide HL _).mono ?_
  rintro r w1 ⟨rfl, hw1⟩
  rw [hw1]
  clear hw1 HL
  dsimp only
  have W0E : ∃ W0, W0 = W.alloc (.cells #[.int .i64 op, .int .i64 x.num, .string x.text, .slice an nn cn, .slice (some ⟨bk, ok, none⟩) 2 ck] 67) := ⟨_, rfl⟩
  go_wp2_with fail
  obtain ⟨W0, hW0⟩ := W0E
  rw [← hW0] at B0 R0 HW ⊢
  have C0 := (B0.cell (p := ⟨bk, ok, none⟩) lk).trans ck0
  have C1 := (B0.cell (p := ⟨bk, ok + 1, none⟩) lk).trans ck1
  have CR : W0.cell? ⟨W.heap.size, 4, none⟩ = some (.slice (some ⟨bk, ok, none⟩) 2 ck) := R0.cell 4
  have CO : W0.cell? ⟨W.heap.size, 0, none⟩ = some (.int .i64 op) := R0.cell 0
  have LR := R0.lt
  have LK : bk < W0.heap.size := Nat.lt_of_lt_of_le lk B0.size
  clear hW0 R0 ck0 ck1 c0 c1 c2 c3 c4
  have D1 : Below W0.heap.size W0 W0.drew := (Below.refl _ _).drew
  have HWD := hide ((unhide HW).trans (D1.mono (unhide HW).size))
  have keep : ∀ w', Below W0.heap.size W0 w' → w'.cell? ⟨W.heap.size, 4, none⟩ = some (.slice (some ⟨bk, ok, none⟩) 2 ck) ∧ w'.cell? ⟨W.heap.size, 0, none⟩ = some (.int .i64 op) ∧ w'.cell? ⟨bk, ok, none⟩ = some (.int .i64 k) ∧ w'.cell? ⟨bk, ok + 1, none⟩ = some (.int .i64 l) := fun w' hb => ⟨(hb.cell (p := ⟨W.heap.size, 4, none⟩) LR).trans CR, (hb.cell (p := ⟨W.heap.size, 0, none⟩) LR).trans CO, (hb.cell (p := ⟨bk, ok, none⟩) LK).trans C0, (hb.cell (p := ⟨bk, ok + 1, none⟩) LK).trans C1⟩
  have KP := hide keep
  have q1 := keep _ D1
  have e1 : (⟨#[32]⟩ : ByteArray).size = 1 := rfl
  have s1 := addS' (a := t1) (b := ⟨#[32]⟩) (by rw [e1]; omega)
  have s2 := addS' (a := t1 ++ ⟨#[32]⟩) (b := sgn) (by rw [ByteArray.size_append, e1]; omega)
  have s3 := addS' (a := t1 ++ ⟨#[32]⟩ ++ sgn) (b := ⟨#[32]⟩) (by simp only [ByteArray.size_append, e1]; omega)
  have s4 := addS' (a := t1 ++ ⟨#[32]⟩ ++ sgn ++ ⟨#[32]⟩) (b := t2) (by simp only [ByteArray.size_append, e1]; omega)
  clear keep C0 C1 CR CO z1 z2 zs
  go_region_held3 (fun w' => w'.cell? ⟨W.heap.size, 4, none⟩ = some (.slice (some ⟨bk, ok, none⟩) 2 ck) ∧ w'.cell? ⟨W.heap.size, 0, none⟩ = some (.int .i64 op) ∧ w'.cell? ⟨bk, ok, none⟩ = some (.int .i64 k) ∧ w'.cell? ⟨bk, ok + 1, none⟩ = some (.int .i64 l)) (first | assumption | go_keep)
    (first
      | (go_at_call 12; refine (unhide H2 _ (unhide HW3)).mono ?_; rintro r w4 ⟨rfl, hb4⟩; have G4 := G3.trans (hb4.mono G3.size); have HW4 := hide ((unhide HW3).trans (hb4.mono (unhide HW3).size)); have q4 := unhide KP _ G4)
      | (go_at_call 27; refine (unhide HG _).mono ?_; rintro r w3 ⟨rfl, hb3⟩; have G3 := G2.trans (hb3.mono G2.size); have HW3 := hide ((unhide HW2).trans (hb3.mono (unhide HW2).size)); have q3 := unhide KP _ G3)
      | (go_at_call 12; refine (unhide H1 _ (unhide HWD)).mono ?_; rintro r w2 ⟨rfl, hb2⟩; have G2 := D1.trans (hb2.mono D1.size); have HW2 := hide ((unhide HWD).trans (hb2.mono (unhide HWD).size)); have q2 := unhide KP _ G2))
  go_wp2_with fail
  go_ret
  exact ⟨rfl, B0.trans (G4.mono B0.size)⟩

set_option maxHeartbeats 1600000 in
set_option maxRecDepth 100000 in
theorem put_lv6 (w : World) (a : Option Addr) (n c : Nat) (N : List Nd) (h : Nds w a n c N) (i : Nat) (x : Nd) (hx : N[i]? = some x) (ho : 11 ≤ x.op ∧ x.op ≤ 26) (lv : Int) (hlv : lvN x.op = lv) (h4 : lv = 6) (k l : Nat) (hk : x.kids = [(k : Int), (l : Int)]) (p1 p2 : Int → ByteArray) (h1 : PutV w a n c k p1) (h2 : PutV w a n c l p2) (z1 : (p1 (6)).size ≤ 16000010) (z2 : (p2 (7)).size ≤ 16000010) : InP w a n c i x.op (p1 (6) ++ (⟨#[32]⟩ ++ signB x.op ++ ⟨#[32]⟩) ++ p2 (7)) := by
  intro want W hl hw
  have hil : i < N.length := (List.getElem?_eq_some_iff.1 hx).1
  have ex : N[i] = x := (List.getElem?_eq_some_iff.1 hx).2
  obtain ⟨b, off, rfl, hb, an, nn, cn, ak, nk, ck, c0, c1, c2, c3, c4, hS, hI⟩ := (h.below hw (Nat.le_refl _)).cells i hil
  rw [ex] at c0 c1 c2 hS hI
  have iln : (i : Int) < (n : Int) := by have := h.len; omega
  have hn := h.small
  have lv0 : 0 ≤ lv := by rw [← hlv]; exact lvN_pos _
  have lv8 : lv ≤ 8 := by rw [← hlv]; exact lvN_top _
  have hd : decide (lv < want) = false := decide_eq_false (by omega)
  have HL := hide (l2level_at (op := x.op) (by omega) hlv)
  have HG := hide (l2sign_any x.op ho)
  have HE := hide (show p1 (6) ++ (⟨#[32]⟩ ++ signB x.op ++ ⟨#[32]⟩) ++ p2 (7) = p1 (6) ++ ⟨#[32]⟩ ++ signB x.op ++ ⟨#[32]⟩ ++ p2 (7) by simp only [ByteArray.append_assoc])
  rw [unhide HE]
  have zs := signB_size x.op
  generalize signB x.op = sgn at HG zs ⊢
  clear HE
  have B0 := (Below.refl W.heap.size W).alloc (Nat.le_refl _) (.cells #[.int .i64 x.op, .int .i64 x.num, .string x.text, .slice an nn cn, .slice ak nk ck] 67)
  have R0 := Row.new W #[.int .i64 x.op, .int .i64 x.num, .string x.text, .slice an nn cn, .slice ak nk ck] 67
  have HW := hide (hw.trans (B0.mono hw.size))
  subst h4
  have g1 : (x.op == 1) = false := beq_eq_false_iff_ne.2 (by omega)
  have g2 : (x.op == 2) = false := beq_eq_false_iff_ne.2 (by omega)
  have g3 : (x.op == 3) = false := beq_eq_false_iff_ne.2 (by omega)
  have g4 : (x.op == 4) = false := beq_eq_false_iff_ne.2 (by omega)
  have g5 : (x.op == 5) = false := beq_eq_false_iff_ne.2 (by omega)
  have g8 : (x.op == 8) = false := beq_eq_false_iff_ne.2 (by omega)
  have g9 : (x.op == 9) = false := beq_eq_false_iff_ne.2 (by omega)
  have g10 : (x.op == 10) = false := beq_eq_false_iff_ne.2 (by omega)
  have g27 : (x.op == 27) = false := beq_eq_false_iff_ne.2 (by omega)
  generalize x.op = op at c0 HL HG B0 R0 HW g1 g2 g3 g4 g5 g8 g9 g10 g27
  rw [hk] at hI
  obtain ⟨bk, ok, rfl, lk, ck0⟩ := hI.cells 0 (by simp)
  have ck1 : W.cell? ⟨bk, ok + 1, none⟩ = some (.int .i64 l) := by
    obtain ⟨b2, o2, e2, _, d2⟩ := hI.cells 1 (by simp)
    obtain ⟨rfl, rfl⟩ : bk = b2 ∧ ok = o2 := by simpa using e2
    simpa using d2
  obtain rfl : nk = 2 := hI.len.symm
  simp only [List.getElem_cons_zero, Nat.add_zero] at ck0
  have H1 := hide (h1 (6))
  have H2 := hide (h2 (7))
  generalize p1 (6) = t1 at H1 z1 ⊢
  generalize p2 (7) = t2 at H2 z2 ⊢
  clear hS hI hk h1 h2 h hx hil ex ho hl hw hlv
  go_enter Tryz.func12, Tryz.ntmps12
  go_wp2_with fail
  refine (unhide HL _).mono ?_
  rintro r w1 ⟨rfl, hw1⟩
  rw [hw1]
  clear hw1 HL
  dsimp only
  have W0E : ∃ W0, W0 = W.alloc (.cells #[.int .i64 op, .int .i64 x.num, .string x.text, .slice an nn cn, .slice (some ⟨bk, ok, none⟩) 2 ck] 67) := ⟨_, rfl⟩
  go_wp2_with fail
  obtain ⟨W0, hW0⟩ := W0E
  rw [← hW0] at B0 R0 HW ⊢
  have C0 := (B0.cell (p := ⟨bk, ok, none⟩) lk).trans ck0
  have C1 := (B0.cell (p := ⟨bk, ok + 1, none⟩) lk).trans ck1
  have CR : W0.cell? ⟨W.heap.size, 4, none⟩ = some (.slice (some ⟨bk, ok, none⟩) 2 ck) := R0.cell 4
  have CO : W0.cell? ⟨W.heap.size, 0, none⟩ = some (.int .i64 op) := R0.cell 0
  have LR := R0.lt
  have LK : bk < W0.heap.size := Nat.lt_of_lt_of_le lk B0.size
  clear hW0 R0 ck0 ck1 c0 c1 c2 c3 c4
  have D1 : Below W0.heap.size W0 W0.drew := (Below.refl _ _).drew
  have HWD := hide ((unhide HW).trans (D1.mono (unhide HW).size))
  have keep : ∀ w', Below W0.heap.size W0 w' → w'.cell? ⟨W.heap.size, 4, none⟩ = some (.slice (some ⟨bk, ok, none⟩) 2 ck) ∧ w'.cell? ⟨W.heap.size, 0, none⟩ = some (.int .i64 op) ∧ w'.cell? ⟨bk, ok, none⟩ = some (.int .i64 k) ∧ w'.cell? ⟨bk, ok + 1, none⟩ = some (.int .i64 l) := fun w' hb => ⟨(hb.cell (p := ⟨W.heap.size, 4, none⟩) LR).trans CR, (hb.cell (p := ⟨W.heap.size, 0, none⟩) LR).trans CO, (hb.cell (p := ⟨bk, ok, none⟩) LK).trans C0, (hb.cell (p := ⟨bk, ok + 1, none⟩) LK).trans C1⟩
  have KP := hide keep
  have q1 := keep _ D1
  have e1 : (⟨#[32]⟩ : ByteArray).size = 1 := rfl
  have s1 := addS' (a := t1) (b := ⟨#[32]⟩) (by rw [e1]; omega)
  have s2 := addS' (a := t1 ++ ⟨#[32]⟩) (b := sgn) (by rw [ByteArray.size_append, e1]; omega)
  have s3 := addS' (a := t1 ++ ⟨#[32]⟩ ++ sgn) (b := ⟨#[32]⟩) (by simp only [ByteArray.size_append, e1]; omega)
  have s4 := addS' (a := t1 ++ ⟨#[32]⟩ ++ sgn ++ ⟨#[32]⟩) (b := t2) (by simp only [ByteArray.size_append, e1]; omega)
  clear keep C0 C1 CR CO z1 z2 zs
  go_region_held3 (fun w' => w'.cell? ⟨W.heap.size, 4, none⟩ = some (.slice (some ⟨bk, ok, none⟩) 2 ck) ∧ w'.cell? ⟨W.heap.size, 0, none⟩ = some (.int .i64 op) ∧ w'.cell? ⟨bk, ok, none⟩ = some (.int .i64 k) ∧ w'.cell? ⟨bk, ok + 1, none⟩ = some (.int .i64 l)) (first | assumption | go_keep)
    (first
      | (go_at_call 12; refine (unhide H2 _ (unhide HW3)).mono ?_; rintro r w4 ⟨rfl, hb4⟩; have G4 := G3.trans (hb4.mono G3.size); have HW4 := hide ((unhide HW3).trans (hb4.mono (unhide HW3).size)); have q4 := unhide KP _ G4)
      | (go_at_call 27; refine (unhide HG _).mono ?_; rintro r w3 ⟨rfl, hb3⟩; have G3 := G2.trans (hb3.mono G2.size); have HW3 := hide ((unhide HW2).trans (hb3.mono (unhide HW2).size)); have q3 := unhide KP _ G3)
      | (go_at_call 12; refine (unhide H1 _ (unhide HWD)).mono ?_; rintro r w2 ⟨rfl, hb2⟩; have G2 := D1.trans (hb2.mono D1.size); have HW2 := hide ((unhide HWD).trans (hb2.mono (unhide HWD).size)); have q2 := unhide KP _ G2))
  go_wp2_with fail
  go_ret
  exact ⟨rfl, B0.trans (G4.mono B0.size)⟩

end Go.Proofs.YtbdplgelkgngmaaGreatDoor

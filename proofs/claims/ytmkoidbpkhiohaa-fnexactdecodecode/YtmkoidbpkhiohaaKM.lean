/-
  Codes of the call's own: asked for their marks; instructions. Own work.
-/
import Derived.Test.YtmkoidbpkhiohaaKL
namespace Go.Proofs.Ytmkoidbpkhiohaa
open Go.RowKit
set_option linter.unusedVariables false

theorem marks_len (k n : Nat) : (marks k n).length = n := by simp [marks]

set_option maxRecDepth 100000 in
set_option maxHeartbeats 3200000 in
theorem heldValueS_own (lo : Nat) (a : Option Addr) (n c : Nat) (P : List Vl) (nv : List Value) (k : Nat) (w : World) (h : OwnP w lo (.slice a n c) (mpl k P) nv) (hl : P.length = n) (hk : mkK k P P.length ≤ 1073741824) :
    Calls Try.prog 22 #[.slice a n c, .int .i64 k] w fun e w' => e = .returned (.int .i64 (mkK k P P.length : Nat)) ∧ Below w.heap.size w w' := by
  have Hl := hide hl
  have HK := hide hk
  have hn : n ≤ 1073741824 := by
    have : mkK k P P.length = k + 3 * P.length + ((P.take P.length).map fun x => x.names.length).sum := rfl
    omega
  clear hl hk
  go_enter Try.func22, Try.ntmps22
  go_wp2
  go_loopw [1, 5] (fun q i wr => ∃ (j : Nat) (z : Int), j ≤ n ∧ i = .int .i64 j ∧ q = .int .i64 z ∧ z = ((mkK k P j : Nat) : Int) ∧ Below w.heap.size w wr) (fun _ i _ => n - (intOf i).toNat)
  case atStart => exact ⟨0, k, Nat.zero_le _, rfl, rfl, by rw [mkK_zero], Below.refl _ _⟩
  case round =>
    obtain ⟨j, z, hj, rfl, rfl, hz, hb⟩ := hrel
    by_cases hlt : j < n
    · have hjl : j < P.length := by rw [unhide Hl]; exact hlt
      have hml := mpl_len k P
      have hjm : j < (mpl k P).length := by omega
      have OP := h.blocks (w' := wr) (fun k _ hk' => hb.block k hk')
      have hjn : j < nv.length := by rw [OP.len]; exact hjm
      have hz1 := mkK_succ k P j hjl
      have hz2 := mkK_mono k P (j + 1) (by omega)
      have hK := unhide HK
      have ilt : (j : Int) < (n : Int) := by omega
      have z0 : 0 ≤ z := by omega
      obtain ⟨g, hg⟩ : ∃ g, a = some ⟨g, 0, none⟩ := by
        rcases OP.own.2 with ⟨_, h0⟩ | ⟨g, cap, cur, hv, _⟩
        · rw [hml, unhide Hl] at h0; omega
        · simp only [Value.slice.injEq] at hv; exact ⟨g, hv.1⟩
      subst hg
      have hgw := (OP.lts.1 g rfl).2
      have hgw0 := (h.lts.1 g rfl).2
      have hown : wr.ownsRow lo 42 4 (.slice (some ⟨g, 0, none⟩) n c) n (vlC (mpl k P) nv) := by have := OP.own; rwa [hml, unhide Hl] at this
      obtain ⟨x0, x1, x2, x3⟩ := vlC_at (mpl k P) nv j hjm hjn
      have hnm := OP.names j hjm hjn
      have eat := mpl_at k P j hjl hjm
      rw [eat] at x0 x1 x2 hnm
      obtain ⟨m, hm⟩ : ∃ m, m = P[j].names.length := ⟨_, rfl⟩
      rw [← hm] at x0 x1 x2 hnm
      have e0 : (mkV (mkK k P j) m).kind = z := hz.symm
      have e1 : (mkV (mkK k P j) m).num = z + 1 := by show ((mkK k P j + 1 : Nat) : Int) = _; omega
      have e2 : (mkV (mkK k P j) m).text = markS (z + 1 + 1).toNat := by show markS (mkK k P j + 2) = _; rw [show (z + 1 + 1).toNat = mkK k P j + 2 by omega]
      have e3 : (mkV (mkK k P j) m).names = marks (z + 1 + 1 + 1).toNat m := by show marks (mkK k P j + 3) m = _; rw [show (z + 1 + 1 + 1).toNat = mkK k P j + 3 by omega]
      rw [e0] at x0
      rw [e1] at x1
      rw [e2] at x2
      rw [e3, marks_len] at hnm
      obtain ⟨an, cn, hu⟩ := owns_form hnm
      rw [hu] at x3 hnm
      have c0 := (hown.cellAt (j * 4) (by omega)).trans x0
      have c1 := (hown.cellAt (j * 4 + 1) (by omega)).trans x1
      have c2 := (hown.cellAt (j * 4 + 2) (by omega)).trans x2
      have c3 := (hown.cellAt (j * 4 + 3) (by omega)).trans x3
      have z1 : z + 3 + m ≤ 1073741824 := by omega
      have HZ := hide (show z + 3 + m = ((mkK k P (j + 1) : Nat) : Int) by omega)
      have ST : Strs wr an m cn (marks (z + 1 + 1 + 1).toNat m) := Strs.of_owns hnm (marks_sizes _ _ (by omega))
      have Hlt := hide hlt
      clear hz hz1 hz2 hK hm e0 e1 e2 e3 x0 x1 x2 x3 hown hnm hu eat OP
      go_wp2_with fail
      go_region_held3 (fun w' => w'.cell? ⟨g, j * 4 + 2, none⟩ = some (.string (markS (z + 1 + 1).toNat))) (go_keep)
        ((go_at_call 37; refine (markText_int _ _ (by omega) (by omega)).mono ?_; rintro e w1 ⟨rfl, hb1⟩; have q2 := (hb1.cell (p := ⟨g, j * 4 + 2, none⟩) hgw).trans c2; have q3 := (hb1.cell (p := ⟨g, j * 4 + 3, none⟩) hgw).trans c3))
      all_goals
        have ST1 := ST.below (show Below wr.heap.size wr w1 from (Below.refl _ _).drew.trans hb1) (Nat.le_refl _)
        go_wp2_with (go_at_call 39; refine (heldStringS_int _ _ _ (z + 1 + 1 + 1) w1 ST1 (by omega) (by omega)).mono ?_; rintro e w2 ⟨rfl, hb2⟩; have hneg : ¬ (z + 1 + 1 + 1 + (m : Int) < 0) := (by omega))
        go_roundw
        case rel => exact ⟨j + 1, z + 1 + 1 + 1 + m, unhide Hlt, by go_num, by go_num, by have := unhide HZ; omega, (hb.drew.trans (hb1.mono hb.size)).trans (hb2.mono (by have h1 : wr.heap.size ≤ w1.heap.size := hb1.size; have := hb.size; omega))⟩
        case measure => have := unhide Hlt; simp [intOf]; omega
    · have e : j = n := by omega
      subst e
      go_wp2
      go_ret
      rw [← unhide Hl] at hz
      exact ⟨by rw [hz]; rfl, hb⟩

def mkI (k j : Nat) : Is1 := ⟨((k + 2 * j : Nat) : Int), ((k + 2 * j + 1 : Nat) : Int)⟩
def marksI (k n : Nat) : List Is1 := (List.range n).map (mkI k)
def mixI (I : List Is1) (k j : Nat) : List Is1 := marksI k j ++ I.drop j

theorem marksI_len (k n : Nat) : (marksI k n).length = n := by simp [marksI]
theorem marksI_succ (k n : Nat) : marksI k (n + 1) = marksI k n ++ [mkI k n] := by simp [marksI, List.range_succ]
theorem mixI_zero (I : List Is1) (k : Nat) : mixI I k 0 = I := by simp [mixI, marksI]
theorem mixI_full (I : List Is1) (k : Nat) : mixI I k I.length = marksI k I.length := by simp [mixI]
theorem mixI_len (I : List Is1) (k j : Nat) (h : j ≤ I.length) : (mixI I k j).length = I.length := by
  rw [mixI, List.length_append, marksI_len, List.length_drop]; omega
theorem mixI_set (I : List Is1) (k j : Nat) (h : j < I.length) : (mixI I k j).set j (mkI k j) = mixI I k (j + 1) := by
  rw [mixI, List.drop_eq_getElem_cons h, List.set_append_right _ _ (by rw [marksI_len]; exact Nat.le_refl _), marksI_len, Nat.sub_self, List.set_cons_zero, mixI, marksI_succ, List.append_assoc]
  rfl

theorem inC_set : ∀ (I : List Is1) (j : Nat) (h : j < I.length) (y : Is1), inC (I.set j y) = ((inC I).set (j * 2) (.int .i64 y.op)).set (j * 2 + 1) (.int .i64 y.arg)
  | i :: I, 0, _, y => by simp [inC]
  | i :: I, j + 1, h, y => by
    have ih := inC_set I j (by simpa using h) y
    have e : ∀ (A : List Value) q v, ([Value.int .i64 i.op, .int .i64 i.arg] ++ A).set ((j + 1) * 2 + q) v = [Value.int .i64 i.op, .int .i64 i.arg] ++ A.set (j * 2 + q) v := fun A q v => by
      rw [List.set_append_right _ _ (by simp; omega)]
      congr 2
      simp; omega
    have c : ∀ x J, inC (x :: J) = [Value.int .i64 x.op, .int .i64 x.arg] ++ inC J := fun x J => by simp [inC]
    rw [List.set_cons_succ, c, c, ih]
    have e0 := e (inC I) 0 (.int .i64 y.op)
    simp only [Nat.add_zero] at e0
    rw [e0, e]

set_option maxRecDepth 100000 in
set_option maxHeartbeats 3200000 in
theorem markInsS_own (lo hi : Nat) (a : Option Addr) (n c : Nat) (I : List Is1) (x : Int) (w : World) (h : w.ownsRow lo 45 2 (.slice a n c) n (inC I)) (hin : ∀ q, (Value.slice a n c).ownBlock = some q → q < hi) (hl : I.length = n) (hx : 0 ≤ x) (hk : x + 2 * n ≤ 1073741824) :
    Calls Try.prog 21 #[.slice a n c, .int .i64 x] w fun e w' => e = .returned (.int .i64 (x + 2 * n)) ∧ w'.ownsRow lo 45 2 (.slice a n c) n (inC (marksI x.toNat n)) ∧ Touch lo hi w w' := by
  obtain ⟨k, rfl⟩ := Int.eq_ofNat_of_zero_le hx
  rw [Int.toNat_natCast]
  have Hl := hide hl
  clear hl
  go_enter Try.func21, Try.ntmps21
  go_wp2
  go_loopw [1, 5] (fun q i wr => ∃ (j : Nat) (z : Int), j ≤ n ∧ i = .int .i64 j ∧ q = .int .i64 z ∧ z = ((k + 2 * j : Nat) : Int) ∧ wr.ownsRow lo 45 2 (.slice a n c) n (inC (mixI I k j)) ∧ Touch lo hi w wr) (fun _ i _ => n - (intOf i).toNat)
  case atStart => exact ⟨0, k, Nat.zero_le _, rfl, rfl, by simp, by rw [mixI_zero]; exact h, Touch.refl _ _ _⟩
  case round =>
    obtain ⟨j, z, hj, rfl, rfl, hz, hown, ht⟩ := hrel
    by_cases hlt : j < n
    · have hjl : j < I.length := by rw [unhide Hl]; exact hlt
      have hlm : (mixI I k j).length = I.length := mixI_len I k j (by omega)
      have hjm : j < (mixI I k j).length := by omega
      have ilt : (j : Int) < (n : Int) := by omega
      have z0 : 0 ≤ z := by omega
      have z1 : z + 2 ≤ 1073741824 := by omega
      obtain ⟨g, hg⟩ : ∃ g, a = some ⟨g, 0, none⟩ := by
        rcases hown.2 with ⟨_, h0⟩ | ⟨g, cap, cur, hv, _⟩
        · omega
        · simp only [Value.slice.injEq] at hv; exact ⟨g, hv.1⟩
      subst hg
      have hgl := (hown.lt g rfl).1
      have hgh : g < hi := hin g rfl
      obtain ⟨x0, x1⟩ := inC_at (mixI I k j) j hjm
      have c0 := (hown.cellAt (j * 2) (by omega)).trans x0
      have c1 := (hown.cellAt (j * 2 + 1) (by omega)).trans x1
      have cf := fun i => hown.frozenAt i
      have HO := hide ((hown.stored (j * 2) (.int .i64 z)).1.stored (j * 2 + 1) (.int .i64 (z + 1))).1
      have T2 := (ht.trans (Touch.setCell (lo := lo) (hi := hi) wr ⟨g, j * 2, none⟩ (.int .i64 z) hgl hgh)).trans (Touch.setCell (lo := lo) (hi := hi) _ ⟨g, j * 2 + 1, none⟩ (.int .i64 (z + 1)) hgl hgh)
      have Hz := hide hz
      have Hlt := hide hlt
      generalize (mixI I k j)[j].op = y0 at c0
      generalize (mixI I k j)[j].arg = y1 at c1
      clear hz hown x0 x1 ht
      go_wp2_with fail
      go_roundw
      case rel =>
        refine ⟨j + 1, z + 1 + 1, unhide Hlt, by go_num, by go_num, by have := unhide Hz; omega, ?_, T2⟩
        have hz := unhide Hz
        rw [← mixI_set I k j hjl, inC_set _ _ hjm]
        have e0 : (mkI k j).op = z := hz.symm
        have e1 : (mkI k j).arg = z + 1 := by show ((k + 2 * j + 1 : Nat) : Int) = _; omega
        rw [e0, e1]
        exact unhide HO
      case measure => have := unhide Hlt; simp [intOf]; omega
    · have e : j = n := by omega
      subst e
      go_wp2
      go_ret
      have hM : mixI I k j = marksI k j := by have := mixI_full I k; rwa [unhide Hl] at this
      rw [hM] at hown
      exact ⟨by rw [hz]; push_cast; rfl, hown, ht⟩

set_option maxRecDepth 100000 in
set_option maxHeartbeats 3200000 in
theorem heldInsS_own (lo : Nat) (a : Option Addr) (n c : Nat) (x : Int) (w : World) (h : w.ownsRow lo 45 2 (.slice a n c) n (inC (marksI x.toNat n))) (hx : 0 ≤ x) (hk : x + 2 * n ≤ 1073741824) :
    Calls Try.prog 23 #[.slice a n c, .int .i64 x] w fun e w' => e = .returned (.int .i64 (x + 2 * n)) ∧ Below w.heap.size w w' := by
  obtain ⟨k, rfl⟩ := Int.eq_ofNat_of_zero_le hx
  rw [Int.toNat_natCast] at h
  go_enter Try.func23, Try.ntmps23
  go_wp2
  go_loopw [1, 5] (fun q i wr => ∃ (j : Nat) (z : Int), j ≤ n ∧ i = .int .i64 j ∧ q = .int .i64 z ∧ z = ((k + 2 * j : Nat) : Int) ∧ wr = w) (fun _ i _ => n - (intOf i).toNat)
  case atStart => exact ⟨0, k, Nat.zero_le _, rfl, rfl, by simp, rfl⟩
  case round =>
    obtain ⟨j, z, hj, rfl, rfl, hz, hw⟩ := hrel
    by_cases hlt : j < n
    · have ilt : (j : Int) < (n : Int) := by omega
      have hjm : j < (marksI k n).length := by rw [marksI_len]; exact hlt
      have z0 : 0 ≤ z := by omega
      have z1 : z + 2 ≤ 1073741824 := by omega
      obtain ⟨g, hg⟩ : ∃ g, a = some ⟨g, 0, none⟩ := by
        rcases h.2 with ⟨_, h0⟩ | ⟨g, cap, cur, hv, _⟩
        · omega
        · simp only [Value.slice.injEq] at hv; exact ⟨g, hv.1⟩
      subst hg
      obtain ⟨x0, x1⟩ := inC_at (marksI k n) j hjm
      have em : (marksI k n)[j] = mkI k j := by simp [marksI]
      rw [em] at x0 x1
      have e0 : (mkI k j).op = z := hz.symm
      have e1 : (mkI k j).arg = z + 1 := by show ((k + 2 * j + 1 : Nat) : Int) = _; omega
      rw [e0] at x0
      rw [e1] at x1
      have c0 := (h.cellAt (j * 2) (by omega)).trans x0
      have c1 := (h.cellAt (j * 2 + 1) (by omega)).trans x1
      rw [← hw] at c0 c1
      have Hw := hide hw
      have Hz := hide hz
      have Hlt := hide hlt
      clear em e0 e1 hz x0 x1 hw
      go_wp2_with fail
      go_roundw
      case rel => exact ⟨j + 1, z + 1 + 1, unhide Hlt, by go_num, by go_num, by have := unhide Hz; omega, unhide Hw⟩
      case measure => have := unhide Hlt; simp [intOf]; omega
    · have e : j = n := by omega
      subst e
      have Hw := hide hw
      clear hw
      go_wp2
      go_ret
      exact ⟨by rw [hz]; push_cast; rfl, by rw [unhide Hw]; exact Below.refl _ _⟩

end Go.Proofs.Ytmkoidbpkhiohaa

/-
  Codes of the call's own, marked. Own work.
-/
import Derived.Test.YtnbeodlgmdenlaaEZ3
import Derived.Test.YtnbeodlgmdenlaaOwnM
namespace Go.Proofs.Ytnbeodlgmdenlaa
open Go.RowKit
set_option linter.unusedVariables false

theorem Touch.mono {lo hi lo' hi' : Nat} {w w' : World} (t : Touch lo hi w w') (h1 : lo' ≤ lo) (h2 : hi ≤ hi') : Touch lo' hi' w w' :=
  ⟨t.os, t.tape, t.output, t.size, fun k hk hd => t.block k hk (by omega)⟩

theorem VlX.carry {w w' : World} {g : Nat} {cs cs' : Array Value} {o q : Nat} {x : Vl} (h : VlX w g cs o q x) (hc : ∀ p, o ≤ p → p < o + 4 → cs'[p]? = cs[p]?) (hb : w'.heap[q]? = w.heap[q]?) : VlX w' g cs' o q x := by
  obtain ⟨nn, c0, c1, c2, c3, hN⟩ := h
  exact ⟨nn, (hc _ (by omega) (by omega)).trans c0, (hc _ (by omega) (by omega)).trans c1, (hc _ (by omega) (by omega)).trans c2, (hc _ (by omega) (by omega)).trans c3, owns_of_block hN (fun y hy => by cases hy; exact hb)⟩

/-- the values from j on are as they were -/
def LeftV (w : World) (g hi n : Nat) (N : List Vl) (j : Nat) : Prop := ∃ (cs : Array Value) (qf : Nat → Nat), Row w g cs 45 ∧ cs.size = n * 4 ∧ (∀ i, j ≤ i → (h : i < N.length) → VlX w g cs (i * 4) (qf i) N[i]) ∧ (∀ i i', i < i' → i' < N.length → qf i < qf i') ∧ ∀ i, i < N.length → qf i < hi

theorem HiB.left {w : World} {g hi n : Nat} {N : List Vl} (h : HiB w g hi n N) : LeftV w g hi n N 0 := by
  obtain ⟨hg, cs, qf, R, hz, hx, hq, hh⟩ := h
  exact ⟨cs, qf, R, hz, fun i _ hi => hx i hi, hq, hh⟩

theorem set_ne' {cs : Array Value} {p q : Nat} (h : p ≠ q) (v : Value) : (cs.setIfInBounds p v)[q]? = cs[q]? := by
  rw [Array.getElem?_setIfInBounds, if_neg h]

theorem owns_at {w : World} {base q n c : Nat} {xs : List Value} (h : w.ownsRow base 9 1 (.slice (some ⟨q, 0, none⟩) n c) n xs) : w.ownsRow q 9 1 (.slice (some ⟨q, 0, none⟩) n c) n xs := by
  refine ⟨h.1, ?_⟩
  rcases h.2 with ⟨h2, _⟩ | ⟨g, cap, cur, hv, h3, h4⟩
  · cases h2
  · have hv' := hv
    simp only [Value.slice.injEq, Option.some.injEq, Addr.mk.injEq] at hv'
    exact .inr ⟨g, cap, cur, hv, by omega, h4⟩

set_option maxRecDepth 100000 in
set_option maxHeartbeats 3200000 in
theorem markValueS_any (g hi n : Nat) (N : List Vl) (k : Nat) (w : World) (h : HiB w g hi n N) (hl : N.length = n) (hs : ∀ x ∈ N, smallVl x) (hk : k + 3 * n + sumN N ≤ 1073741824) :
    Calls Try.prog 25 #[.slice (some ⟨g, 0, none⟩) n n, .int .i64 k] w fun e w' => e = .returned (.int .i64 ((k + 3 * n + sumN N : Nat) : Int)) ∧ Touch g hi w w' := by
  have hgi := h.1
  have H0 := h.left
  have hgw : g < w.heap.size := by obtain ⟨cs, qf, R, _⟩ := H0; exact R.lt
  have Hl := hide hl
  have Hs := hide hs
  have HK := hide hk
  have hnn1 : n ≤ 1073741824 := by omega
  clear h hl hs hk
  go_enter Try.func25, Try.ntmps25
  go_wp2
  go_loopw [1, 5] (fun q i wr => ∃ (j : Nat) (z : Int), j ≤ n ∧ i = .int .i64 j ∧ q = .int .i64 z ∧ z = ((k + 3 * j + sumN (N.take j) : Nat) : Int) ∧ LeftV wr g hi n N j ∧ Touch g hi w wr) (fun _ i _ => n - (intOf i).toNat)
  case atStart => exact ⟨0, k, Nat.zero_le _, rfl, rfl, by simp [sumN], H0, Touch.refl _ _ _⟩
  case round =>
    obtain ⟨j, z, hj, rfl, rfl, hz, ⟨cs, qf, R, hcs, hx, hq, hh⟩, ht⟩ := hrel
    by_cases hlt : j < n
    · have hjl : j < N.length := by rw [unhide Hl]; exact hlt
      have ilt : (j : Int) < (n : Int) := by omega
      have hsum : sumN (N.take j) + N[j].names.length ≤ sumN N := by
        rw [← sumN_succ N j hjl]
        conv => rhs; rw [← List.take_append_drop (j + 1) N]
        simp only [sumN, List.map_append, List.sum_append]
        omega
      have hK := unhide HK
      have z0 : 0 ≤ z := by omega
      have z1 : z + 3 + N[j].names.length ≤ 1073741824 := by omega
      obtain ⟨nn, c0, c1, c2, c3, hN⟩ := hx j (Nat.le_refl _) hjl
      have hqj := (hx j (Nat.le_refl _) hjl).q
      have hqh := hh j hjl
      have hnn : nn = N[j].names.length := by have := hN.1; simpa using this.symm
      have hsz : ∀ i, i < nn → (nth N[j].names i).size ≤ maxLen := fun i hi' => by
        have h1 := (unhide Hs N[j] (List.getElem_mem hjl)).2.2
        have hi2 : i < N[j].names.length := by omega
        rw [nth_eq _ i hi2]
        have : N[j].names[i].size ≤ tot N[j].names := by
          unfold tot
          exact le_sum_mem (List.mem_map.2 ⟨_, List.getElem_mem hi2, rfl⟩)
        unfold maxLen; omega
      have HZ := hide (show z + 3 + nn = ((k + 3 * (j + 1) + sumN (N.take (j + 1)) : Nat) : Int) by rw [sumN_succ N j hjl, hz, hnn]; push_cast; omega)
      have z1 : z + 3 + nn ≤ 1073741824 := by omega
      have Hlt := hide hlt
      have Hq := hide hq
      have Hh := hide hh
      have Hx := hide hx
      have Hcs := hide hcs
      have Hsz := hide hsz
      have f1 := fun i => R.frozen i
      have d0 := (R.cell (j * 4)).trans c0
      have d1 := (R.cell (j * 4 + 1)).trans c1
      generalize N[j].names = nm at hN Hsz
      clear hz hnn hsum hK hx hq hh hcs hsz
      generalize hx0 : N[j].kind = x0 at c0 d0
      generalize hx1 : N[j].num = x1 at c1 d1
      generalize hx2 : N[j].text = x2 at c2
      clear hx0 hx1 hx2
      have R1 := (R.set (j * 4) (.int .i64 z)).set (j * 4 + 1) (.int .i64 (z + 1))
      have T1 : Touch g (g + 1) wr ((wr.setCell ⟨g, j * 4, none⟩ (.int .i64 z)).setCell ⟨g, j * 4 + 1, none⟩ (.int .i64 (z + 1))) := (Touch.setCell (lo := g) (hi := g + 1) wr ⟨g, j * 4, none⟩ (.int .i64 z) (Nat.le_refl _) (Nat.lt_succ_self _)).trans (Touch.setCell (lo := g) (hi := g + 1) _ ⟨g, j * 4 + 1, none⟩ (.int .i64 (z + 1)) (Nat.le_refl _) (Nat.lt_succ_self _))
      go_wp2_with fail
      generalize (wr.setCell ⟨g, j * 4, none⟩ (.int .i64 z)).setCell ⟨g, j * 4 + 1, none⟩ (.int .i64 (z + 1)) = W2 at R1 T1 ⊢
      clear d0 d1 f1
      refine (markText_int (z + 1 + 1) W2 (by omega) (by omega)).mono ?_
      rintro e w3 ⟨rfl, hb3⟩
      have R3 := R1.after hb3 (Nat.le_refl _)
      have T3 := T1.trans (Touch.of_below (lo := g) (hi := g + 1) hb3 (Nat.le_refl _))
      clear R1 T1 hb3
      have d2 := (R3.cell (j * 4 + 2)).trans ((set_ne' (by omega) _).trans ((set_ne' (by omega) _).trans c2))
      have f3 := fun i => R3.frozen i
      have R4 := R3.set (j * 4 + 2) (.string (markS (z + 1 + 1).toNat))
      have d3 := (R4.cell (j * 4 + 3)).trans ((set_ne' (by omega) _).trans ((set_ne' (by omega) _).trans ((set_ne' (by omega) _).trans c3)))
      have T4 := T3.trans (Touch.setCell (lo := g) (hi := g + 1) w3 ⟨g, j * 4 + 2, none⟩ (.string (markS (z + 1 + 1).toNat)) (Nat.le_refl _) (Nat.lt_succ_self _))
      have O4 := owns_at (owns_of_block hN (fun y hy => by cases hy; exact T4.block (qf j) hqj.2 (.inr hqj.1)))
      have Z4 := T4.size
      clear R3 T3 c0 c1 c2 c3 hN
      have Hw := hide (show w3.setCell ⟨g, j * 4 + 2, none⟩ (.string (markS (z + 1 + 1).toNat)) = w3.setCell ⟨g, j * 4 + 2, none⟩ (.string (markS (z + 1 + 1).toNat)) from rfl)
      go_wp2_with fail
      generalize w3.setCell ⟨g, j * 4 + 2, none⟩ (.string (markS (z + 1 + 1).toNat)) = W4 at R4 T4 O4 Z4 d3 Hw ⊢
      clear d2 f3 Hw
      have OO : OwnS W4 (qf j) (qf j + 1) (some ⟨qf j, 0, none⟩) nn nn nm := ⟨O4, fun x hx => by cases hx; exact Nat.lt_succ_self _, unhide Hsz, by have := hqj.2; omega⟩
      refine (markStringS_int (qf j) (qf j + 1) _ _ _ _ (z + 1 + 1 + 1) W4 OO (by omega) (by omega)).mono ?_
      rintro e w5 ⟨rfl, _, T5⟩
      have HF : Hid (LeftV w5 g hi n N (j + 1)) := hide (by
        refine ⟨_, qf, ⟨(T5.block g R4.lt (.inl hqj.1)).trans R4.out⟩, ?_, ?_, unhide Hq, unhide Hh⟩
        · simp only [Array.size_setIfInBounds]; exact unhide Hcs
        · intro i hi hil
          have hq2 := unhide Hq j i (by omega) hil
          have hX := unhide Hx i (by omega) hil
          refine hX.carry (fun p hp _ => (set_ne' (by omega) _).trans ((set_ne' (by omega) _).trans (set_ne' (by omega) _))) ?_
          have hqi := hX.q
          exact (T5.block (qf i) (by omega) (.inr (by omega))).trans (T4.block (qf i) hqi.2 (.inr (by omega))))
      have TT := (ht.trans (T4.mono (Nat.le_refl _) hgi)).trans (T5.mono (Nat.le_of_lt hqj.1) hqh)
      have HTT := hide TT
      clear R4 T4 T5 O4 OO Hx d3
      go_wp2_with fail
      go_roundw
      case rel => exact ⟨j + 1, z + 1 + 1 + 1 + nn, unhide Hlt, by go_num, by go_num, by have := unhide HZ; omega, unhide HF, unhide HTT⟩
      case measure => have := unhide Hlt; simp [intOf]; omega
    · have e : j = n := by omega
      subst e
      go_wp2
      go_ret
      refine ⟨?_, ht⟩
      rw [hz, List.take_of_length_le (by rw [unhide Hl]; exact Nat.le_refl _)]; rfl

set_option maxRecDepth 100000 in
set_option maxHeartbeats 3200000 in
theorem markInsS_any (g m : Nat) (L : List Is1) (k : Nat) (w : World) (h : HiI w g m L) (hl : L.length = m) (hk : k + 2 * m ≤ 1073741824) :
    Calls Try.prog 26 #[.slice (some ⟨g, 0, none⟩) m m, .int .i64 k] w fun e w' => e = .returned (.int .i64 ((k + 2 * m : Nat) : Int)) ∧ Touch g (g + 1) w w' := by
  have H0 : ∃ cs : Array Value, Row w g cs 50 ∧ cs.size = m * 2 := by obtain ⟨cs, R, hz, _⟩ := h; exact ⟨cs, R, hz⟩
  clear h
  go_enter Try.func26, Try.ntmps26
  go_wp2
  go_loopw [1, 5] (fun q i wr => ∃ (j : Nat) (z : Int), j ≤ m ∧ i = .int .i64 j ∧ q = .int .i64 z ∧ z = ((k + 2 * j : Nat) : Int) ∧ (∃ cs : Array Value, Row wr g cs 50 ∧ cs.size = m * 2) ∧ Touch g (g + 1) w wr) (fun _ i _ => m - (intOf i).toNat)
  case atStart => exact ⟨0, k, Nat.zero_le _, rfl, rfl, by simp, H0, Touch.refl _ _ _⟩
  case round =>
    obtain ⟨j, z, hj, rfl, rfl, hz, ⟨cs, R, hcs⟩, ht⟩ := hrel
    by_cases hlt : j < m
    · have ilt : (j : Int) < (m : Int) := by omega
      have z0 : 0 ≤ z := by omega
      have z1 : z + 2 ≤ 1073741824 := by omega
      obtain ⟨u0, e0⟩ := someAt (cs := cs) (p := j * 2) (by omega)
      obtain ⟨u1, e1⟩ := someAt (cs := cs) (p := j * 2 + 1) (by omega)
      have c0 := (R.cell (j * 2)).trans e0
      have c1 := (R.cell (j * 2 + 1)).trans e1
      have cf := fun i => R.frozen i
      have R2 := (R.set (j * 2) (.int .i64 z)).set (j * 2 + 1) (.int .i64 (z + 1))
      have T2 := (ht.trans (Touch.setCell (lo := g) (hi := g + 1) wr ⟨g, j * 2, none⟩ (.int .i64 z) (Nat.le_refl _) (Nat.lt_succ_self _))).trans (Touch.setCell (lo := g) (hi := g + 1) _ ⟨g, j * 2 + 1, none⟩ (.int .i64 (z + 1)) (Nat.le_refl _) (Nat.lt_succ_self _))
      have HR := hide R2
      have Hz := hide hz
      have Hlt := hide hlt
      have Hcs := hide hcs
      clear hz hcs e0 e1 R2 R
      go_wp2_with fail
      go_roundw
      case rel => exact ⟨j + 1, z + 1 + 1, unhide Hlt, by go_num, by go_num, by have := unhide Hz; omega, ⟨_, unhide HR, by simp only [Array.size_setIfInBounds]; exact unhide Hcs⟩, T2⟩
      case measure => have := unhide Hlt; simp [intOf]; omega
    · have e : j = m := by omega
      subst e
      go_wp2
      go_ret
      exact ⟨by rw [hz]; rfl, ht⟩

theorem markInsS_int (g m : Nat) (L : List Is1) (x : Int) (w : World) (h : HiI w g m L) (hl : L.length = m) (h0 : 0 ≤ x) (hk : x + 2 * m ≤ 1073741824) :
    Calls Try.prog 26 #[.slice (some ⟨g, 0, none⟩) m m, .int .i64 x] w fun e w' => e = .returned (.int .i64 (x + 2 * m)) ∧ Touch g (g + 1) w w' := by
  obtain ⟨k, rfl⟩ := Int.eq_ofNat_of_zero_le h0
  have := markInsS_any g m L k w h hl (by omega)
  rw [show ((k + 2 * m : Nat) : Int) = (k : Int) + 2 * (m : Int) by push_cast; rfl] at this
  exact this

theorem markValueS_int (g hi n : Nat) (N : List Vl) (x : Int) (w : World) (h : HiB w g hi n N) (hl : N.length = n) (hs : ∀ x ∈ N, smallVl x) (h0 : 0 ≤ x) (hk : x + 3 * n + sumN N ≤ 1073741824) :
    Calls Try.prog 25 #[.slice (some ⟨g, 0, none⟩) n n, .int .i64 x] w fun e w' => (∃ z : Int, e = .returned (.int .i64 z) ∧ z = x + 3 * n + sumN N) ∧ Touch g hi w w' := by
  obtain ⟨k, rfl⟩ := Int.eq_ofNat_of_zero_le h0
  refine (markValueS_any g hi n N k w h hl hs (by omega)).mono ?_
  rintro e w' ⟨rfl, T⟩
  exact ⟨⟨_, rfl, by push_cast; rfl⟩, T⟩

theorem Row.touch {w w' : World} {b lo hi : Nat} {cs : Array Value} {t : TypeId} (h : Row w b cs t) (T : Touch lo hi w w') (hd : b < lo ∨ hi ≤ b) : Row w' b cs t := ⟨(T.block b h.lt hd).trans h.out⟩

theorem HiI.touch {w w' : World} {g m lo hi : Nat} {L : List Is1} (h : HiI w g m L) (T : Touch lo hi w w') (hd : g < lo ∨ hi ≤ g) : HiI w' g m L := by
  obtain ⟨cs, R, hz, hx⟩ := h
  exact ⟨cs, R.touch T hd, hz, hx⟩

/-- a mark that is not less than 0 -/
def NonNeg (e : Ending) : Prop := ∃ z : Int, e = .returned (.int .i64 z) ∧ 0 ≤ z

set_option maxRecDepth 100000 in
set_option maxHeartbeats 1600000 in
theorem markCode_any (g1 g2 n m : Nat) (s : Int) (N : List Vl) (L : List Is1) (w : World) (h1 : HiB w g1 g2 n N) (h2 : HiI w g2 m L) (hl : N.length = n) (hm : L.length = m) (hs : smallC n m N) :
    Calls Try.prog 10 #[.agg #[.slice (some ⟨g1, 0, none⟩) n n, .int .i64 s, .slice (some ⟨g2, 0, none⟩) m m], .int .i64 1] w fun e w' => NonNeg e ∧ Touch g1 (g2 + 1) w w' := by
  obtain ⟨⟨hn, hsm, hsum⟩, hmm⟩ := hs
  have hg := h1.1
  have hg2 : g2 < w.heap.size := by obtain ⟨cs, R, _⟩ := h2; exact R.lt
  have R0 := Row.new w #[.slice (some ⟨g1, 0, none⟩) n n, .int .i64 s, .slice (some ⟨g2, 0, none⟩) m m] 32
  have B0 := (Below.refl w.heap.size w).alloc (Nat.le_refl _) (.cells #[.slice (some ⟨g1, 0, none⟩) n n, .int .i64 s, .slice (some ⟨g2, 0, none⟩) m m] 32)
  have V0 := h1.below B0 (Nat.le_refl _)
  have I0 := h2.below B0 (Nat.le_refl _)
  have Hl := hide hl
  have Hm := hide hm
  have Hsm := hide hsm
  clear hl hm hsm
  go_enter Try.func10, Try.ntmps10
  go_wp2_with (first
    | (go_at_call 25; refine (markValueS_int g1 g2 n N _ _ V0 (unhide Hl) (unhide Hsm) (by omega) (by omega)).mono ?_; rintro e w2 ⟨⟨z, rfl, hz⟩, T2⟩; have Hz := hide hz; have z0 : 0 ≤ z := (by omega); have z1 : z + 2 * m ≤ 1073741824 := (by omega); clear hz; have R2 := R0.touch T2 (.inr (by omega)); obtain ⟨q0, q1, q2⟩ := rowC R2; have I2 := I0.touch T2 (.inr (Nat.le_refl _)))
    | (go_at_call 26; refine (markInsS_int g2 m L _ _ I2 (unhide Hm) (by omega) (by omega)).mono ?_; rintro e w3 ⟨rfl, T3⟩))
  go_ret
  refine ⟨⟨_, rfl, by omega⟩, ?_⟩
  exact ((Touch.of_below B0 (Nat.le_refl _)).trans (T2.mono (Nat.le_refl _) (by omega))).trans (T3.mono (by omega) (Nat.le_refl _))

end Go.Proofs.Ytnbeodlgmdenlaa

/-
  The law's look at a code's size. Own work.
-/
import Derived.Test.YteefbljehlepjaaDoorEZ0
import Derived.Test.YteefbljehlepjaaDoorLaws
namespace Go.Proofs.YteefbljehlepjaaDoor
open Go.RowKit
set_option linter.unusedVariables false
set_option maxHeartbeats 800000 in
theorem szInsS_any (a : Option Addr) (n c : Nat) (L : Int) (w : World) (hn : n ≤ maxLen) (hL : -1 ≤ L) (hL' : L ≤ 1048576) :
    Calls Tryd.prog 10 #[.slice a n c, .int .i64 L] w fun e w' => LeftE L (n ≤ 1048576) e ∧ w' = w := by
  unfold maxLen at hn
  by_cases h0 : L - n < 0
  · go_enter Tryd.func10, Tryd.ntmps10
    go_wp2
    go_ret
    exact ⟨leftE_no _ _, rfl⟩
  · have h0' : 0 ≤ L - n := by omega
    go_enter Tryd.func10, Tryd.ntmps10
    go_wp2
    go_ret
    exact ⟨⟨_, rfl, .inr ⟨by omega, by omega, by omega⟩⟩, rfl⟩

set_option maxRecDepth 100000 in
set_option maxHeartbeats 1600000 in
theorem szValue_any (x : Vl) (an : Option Addr) (nn cn : Nat) (L : Int) (w : World) (hN : Strs w an nn cn x.names) (hs : x.text.size ≤ maxLen) (hL : -1 ≤ L) (hL' : L ≤ 1048576) :
    Calls Tryd.prog 22 #[.agg #[.int .i64 x.kind, .int .i64 x.num, .string x.text, .slice an nn cn], .int .i64 L] w fun e w' => (∃ r : Int, e = .returned (.int .i64 r) ∧ (r = -1 ∨ 0 ≤ r ∧ r + (x.names.length : Int) ≤ L ∧ smallVl x)) ∧ Below w.heap.size w w' := by
  have R0 := Row.new w #[.int .i64 x.kind, .int .i64 x.num, .string x.text, .slice an nn cn] 60
  have B0 := (Below.refl w.heap.size w).alloc (Nat.le_refl _) (.cells #[.int .i64 x.kind, .int .i64 x.num, .string x.text, .slice an nn cn] 60)
  have N0 := hN.below B0 (Nat.le_refl _)
  have Hn := hide hN.len
  have hs' := hs
  unfold maxLen at hs'
  clear hN
  by_cases h0 : L - x.text.size < 0
  · go_enter Tryd.func22, Tryd.ntmps22
    go_wp2
    go_ret
    exact ⟨⟨_, rfl, .inl rfl⟩, B0⟩
  · have h0' : 0 ≤ L - x.text.size := by omega
    go_enter Tryd.func22, Tryd.ntmps22
    go_wp2_with (go_at_call 41; refine (szStringS_any _ _ _ _ _ _ N0 (by omega) (by omega)).mono ?_; rintro e w2 ⟨⟨r, rfl, hr⟩, hw2⟩; rw [hw2]; clear hw2; have hr1 : -1 ≤ r ∧ r ≤ 1048576 := (by rcases hr with h | h <;> omega); have Hr := hide hr; clear hr)
    all_goals
      go_ret
      first
        | exact ⟨⟨_, rfl, .inl rfl⟩, B0⟩
        | (have a1 := unhide Hr
           have a3 := unhide Hn
           exact ⟨⟨_, rfl, .inr ⟨by omega, by omega, by omega, by omega, by omega⟩⟩, B0⟩)

set_option maxRecDepth 100000 in
set_option maxHeartbeats 1600000 in
theorem szValueS_any (a : Option Addr) (n c : Nat) (N : List Vl) (L : Int) (w : World) (h : VlsR w a n c N) (hL : -1 ≤ L) (hL' : L ≤ 1048576) :
    Calls Tryd.prog 9 #[.slice a n c, .int .i64 L] w fun e w' => LeftE L (n ≤ 1048576 ∧ (∀ x ∈ N, smallVl x) ∧ sumN N ≤ 1048576) e ∧ Below w.heap.size w w' := by
  have hn : n ≤ 9223372036854775807 := by have := h.cap; have := h.small; unfold maxLen at this; omega
  have Hl := hide h.len
  by_cases h0 : L - n < 0
  · go_enter Tryd.func9, Tryd.ntmps9
    go_wp2
    go_ret
    exact ⟨leftE_no _ _, Below.refl _ _⟩
  · have h0' : 0 ≤ L - n := by omega
    have h0b : (L - n < 0) = False := by simp; omega
    go_enter Tryd.func9, Tryd.ntmps9
    go_wp2_with fail
    go_loopw [1, 4, 5] (fun l _ i wr => ∃ (k : Nat) (r : Int), k ≤ n ∧ i = .int .i64 k ∧ l = .int .i64 r ∧ 0 ≤ r ∧ r + (sumN (N.take k) : Int) ≤ L ∧ Below w.heap.size w wr ∧ Hid (∀ j, (hj : j < N.length) → j < k → smallVl N[j])) (fun _ _ i _ => n - (intOf i).toNat)
    case atStart => exact ⟨0, L - n, by omega, rfl, rfl, by omega, by simp [sumN]; omega, Below.refl _ _, hide (fun j _ h => absurd h (by omega))⟩
    case round =>
      obtain ⟨k, r, hk, rfl, rfl, hr0, hrL, B1, Ha⟩ := hrel
      by_cases hlt : k < n
      · have ilt : (k : Int) < (n : Int) := by omega
        have hkl : k < N.length := by rw [unhide Hl]; exact hlt
        have hsz := h.sizes N[k] (List.getElem_mem hkl)
        obtain ⟨b', off, rfl, hb, an, nn, cn, c0, c1, c2, c3, hNm⟩ := (h.below B1 (Nat.le_refl _)).cells k hkl
        have HY := hide (show smallVl N[k] → ∀ j, (hj : j < N.length) → j < k + 1 → smallVl N[j] from fun e j hj h' => by
          by_cases ej : j = k
          · subst ej; exact e
          · exact unhide Ha j hj (by omega))
        have Hlt := hide hlt
        have HSS := hide (sumN_succ N k hkl)
        clear Ha
        generalize N[k] = x at c0 c1 c2 c3 hNm hsz HY HSS
        generalize sumN (N.take k) = S at hrL HSS
        go_wp2_with (go_at_call 22; refine (szValue_any x an nn cn _ _ hNm hsz (by omega) (by omega)).mono ?_; rintro e w2 ⟨⟨r2, rfl, hr2⟩, hb2⟩; have Hr2 := hide hr2; clear hr2)
        · go_ret
          exact ⟨leftE_no _ _, B1.trans (hb2.mono B1.size)⟩
        · have a1 := unhide Hr2
          have a2 := unhide Hlt
          exact ⟨⟨k + 1, r2, a2, by go_num, rfl, by omega, by rw [unhide HSS]; rcases a1 with e | e; omega; (have := e.2.1; rw [Int.natCast_add]; omega), B1.trans (hb2.mono B1.size), hide (unhide HY (by rcases a1 with e | e; omega; exact e.2.2))⟩, by simp [intOf]; omega⟩
      · have HX := hide (show n ≤ 1048576 ∧ (∀ x ∈ N, smallVl x) ∧ sumN N ≤ 1048576 from ⟨by omega, fun x hx => by
          obtain ⟨j, hj, rfl⟩ := List.getElem_of_mem hx
          exact unhide Ha j hj (by have := unhide Hl; omega), by
          rw [List.take_of_length_le (by rw [unhide Hl]; omega)] at hrL
          omega⟩)
        have hrL' : r ≤ L := by omega
        go_wp2_with fail
        go_ret
        exact ⟨⟨_, rfl, .inr ⟨hr0, hrL', unhide HX⟩⟩, B1⟩

set_option maxHeartbeats 1600000 in
theorem szCode_any (a b : Option Addr) (n c m d : Nat) (s : Int) (N : List Vl) (L : List Is1) (w : World) (h1 : VlsR w a n c N) (h2 : IssR w b m d L) :
    Calls Tryd.prog 4 #[.agg #[.slice a n c, .int .i64 s, .slice b m d], .int .i64 1048576] w fun e w' => LeftE 1048576 (smallC n m N) e ∧ Below w.heap.size w w' := by
  have R0 := Row.new w #[.slice a n c, .int .i64 s, .slice b m d] 25
  have B0 := (Below.refl w.heap.size w).alloc (Nat.le_refl _) (.cells #[.slice a n c, .int .i64 s, .slice b m d] 25)
  have N0 := h1.below B0 (Nat.le_refl _)
  have hmm : m ≤ maxLen := Nat.le_trans h2.cap h2.small
  go_enter Tryd.func4, Tryd.ntmps4
  go_wp2_with (first
    | (go_at_call 9; refine (szValueS_any _ _ _ _ _ _ N0 (by omega) (by omega)).mono ?_; rintro e w2 ⟨⟨r, rfl, hr⟩, hb2⟩; have hr1 : -1 ≤ r ∧ r ≤ 1048576 := (by rcases hr with h | h <;> omega); have Hr := hide hr; clear hr; have q0 := (R0.after hb2 (Nat.le_refl _)).cell 0; have q2 := (R0.after hb2 (Nat.le_refl _)).cell 2; simp only [List.getElem?_toArray, List.getElem?_cons_succ, List.getElem?_cons_zero] at q0 q2; have E2 := B0.trans (hb2.mono B0.size))
    | (go_at_call 10; refine (szInsS_any _ _ _ _ _ hmm (by omega) (by omega)).mono ?_; rintro e w3 ⟨⟨r2, rfl, hr2⟩, hw3⟩; rw [hw3]; clear hw3; have Hr2 := hide hr2; clear hr2))
  · go_ret
    exact ⟨leftE_no _ _, E2⟩
  · go_ret
    exact ⟨leftE_no _ _, E2⟩
  · go_ret
    have a1 := unhide Hr
    have a2 := unhide Hr2
    refine ⟨⟨_, rfl, .inr ⟨by omega, by omega, ?_, ?_⟩⟩, E2⟩
    · rcases a1 with e | e
      · omega
      · exact e.2.2
    · rcases a2 with e | e
      · omega
      · exact e.2.2

end Go.Proofs.YteefbljehlepjaaDoor

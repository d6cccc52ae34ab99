/-
  A policy of any size in memory, and the law's look at its size. Own work.
-/
import Derived.Test.YtiaijhkcnfpamaaDoorVPH
import Derived.Test.YtiaijhkcnfpamaaDoorLaws
namespace Go.Proofs.YtiaijhkcnfpamaaDoor
open Go.RowKit
set_option linter.unusedVariables false

/-- numbers, of any length -/
structure IntsR (w : World) (a : Option Addr) (n c : Nat) (L : List Int) : Prop where
  len : L.length = n
  cap : n ≤ c
  small : c ≤ maxLen
  cells : ∀ j, (h : j < L.length) → ∃ b off, a = some ⟨b, off, none⟩ ∧ b < w.heap.size ∧ w.cell? ⟨b, off + j, none⟩ = some (.int .i64 L[j])

def NdAtR (w : World) (b o : Nat) (x : Nd) : Prop := ∃ an nn cn ak nk ck, w.cell? ⟨b, o, none⟩ = some (.int .i64 x.op) ∧ w.cell? ⟨b, o + 1, none⟩ = some (.int .i64 x.num) ∧ w.cell? ⟨b, o + 2, none⟩ = some (.string x.text) ∧ w.cell? ⟨b, o + 3, none⟩ = some (.slice an nn cn) ∧ w.cell? ⟨b, o + 4, none⟩ = some (.slice ak nk ck) ∧ Strs w an nn cn x.names ∧ IntsR w ak nk ck x.kids

structure NdsR (w : World) (a : Option Addr) (n c : Nat) (L : List Nd) : Prop where
  len : L.length = n
  cap : n ≤ c
  small : c ≤ maxLen
  sizes : ∀ x ∈ L, x.text.size ≤ maxLen
  cells : ∀ j, (h : j < L.length) → ∃ b off, a = some ⟨b, off, none⟩ ∧ b < w.heap.size ∧ NdAtR w b (off + j * 5) L[j]

structure StsR (w : World) (a : Option Addr) (n c : Nat) (L : List St) : Prop where
  len : L.length = n
  cap : n ≤ c
  small : c ≤ maxLen
  sizes : ∀ s ∈ L, s.name.size ≤ maxLen
  cells : ∀ j, (h : j < L.length) → ∃ b off, a = some ⟨b, off, none⟩ ∧ b < w.heap.size ∧ w.cell? ⟨b, off + j * 4, none⟩ = some (.int .i64 L[j].kind) ∧ w.cell? ⟨b, off + j * 4 + 1, none⟩ = some (.string L[j].name) ∧ w.cell? ⟨b, off + j * 4 + 2, none⟩ = some (.int .i64 L[j].cond) ∧ w.cell? ⟨b, off + j * 4 + 3, none⟩ = some (.int .i64 L[j].grant)

theorem IntsR.below {w w' : World} {B : Nat} {a : Option Addr} {n c : Nat} {L : List Int} (h : IntsR w a n c L) (hb : Below B w w') (hB : w.heap.size ≤ B) : IntsR w' a n c L :=
  ⟨h.len, h.cap, h.small, fun j hj => by
    obtain ⟨b, off, ha, hl, c0⟩ := h.cells j hj
    exact ⟨b, off, ha, Nat.lt_of_lt_of_le hl hb.size, (hb.cell (p := ⟨b, off + j, none⟩) (by show b < B; omega)).trans c0⟩⟩

theorem NdAtR.below {w w' : World} {B b o : Nat} {x : Nd} (h : NdAtR w b o x) (hl : b < w.heap.size) (hb : Below B w w') (hB : w.heap.size ≤ B) : NdAtR w' b o x := by
  obtain ⟨an, nn, cn, ak, nk, ck, c0, c1, c2, c3, c4, hN, hK⟩ := h
  have hl' : b < B := by omega
  exact ⟨an, nn, cn, ak, nk, ck, (hb.cell (p := ⟨b, o, none⟩) hl').trans c0, (hb.cell (p := ⟨b, o + 1, none⟩) hl').trans c1, (hb.cell (p := ⟨b, o + 2, none⟩) hl').trans c2, (hb.cell (p := ⟨b, o + 3, none⟩) hl').trans c3, (hb.cell (p := ⟨b, o + 4, none⟩) hl').trans c4, hN.below hb hB, hK.below hb hB⟩

theorem NdsR.below {w w' : World} {B : Nat} {a : Option Addr} {n c : Nat} {L : List Nd} (h : NdsR w a n c L) (hb : Below B w w') (hB : w.heap.size ≤ B) : NdsR w' a n c L :=
  ⟨h.len, h.cap, h.small, h.sizes, fun j hj => by
    obtain ⟨b, off, ha, hl, hc⟩ := h.cells j hj
    exact ⟨b, off, ha, Nat.lt_of_lt_of_le hl hb.size, hc.below hl hb hB⟩⟩

theorem StsR.below {w w' : World} {B : Nat} {a : Option Addr} {n c : Nat} {L : List St} (h : StsR w a n c L) (hb : Below B w w') (hB : w.heap.size ≤ B) : StsR w' a n c L :=
  ⟨h.len, h.cap, h.small, h.sizes, fun j hj => by
    obtain ⟨b, off, ha, hl, c0, c1, c2, c3⟩ := h.cells j hj
    have hl' : b < B := by omega
    exact ⟨b, off, ha, Nat.lt_of_lt_of_le hl hb.size, (hb.cell (p := ⟨b, off + j * 4, none⟩) hl').trans c0, (hb.cell (p := ⟨b, off + j * 4 + 1, none⟩) hl').trans c1, (hb.cell (p := ⟨b, off + j * 4 + 2, none⟩) hl').trans c2, (hb.cell (p := ⟨b, off + j * 4 + 3, none⟩) hl').trans c3⟩⟩

/-- a node that the law lets by -/
def smallNd (x : Nd) : Prop := x.text.size ≤ 1048576 ∧ x.names.length ≤ 1048576 ∧ tot x.names ≤ 1048576 ∧ x.kids.length ≤ 1048576

/-- what a look at a size leaves: -1, or no more than there was, and then P -/
def Left (L : Int) (P : Prop) (e : Ending) : Prop := ∃ r : Int, e = .returned (.int .i64 r) ∧ (r = -1 ∨ 0 ≤ r ∧ r ≤ L ∧ P)

theorem left_no (L : Int) (P : Prop) : Left L P (.returned (.int .i64 (-1))) := ⟨_, rfl, .inl rfl⟩

set_option maxHeartbeats 800000 in
theorem szIntS_any (a : Option Addr) (n c : Nat) (L : Int) (w : World) (hn : n ≤ maxLen) (hL : -1 ≤ L) (hL' : L ≤ 1048576) :
    Calls Tryd.prog 37 #[.slice a n c, .int .i64 L] w fun e w' => Left L (n ≤ 1048576) e ∧ w' = w := by
  unfold maxLen at hn
  by_cases h0 : L - n < 0
  · go_enter Tryd.func37, Tryd.ntmps37
    go_wp2
    go_ret
    exact ⟨left_no _ _, rfl⟩
  · have h0' : 0 ≤ L - n := by omega
    go_enter Tryd.func37, Tryd.ntmps37
    go_wp2
    go_ret
    exact ⟨⟨_, rfl, .inr ⟨by omega, by omega, by omega⟩⟩, rfl⟩

set_option maxRecDepth 100000 in
set_option maxHeartbeats 1600000 in
theorem szNode_any (x : Nd) (an : Option Addr) (nn cn : Nat) (ak : Option Addr) (nk ck : Nat) (L : Int) (w : World) (hN : Strs w an nn cn x.names) (hK : nk = x.kids.length) (hk : nk ≤ maxLen) (hs : x.text.size ≤ maxLen) (hL : -1 ≤ L) (hL' : L ≤ 1048576) :
    Calls Tryd.prog 18 #[.agg #[.int .i64 x.op, .int .i64 x.num, .string x.text, .slice an nn cn, .slice ak nk ck], .int .i64 L] w fun e w' => Left L (smallNd x) e ∧ Below w.heap.size w w' := by
  have R0 := Row.new w #[.int .i64 x.op, .int .i64 x.num, .string x.text, .slice an nn cn, .slice ak nk ck] 48
  have B0 := (Below.refl w.heap.size w).alloc (Nat.le_refl _) (.cells #[.int .i64 x.op, .int .i64 x.num, .string x.text, .slice an nn cn, .slice ak nk ck] 48)
  have N0 := hN.below B0 (Nat.le_refl _)
  have Hn := hide hN.len
  have HK := hide hK
  have hs' := hs
  unfold maxLen at hs'
  clear hK hN
  by_cases h0 : L - x.text.size < 0
  · go_enter Tryd.func18, Tryd.ntmps18
    go_wp2
    go_ret
    exact ⟨left_no _ _, B0⟩
  · have h0' : 0 ≤ L - x.text.size := by omega
    go_enter Tryd.func18, Tryd.ntmps18
    go_wp2_with (first
      | (go_at_call 36; refine (szStringS_any _ _ _ _ _ _ N0 (by omega) (by omega)).mono ?_; rintro e w2 ⟨⟨r, rfl, hr⟩, hw2⟩; rw [hw2]; clear hw2; have hr1 : -1 ≤ r ∧ r ≤ 1048576 := (by rcases hr with h | h <;> omega); have Hr := hide hr; clear hr)
      | (go_at_call 37; refine (szIntS_any _ _ _ _ _ hk (by omega) (by omega)).mono ?_; rintro e w3 ⟨⟨r2, rfl, hr2⟩, hw3⟩; rw [hw3]; clear hw3; have Hr2 := hide hr2; clear hr2))
    all_goals
      go_ret
      first
        | exact ⟨left_no _ _, B0⟩
        | (have a1 := unhide Hr
           have a2 := unhide Hr2
           have a3 := unhide Hn
           have a4 := unhide HK
           exact ⟨⟨_, rfl, .inr ⟨by omega, by omega, by omega, by omega, by omega, by omega⟩⟩, B0⟩)

set_option maxRecDepth 100000 in
set_option maxHeartbeats 1600000 in
theorem szNodeS_any (a : Option Addr) (n c : Nat) (N : List Nd) (L : Int) (w : World) (h : NdsR w a n c N) (hL : -1 ≤ L) (hL' : L ≤ 1048576) :
    Calls Tryd.prog 9 #[.slice a n c, .int .i64 L] w fun e w' => Left L (n ≤ 1048576 ∧ ∀ x ∈ N, smallNd x) e ∧ Below w.heap.size w w' := by
  have hn : n ≤ 9223372036854775807 := by have := h.cap; have := h.small; unfold maxLen at this; omega
  have Hl := hide h.len
  by_cases h0 : L - n < 0
  · go_enter Tryd.func9, Tryd.ntmps9
    go_wp2
    go_ret
    exact ⟨left_no _ _, Below.refl _ _⟩
  · have h0' : 0 ≤ L - n := by omega
    have h0b : (L - n < 0) = False := by simp; omega
    go_enter Tryd.func9, Tryd.ntmps9
    go_wp2_with fail
    go_loopw [1, 4, 5] (fun l _ i wr => ∃ (k : Nat) (r : Int), k ≤ n ∧ i = .int .i64 k ∧ l = .int .i64 r ∧ 0 ≤ r ∧ r ≤ L ∧ Below w.heap.size w wr ∧ Hid (∀ j, (hj : j < N.length) → j < k → smallNd N[j])) (fun _ _ i _ => n - (intOf i).toNat)
    case atStart => exact ⟨0, L - n, by omega, rfl, rfl, by omega, by omega, Below.refl _ _, hide (fun j _ h => absurd h (by omega))⟩
    case round =>
      obtain ⟨k, r, hk, rfl, rfl, hr0, hrL, B1, Ha⟩ := hrel
      by_cases hlt : k < n
      · have ilt : (k : Int) < (n : Int) := by omega
        have hkl : k < N.length := by rw [unhide Hl]; exact hlt
        have hsz := h.sizes N[k] (List.getElem_mem hkl)
        obtain ⟨b', off, rfl, hb, an, nn, cn, ak, nk, ck, c0, c1, c2, c3, c4, hNm, hK⟩ := (h.below B1 (Nat.le_refl _)).cells k hkl
        have HY := hide (show smallNd N[k] → ∀ j, (hj : j < N.length) → j < k + 1 → smallNd N[j] from fun e j hj h' => by
          by_cases ej : j = k
          · subst ej; exact e
          · exact unhide Ha j hj (by omega))
        have Hlt := hide hlt
        have HKL := hide hK.len
        have hKs : nk ≤ maxLen := Nat.le_trans hK.cap hK.small
        clear Ha hK
        generalize N[k] = x at c0 c1 c2 c3 c4 hNm hsz HY HKL
        go_wp2_with (go_at_call 18; refine (szNode_any x an nn cn ak nk ck _ _ hNm (unhide HKL).symm hKs hsz (by omega) (by omega)).mono ?_; rintro e w2 ⟨⟨r2, rfl, hr2⟩, hb2⟩; have Hr2 := hide hr2; clear hr2)
        · go_ret
          exact ⟨left_no _ _, B1.trans (hb2.mono B1.size)⟩
        · have a1 := unhide Hr2
          have a2 := unhide Hlt
          exact ⟨⟨k + 1, r2, a2, by go_num, rfl, by omega, by omega, B1.trans (hb2.mono B1.size), hide (unhide HY (by rcases a1 with e | e; omega; exact e.2.2))⟩, by simp [intOf]; omega⟩
      · have HX := hide (show n ≤ 1048576 ∧ ∀ x ∈ N, smallNd x from ⟨by omega, fun x hx => by
          obtain ⟨j, hj, rfl⟩ := List.getElem_of_mem hx
          exact unhide Ha j hj (by have := unhide Hl; omega)⟩)
        go_wp2_with fail
        go_ret
        exact ⟨⟨_, rfl, .inr ⟨hr0, hrL, unhide HX⟩⟩, B1⟩

set_option maxHeartbeats 800000 in
theorem szStmt_any (s : St) (L : Int) (w : World) (hs : s.name.size ≤ maxLen) (hL : -1 ≤ L) (hL' : L ≤ 1048576) :
    Calls Tryd.prog 19 #[.agg #[.int .i64 s.kind, .string s.name, .int .i64 s.cond, .int .i64 s.grant], .int .i64 L] w fun e w' => Left L (s.name.size ≤ 1048576) e ∧ Below w.heap.size w w' := by
  have B0 := (Below.refl w.heap.size w).alloc (Nat.le_refl _) (.cells #[.int .i64 s.kind, .string s.name, .int .i64 s.cond, .int .i64 s.grant] 51)
  unfold maxLen at hs
  by_cases h0 : L - s.name.size < 0
  · go_enter Tryd.func19, Tryd.ntmps19
    go_wp2
    go_ret
    exact ⟨left_no _ _, B0⟩
  · have h0' : 0 ≤ L - s.name.size := by omega
    go_enter Tryd.func19, Tryd.ntmps19
    go_wp2
    go_ret
    exact ⟨⟨_, rfl, .inr ⟨by omega, by omega, by omega⟩⟩, B0⟩

set_option maxRecDepth 100000 in
set_option maxHeartbeats 1600000 in
theorem szStmtS_any (a : Option Addr) (n c : Nat) (N : List St) (L : Int) (w : World) (h : StsR w a n c N) (hL : -1 ≤ L) (hL' : L ≤ 1048576) :
    Calls Tryd.prog 10 #[.slice a n c, .int .i64 L] w fun e w' => Left L (n ≤ 1048576 ∧ ∀ x ∈ N, x.name.size ≤ 1048576) e ∧ Below w.heap.size w w' := by
  have hn : n ≤ 9223372036854775807 := by have := h.cap; have := h.small; unfold maxLen at this; omega
  have Hl := hide h.len
  by_cases h0 : L - n < 0
  · go_enter Tryd.func10, Tryd.ntmps10
    go_wp2
    go_ret
    exact ⟨left_no _ _, Below.refl _ _⟩
  · have h0' : 0 ≤ L - n := by omega
    have h0b : (L - n < 0) = False := by simp; omega
    go_enter Tryd.func10, Tryd.ntmps10
    go_wp2_with fail
    go_loopw [1, 4, 5] (fun l _ i wr => ∃ (k : Nat) (r : Int), k ≤ n ∧ i = .int .i64 k ∧ l = .int .i64 r ∧ 0 ≤ r ∧ r ≤ L ∧ Below w.heap.size w wr ∧ Hid (∀ j, (hj : j < N.length) → j < k → N[j].name.size ≤ 1048576)) (fun _ _ i _ => n - (intOf i).toNat)
    case atStart => exact ⟨0, L - n, by omega, rfl, rfl, by omega, by omega, Below.refl _ _, hide (fun j _ h => absurd h (by omega))⟩
    case round =>
      obtain ⟨k, r, hk, rfl, rfl, hr0, hrL, B1, Ha⟩ := hrel
      by_cases hlt : k < n
      · have ilt : (k : Int) < (n : Int) := by omega
        have hkl : k < N.length := by rw [unhide Hl]; exact hlt
        have hsz := h.sizes N[k] (List.getElem_mem hkl)
        obtain ⟨b', off, rfl, hb, c0, c1, c2, c3⟩ := (h.below B1 (Nat.le_refl _)).cells k hkl
        have HY := hide (show N[k].name.size ≤ 1048576 → ∀ j, (hj : j < N.length) → j < k + 1 → N[j].name.size ≤ 1048576 from fun e j hj h' => by
          by_cases ej : j = k
          · subst ej; exact e
          · exact unhide Ha j hj (by omega))
        have Hlt := hide hlt
        clear Ha
        generalize N[k] = x at c0 c1 c2 c3 hsz HY
        go_wp2_with (go_at_call 19; refine (szStmt_any x _ _ hsz (by omega) (by omega)).mono ?_; rintro e w2 ⟨⟨r2, rfl, hr2⟩, hb2⟩; have Hr2 := hide hr2; clear hr2)
        · go_ret
          exact ⟨left_no _ _, B1.trans (hb2.mono B1.size)⟩
        · have a1 := unhide Hr2
          have a2 := unhide Hlt
          exact ⟨⟨k + 1, r2, a2, by go_num, rfl, by omega, by omega, B1.trans (hb2.mono B1.size), hide (unhide HY (by rcases a1 with e | e; omega; exact e.2.2))⟩, by simp [intOf]; omega⟩
      · have HX := hide (show n ≤ 1048576 ∧ ∀ x ∈ N, x.name.size ≤ 1048576 from ⟨by omega, fun x hx => by
          obtain ⟨j, hj, rfl⟩ := List.getElem_of_mem hx
          exact unhide Ha j hj (by have := unhide Hl; omega)⟩)
        go_wp2_with fail
        go_ret
        exact ⟨⟨_, rfl, .inr ⟨hr0, hrL, unhide HX⟩⟩, B1⟩

/-- a policy that the law lets by -/
def smallP (n m : Nat) (N : List Nd) (L : List St) : Prop := (n ≤ 1048576 ∧ ∀ x ∈ N, smallNd x) ∧ m ≤ 1048576 ∧ ∀ x ∈ L, x.name.size ≤ 1048576

set_option maxHeartbeats 1600000 in
theorem szPolicy_any (a b : Option Addr) (n c m d : Nat) (N : List Nd) (L : List St) (w : World) (h1 : NdsR w a n c N) (h2 : StsR w b m d L) :
    Calls Tryd.prog 4 #[.agg #[.slice a n c, .slice b m d], .int .i64 1048576] w fun e w' => Left 1048576 (smallP n m N L) e ∧ Below w.heap.size w w' := by
  have R0 := Row.new w #[.slice a n c, .slice b m d] 25
  have B0 := (Below.refl w.heap.size w).alloc (Nat.le_refl _) (.cells #[.slice a n c, .slice b m d] 25)
  have N0 := h1.below B0 (Nat.le_refl _)
  have L0 := h2.below B0 (Nat.le_refl _)
  go_enter Tryd.func4, Tryd.ntmps4
  go_wp2_with (first
    | (go_at_call 9; refine (szNodeS_any _ _ _ _ _ _ N0 (by omega) (by omega)).mono ?_; rintro e w2 ⟨⟨r, rfl, hr⟩, hb2⟩; have hr1 : -1 ≤ r ∧ r ≤ 1048576 := (by rcases hr with h | h <;> omega); have Hr := hide hr; clear hr; have q0 := (R0.after hb2 (Nat.le_refl _)).cell 0; have q1 := (R0.after hb2 (Nat.le_refl _)).cell 1; have E2 := B0.trans (hb2.mono B0.size))
    | (go_at_call 10; refine (szStmtS_any _ _ _ _ _ _ (L0.below hb2 (Nat.le_refl _)) (by omega) (by omega)).mono ?_; rintro e w3 ⟨⟨r2, rfl, hr2⟩, hb3⟩; have Hr2 := hide hr2; clear hr2; have E3 := E2.trans (hb3.mono E2.size)))
  · go_ret
    exact ⟨left_no _ _, E2⟩
  · go_ret
    exact ⟨left_no _ _, E3⟩
  · go_ret
    have a1 := unhide Hr
    have a2 := unhide Hr2
    refine ⟨⟨_, rfl, .inr ⟨by omega, by omega, ?_, ?_⟩⟩, E3⟩
    · rcases a1 with e | e
      · omega
      · exact e.2.2
    · rcases a2 with e | e
      · omega
      · exact e.2.2

end Go.Proofs.YtiaijhkcnfpamaaDoor

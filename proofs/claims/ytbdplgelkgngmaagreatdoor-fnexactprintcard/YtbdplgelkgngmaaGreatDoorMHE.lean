/-
  VPU, VPV, VPW. Own work.
-/
import Derived.Test.YtbdplgelkgngmaaGreatDoorVPH
import Derived.Test.YtbdplgelkgngmaaGreatDoorMHC
import Derived.Test.YtbdplgelkgngmaaGreatDoorVPL
import Derived.Test.YtbdplgelkgngmaaGreatDoorMem
namespace Go.Proofs.YtbdplgelkgngmaaGreatDoor
open Go.RowKit
set_option linter.unusedVariables false

/-- numbers, of any length -/
structure IntsR (w : World) (a : Option Addr) (n c : Nat) (L : List Int) : Prop where
  len : L.length = n
  cap : n ≤ c
  small : c ≤ maxLen
  cells : ∀ j, (h : j < L.length) → ∃ b off, a = some ⟨b, off, none⟩ ∧ b < w.heap.size ∧ w.cell? ⟨b, off + j, none⟩ = some (.int .i64 L[j])

def NdAtR (w : World) (b o : Nat) (x : Nd) : Prop := ∃ an nn cn ak nk ck, w.cell? ⟨b, o, none⟩ = some (.int .i64 x.op) ∧ w.cell? ⟨b, o + 1, none⟩ = some (.int .i64 x.num) ∧ w.cell? ⟨b, o + 2, none⟩ = some (.string x.text) ∧ w.cell? ⟨b, o + 3, none⟩ = some (.slice an nn cn) ∧ w.cell? ⟨b, o + 4, none⟩ = some (.slice ak nk ck) ∧ Strs w an nn cn x.names ∧ IntsR w ak nk ck x.kids

structure NdsR (w : World) (a : Option Addr) (n c : Nat) (L : List Nd) : Prop where
  len : L.length = n
  cap : n ≤ c
  small : c ≤ maxLen
  sizes : ∀ x ∈ L, x.text.size ≤ maxLen
  cells : ∀ j, (h : j < L.length) → ∃ b off, a = some ⟨b, off, none⟩ ∧ b < w.heap.size ∧ NdAtR w b (off + j * 5) L[j]

structure StsR (w : World) (a : Option Addr) (n c : Nat) (L : List St) : Prop where
  len : L.length = n
  cap : n ≤ c
  small : c ≤ maxLen
  sizes : ∀ s ∈ L, s.name.size ≤ maxLen
  cells : ∀ j, (h : j < L.length) → ∃ b off, a = some ⟨b, off, none⟩ ∧ b < w.heap.size ∧ w.cell? ⟨b, off + j * 4, none⟩ = some (.int .i64 L[j].kind) ∧ w.cell? ⟨b, off + j * 4 + 1, none⟩ = some (.string L[j].name) ∧ w.cell? ⟨b, off + j * 4 + 2, none⟩ = some (.int .i64 L[j].cond) ∧ w.cell? ⟨b, off + j * 4 + 3, none⟩ = some (.int .i64 L[j].grant)

theorem IntsR.below {w w' : World} {B : Nat} {a : Option Addr} {n c : Nat} {L : List Int} (h : IntsR w a n c L) (hb : Below B w w') (hB : w.heap.size ≤ B) : IntsR w' a n c L :=
  ⟨h.len, h.cap, h.small, fun j hj => by
    obtain ⟨b, off, ha, hl, c0⟩ := h.cells j hj
    exact ⟨b, off, ha, Nat.lt_of_lt_of_le hl hb.size, (hb.cell (p := ⟨b, off + j, none⟩) (by show b < B; omega)).trans c0⟩⟩

theorem NdAtR.below {w w' : World} {B b o : Nat} {x : Nd} (h : NdAtR w b o x) (hl : b < w.heap.size) (hb : Below B w w') (hB : w.heap.size ≤ B) : NdAtR w' b o x := by
  obtain ⟨an, nn, cn, ak, nk, ck, c0, c1, c2, c3, c4, hN, hK⟩ := h
  have hl' : b < B := by omega
  exact ⟨an, nn, cn, ak, nk, ck, (hb.cell (p := ⟨b, o, none⟩) hl').trans c0, (hb.cell (p := ⟨b, o + 1, none⟩) hl').trans c1, (hb.cell (p := ⟨b, o + 2, none⟩) hl').trans c2, (hb.cell (p := ⟨b, o + 3, none⟩) hl').trans c3, (hb.cell (p := ⟨b, o + 4, none⟩) hl').trans c4, hN.below hb hB, hK.below hb hB⟩

theorem NdsR.below {w w' : World} {B : Nat} {a : Option Addr} {n c : Nat} {L : List Nd} (h : NdsR w a n c L) (hb : Below B w w') (hB : w.heap.size ≤ B) : NdsR w' a n c L :=
  ⟨h.len, h.cap, h.small, h.sizes, fun j hj => by
    obtain ⟨b, off, ha, hl, hc⟩ := h.cells j hj
    exact ⟨b, off, ha, Nat.lt_of_lt_of_le hl hb.size, hc.below hl hb hB⟩⟩

theorem StsR.below {w w' : World} {B : Nat} {a : Option Addr} {n c : Nat} {L : List St} (h : StsR w a n c L) (hb : Below B w w') (hB : w.heap.size ≤ B) : StsR w' a n c L :=
  ⟨h.len, h.cap, h.small, h.sizes, fun j hj => by
    obtain ⟨b, off, ha, hl, c0, c1, c2, c3⟩ := h.cells j hj
    have hl' : b < B := by omega
    exact ⟨b, off, ha, Nat.lt_of_lt_of_le hl hb.size, (hb.cell (p := ⟨b, off + j * 4, none⟩) hl').trans c0, (hb.cell (p := ⟨b, off + j * 4 + 1, none⟩) hl').trans c1, (hb.cell (p := ⟨b, off + j * 4 + 2, none⟩) hl').trans c2, (hb.cell (p := ⟨b, off + j * 4 + 3, none⟩) hl').trans c3⟩⟩

/-- a node that the law lets by -/
def smallNd (x : Nd) : Prop := x.text.size ≤ 1048576 ∧ x.names.length ≤ 1048576 ∧ tot x.names ≤ 1048576 ∧ x.kids.length ≤ 1048576

/-- what a look at a size leaves: -1, or no more than there was, and then P -/
def Left (L : Int) (P : Prop) (e : Ending) : Prop := ∃ r : Int, e = .returned (.int .i64 r) ∧ (r = -1 ∨ 0 ≤ r ∧ r ≤ L ∧ P)

theorem left_no (L : Int) (P : Prop) : Left L P (.returned (.int .i64 (-1))) := ⟨_, rfl, .inl rfl⟩

set_option maxHeartbeats 800000 in
theorem szIntS_any (a : Option Addr) (n c : Nat) (L : Int) (w : World) (hn : n ≤ maxLen) (hL : -1 ≤ L) (hL' : L ≤ 1048576) :
    Calls Tryz.prog 39 #[.slice a n c, .int .i64 L] w fun e w' => Left L (n ≤ 1048576) e ∧ w' = w := by
  unfold maxLen at hn
  by_cases h0 : L - n < 0
  · go_enter Tryz.func39, Tryz.ntmps39
    go_wp2
    go_ret
    exact ⟨left_no _ _, rfl⟩
  · have h0' : 0 ≤ L - n := by omega
    go_enter Tryz.func39, Tryz.ntmps39
    go_wp2
    go_ret
    exact ⟨⟨_, rfl, .inr ⟨by omega, by omega, by omega⟩⟩, rfl⟩

set_option maxRecDepth 100000 in
set_option maxHeartbeats 1600000 in
theorem szNode_any (x : Nd) (an : Option Addr) (nn cn : Nat) (ak : Option Addr) (nk ck : Nat) (L : Int) (w : World) (hN : Strs w an nn cn x.names) (hK : nk = x.kids.length) (hk : nk ≤ maxLen) (hs : x.text.size ≤ maxLen) (hL : -1 ≤ L) (hL' : L ≤ 1048576) :
    Calls Tryz.prog 21 #[.agg #[.int .i64 x.op, .int .i64 x.num, .string x.text, .slice an nn cn, .slice ak nk ck], .int .i64 L] w fun e w' => Left L (smallNd x) e ∧ Below w.heap.size w w' := by
  have R0 := Row.new w #[.int .i64 x.op, .int .i64 x.num, .string x.text, .slice an nn cn, .slice ak nk ck] 63
  have B0 := (Below.refl w.heap.size w).alloc (Nat.le_refl _) (.cells #[.int .i64 x.op, .int .i64 x.num, .string x.text, .slice an nn cn, .slice ak nk ck] 63)
  have N0 := hN.below B0 (Nat.le_refl _)
  have Hn := hide hN.len
  have HK := hide hK
  have hs' := hs
  unfold maxLen at hs'
  clear hK hN
  by_cases h0 : L - x.text.size < 0
  · go_enter Tryz.func21, Tryz.ntmps21
    go_wp2
    go_ret
    exact ⟨left_no _ _, B0⟩
  · have h0' : 0 ≤ L - x.text.size := by omega
    go_enter Tryz.func21, Tryz.ntmps21
    go_wp2_with (first
      | (go_at_call 38; refine (szStringS_any _ _ _ _ _ _ N0 (by omega) (by omega)).mono ?_; rintro e w2 ⟨⟨r, rfl, hr⟩, hw2⟩; rw [hw2]; clear hw2; have hr1 : -1 ≤ r ∧ r ≤ 1048576 := (by rcases hr with h | h <;> omega); have Hr := hide hr; clear hr)
      | (go_at_call 39; refine (szIntS_any _ _ _ _ _ hk (by omega) (by omega)).mono ?_; rintro e w3 ⟨⟨r2, rfl, hr2⟩, hw3⟩; rw [hw3]; clear hw3; have Hr2 := hide hr2; clear hr2))
    all_goals
      go_ret
      first
        | exact ⟨left_no _ _, B0⟩
        | (have a1 := unhide Hr
           have a2 := unhide Hr2
           have a3 := unhide Hn
           have a4 := unhide HK
           exact ⟨⟨_, rfl, .inr ⟨by omega, by omega, by omega, by omega, by omega, by omega⟩⟩, B0⟩)

set_option maxRecDepth 100000 in
set_option maxHeartbeats 1600000 in
theorem szNodeS_any (a : Option Addr) (n c : Nat) (N : List Nd) (L : Int) (w : World) (h : NdsR w a n c N) (hL : -1 ≤ L) (hL' : L ≤ 1048576) :
    Calls Tryz.prog 9 #[.slice a n c, .int .i64 L] w fun e w' => Left L (n ≤ 1048576 ∧ ∀ x ∈ N, smallNd x) e ∧ Below w.heap.size w w' := by
  have hn : n ≤ 9223372036854775807 := by have := h.cap; have := h.small; unfold maxLen at this; omega
  have Hl := hide h.len
  by_cases h0 : L - n < 0
  · go_enter Tryz.func9, Tryz.ntmps9
    go_wp2
    go_ret
    exact ⟨left_no _ _, Below.refl _ _⟩
  · have h0' : 0 ≤ L - n := by omega
    have h0b : (L - n < 0) = False := by simp; omega
    go_enter Tryz.func9, Tryz.ntmps9
    go_wp2_with fail
    go_loopw [1, 4, 5] (fun l _ i wr => ∃ (k : Nat) (r : Int), k ≤ n ∧ i = .int .i64 k ∧ l = .int .i64 r ∧ 0 ≤ r ∧ r ≤ L ∧ Below w.heap.size w wr ∧ Hid (∀ j, (hj : j < N.length) → j < k → smallNd N[j])) (fun _ _ i _ => n - (intOf i).toNat)
    case atStart => exact ⟨0, L - n, by omega, rfl, rfl, by omega, by omega, Below.refl _ _, hide (fun j _ h => absurd h (by omega))⟩
    case round =>
      obtain ⟨k, r, hk, rfl, rfl, hr0, hrL, B1, Ha⟩ := hrel
      by_cases hlt : k < n
      · have ilt : (k : Int) < (n : Int) := by omega
        have hkl : k < N.length := by rw [unhide Hl]; exact hlt
        have hsz := h.sizes N[k] (List.getElem_mem hkl)
        obtain ⟨b', off, rfl, hb, an, nn, cn, ak, nk, ck, c0, c1, c2, c3, c4, hNm, hK⟩ := (h.below B1 (Nat.le_refl _)).cells k hkl
        have HY := hide (show smallNd N[k] → ∀ j, (hj : j < N.length) → j < k + 1 → smallNd N[j] from fun e j hj h' => by
          by_cases ej : j = k
          · subst ej; exact e
          · exact unhide Ha j hj (by omega))
        have Hlt := hide hlt
        have HKL := hide hK.len
        have hKs : nk ≤ maxLen := Nat.le_trans hK.cap hK.small
        clear Ha hK
        generalize N[k] = x at c0 c1 c2 c3 c4 hNm hsz HY HKL
        go_wp2_with (go_at_call 21; refine (szNode_any x an nn cn ak nk ck _ _ hNm (unhide HKL).symm hKs hsz (by omega) (by omega)).mono ?_; rintro e w2 ⟨⟨r2, rfl, hr2⟩, hb2⟩; have Hr2 := hide hr2; clear hr2)
        · go_ret
          exact ⟨left_no _ _, B1.trans (hb2.mono B1.size)⟩
        · have a1 := unhide Hr2
          have a2 := unhide Hlt
          exact ⟨⟨k + 1, r2, a2, by go_num, rfl, by omega, by omega, B1.trans (hb2.mono B1.size), hide (unhide HY (by rcases a1 with e | e; omega; exact e.2.2))⟩, by simp [intOf]; omega⟩
      · have HX := hide (show n ≤ 1048576 ∧ ∀ x ∈ N, smallNd x from ⟨by omega, fun x hx => by
          obtain ⟨j, hj, rfl⟩ := List.getElem_of_mem hx
          exact unhide Ha j hj (by have := unhide Hl; omega)⟩)
        go_wp2_with fail
        go_ret
        exact ⟨⟨_, rfl, .inr ⟨hr0, hrL, unhide HX⟩⟩, B1⟩

set_option maxHeartbeats 800000 in
theorem szStmt_any (s : St) (L : Int) (w : World) (hs : s.name.size ≤ maxLen) (hL : -1 ≤ L) (hL' : L ≤ 1048576) :
    Calls Tryz.prog 22 #[.agg #[.int .i64 s.kind, .string s.name, .int .i64 s.cond, .int .i64 s.grant], .int .i64 L] w fun e w' => Left L (s.name.size ≤ 1048576) e ∧ Below w.heap.size w w' := by
  have B0 := (Below.refl w.heap.size w).alloc (Nat.le_refl _) (.cells #[.int .i64 s.kind, .string s.name, .int .i64 s.cond, .int .i64 s.grant] 65)
  unfold maxLen at hs
  by_cases h0 : L - s.name.size < 0
  · go_enter Tryz.func22, Tryz.ntmps22
    go_wp2
    go_ret
    exact ⟨left_no _ _, B0⟩
  · have h0' : 0 ≤ L - s.name.size := by omega
    go_enter Tryz.func22, Tryz.ntmps22
    go_wp2
    go_ret
    exact ⟨⟨_, rfl, .inr ⟨by omega, by omega, by omega⟩⟩, B0⟩

set_option maxRecDepth 100000 in
set_option maxHeartbeats 1600000 in
theorem szStmtS_any (a : Option Addr) (n c : Nat) (N : List St) (L : Int) (w : World) (h : StsR w a n c N) (hL : -1 ≤ L) (hL' : L ≤ 1048576) :
    Calls Tryz.prog 10 #[.slice a n c, .int .i64 L] w fun e w' => Left L (n ≤ 1048576 ∧ ∀ x ∈ N, x.name.size ≤ 1048576) e ∧ Below w.heap.size w w' := by
  have hn : n ≤ 9223372036854775807 := by have := h.cap; have := h.small; unfold maxLen at this; omega
  have Hl := hide h.len
  by_cases h0 : L - n < 0
  · go_enter Tryz.func10, Tryz.ntmps10
    go_wp2
    go_ret
    exact ⟨left_no _ _, Below.refl _ _⟩
  · have h0' : 0 ≤ L - n := by omega
    have h0b : (L - n < 0) = False := by simp; omega
    go_enter Tryz.func10, Tryz.ntmps10
    go_wp2_with fail
    go_loopw [1, 4, 5] (fun l _ i wr => ∃ (k : Nat) (r : Int), k ≤ n ∧ i = .int .i64 k ∧ l = .int .i64 r ∧ 0 ≤ r ∧ r ≤ L ∧ Below w.heap.size w wr ∧ Hid (∀ j, (hj : j < N.length) → j < k → N[j].name.size ≤ 1048576)) (fun _ _ i _ => n - (intOf i).toNat)
    case atStart => exact ⟨0, L - n, by omega, rfl, rfl, by omega, by omega, Below.refl _ _, hide (fun j _ h => absurd h (by omega))⟩
    case round =>
      obtain ⟨k, r, hk, rfl, rfl, hr0, hrL, B1, Ha⟩ := hrel
      by_cases hlt : k < n
      · have ilt : (k : Int) < (n : Int) := by omega
        have hkl : k < N.length := by rw [unhide Hl]; exact hlt
        have hsz := h.sizes N[k] (List.getElem_mem hkl)
        obtain ⟨b', off, rfl, hb, c0, c1, c2, c3⟩ := (h.below B1 (Nat.le_refl _)).cells k hkl
        have HY := hide (show N[k].name.size ≤ 1048576 → ∀ j, (hj : j < N.length) → j < k + 1 → N[j].name.size ≤ 1048576 from fun e j hj h' => by
          by_cases ej : j = k
          · subst ej; exact e
          · exact unhide Ha j hj (by omega))
        have Hlt := hide hlt
        clear Ha
        generalize N[k] = x at c0 c1 c2 c3 hsz HY
        go_wp2_with (go_at_call 22; refine (szStmt_any x _ _ hsz (by omega) (by omega)).mono ?_; rintro e w2 ⟨⟨r2, rfl, hr2⟩, hb2⟩; have Hr2 := hide hr2; clear hr2)
        · go_ret
          exact ⟨left_no _ _, B1.trans (hb2.mono B1.size)⟩
        · have a1 := unhide Hr2
          have a2 := unhide Hlt
          exact ⟨⟨k + 1, r2, a2, by go_num, rfl, by omega, by omega, B1.trans (hb2.mono B1.size), hide (unhide HY (by rcases a1 with e | e; omega; exact e.2.2))⟩, by simp [intOf]; omega⟩
      · have HX := hide (show n ≤ 1048576 ∧ ∀ x ∈ N, x.name.size ≤ 1048576 from ⟨by omega, fun x hx => by
          obtain ⟨j, hj, rfl⟩ := List.getElem_of_mem hx
          exact unhide Ha j hj (by have := unhide Hl; omega)⟩)
        go_wp2_with fail
        go_ret
        exact ⟨⟨_, rfl, .inr ⟨hr0, hrL, unhide HX⟩⟩, B1⟩

/-- a policy that the law lets by -/
def smallP (n m : Nat) (N : List Nd) (L : List St) : Prop := (n ≤ 1048576 ∧ ∀ x ∈ N, smallNd x) ∧ m ≤ 1048576 ∧ ∀ x ∈ L, x.name.size ≤ 1048576

set_option maxHeartbeats 1600000 in
theorem szPolicy_any (a b : Option Addr) (n c m d : Nat) (N : List Nd) (L : List St) (w : World) (h1 : NdsR w a n c N) (h2 : StsR w b m d L) :
    Calls Tryz.prog 4 #[.agg #[.slice a n c, .slice b m d], .int .i64 1048576] w fun e w' => Left 1048576 (smallP n m N L) e ∧ Below w.heap.size w w' := by
  have R0 := Row.new w #[.slice a n c, .slice b m d] 25
  have B0 := (Below.refl w.heap.size w).alloc (Nat.le_refl _) (.cells #[.slice a n c, .slice b m d] 25)
  have N0 := h1.below B0 (Nat.le_refl _)
  have L0 := h2.below B0 (Nat.le_refl _)
  go_enter Tryz.func4, Tryz.ntmps4
  go_wp2_with (first
    | (go_at_call 9; refine (szNodeS_any _ _ _ _ _ _ N0 (by omega) (by omega)).mono ?_; rintro e w2 ⟨⟨r, rfl, hr⟩, hb2⟩; have hr1 : -1 ≤ r ∧ r ≤ 1048576 := (by rcases hr with h | h <;> omega); have Hr := hide hr; clear hr; have q0 := (R0.after hb2 (Nat.le_refl _)).cell 0; have q1 := (R0.after hb2 (Nat.le_refl _)).cell 1; have E2 := B0.trans (hb2.mono B0.size))
    | (go_at_call 10; refine (szStmtS_any _ _ _ _ _ _ (L0.below hb2 (Nat.le_refl _)) (by omega) (by omega)).mono ?_; rintro e w3 ⟨⟨r2, rfl, hr2⟩, hb3⟩; have Hr2 := hide hr2; clear hr2; have E3 := E2.trans (hb3.mono E2.size)))
  · go_ret
    exact ⟨left_no _ _, E2⟩
  · go_ret
    exact ⟨left_no _ _, E3⟩
  · go_ret
    have a1 := unhide Hr
    have a2 := unhide Hr2
    refine ⟨⟨_, rfl, .inr ⟨by omega, by omega, ?_, ?_⟩⟩, E3⟩
    · rcases a1 with e | e
      · omega
      · exact e.2.2
    · rcases a2 with e | e
      · omega
      · exact e.2.2

end Go.Proofs.YtbdplgelkgngmaaGreatDoor

namespace Go.Proofs.YtbdplgelkgngmaaGreatDoor
open Go.RowKit
set_option linter.unusedVariables false

theorem half_int (L : List Int) (n k : Nat) (hn : n = L.length) (hk : k < n) : (((L.take k).map (Value.int .i64)) ++ List.replicate (n - k) (Value.int .i64 0)).set k (.int .i64 (L[k]'(by omega))) = ((L.take (k + 1)).map (Value.int .i64)) ++ List.replicate (n - (k + 1)) (Value.int .i64 0) := by
  have h1 : ((L.take k).map (Value.int .i64)).length = k := by rw [List.length_map, List.length_take]; omega
  rw [List.set_append_right _ _ (by omega), h1, Nat.sub_self, show n - k = (n - (k + 1)) + 1 by omega, List.replicate_succ, List.set_cons_zero, List.take_succ_eq_append_getElem (by omega), List.map_append, List.append_assoc]
  rfl

theorem half_int_at (L : List Int) (n k : Nat) (hn : n = L.length) (hk : k < n) : (((L.take k).map (Value.int .i64)) ++ List.replicate (n - k) (Value.int .i64 0))[k]? = some (.int .i64 0) := by
  have h1 : ((L.take k).map (Value.int .i64)).length = k := by rw [List.length_map, List.length_take]; omega
  rw [List.getElem?_append_right (by omega), h1, Nat.sub_self, List.getElem?_replicate, if_pos (by omega)]

set_option maxHeartbeats 800000 in
theorem toIntS_any (a : Option Addr) (n c : Nat) (L : List Int) (w : World) (h : IntsR w a n c L) (hsm : n ≤ 1048576) :
    Calls Tryz.prog 46 #[.slice a n c] w fun e w' => e = .returned (.slice (some ⟨w.heap.size, 0, none⟩) n n) ∧ Below w.heap.size w w' ∧ w'.ownsRow w.heap.size 3 1 (.slice (some ⟨w.heap.size, 0, none⟩) n n) n (intsV L) := by
  obtain ⟨i, hi, hz0, hz1, hz2⟩ := info_parts infoI
  have Hl := hide h.len
  go_enter Tryz.func46, Tryz.ntmps46
  go_wp2_with (at_make; refine wpList_make_full _ rfl _ _ 61 rfl w.heap.size 3 i (.int .i64 0) 1 Tryz.underlying61 hi hz0 hz1 _ _ _ _ n rfl rfl rfl rfl ?b2 ?b3 ?b4 ?_)
  case b2 => rw [hz2]; omega
  case b3 => unfold maxLen; omega
  case b4 => exact Nat.le_refl _
  intro w1 hown hgrow
  have hb1 : Below w.heap.size w w1 := (Below.refl _ _).grown hgrow (Nat.le_refl _) (fun k hk => by cases hk)
  clear hgrow
  have hown1 : w1.ownsRow w.heap.size 3 1 (.slice (some ⟨w.heap.size, 0, none⟩) n n) n (((L.take 0).map (Value.int .i64)) ++ List.replicate (n - 0) (Value.int .i64 0)) := by
    simp only [List.take_zero, List.map_nil, List.nil_append, Nat.sub_zero]
    rw [← toList_madeCells_one, ← Nat.mul_one n]
    simpa using hown
  clear hown
  go_wp2
  go_loopw [4] (fun i wr => ∃ k : Nat, k ≤ n ∧ i = .int .i64 k ∧ wr.ownsRow w.heap.size 3 1 (.slice (some ⟨w.heap.size, 0, none⟩) n n) n (((L.take k).map (Value.int .i64)) ++ List.replicate (n - k) (Value.int .i64 0)) ∧ Below w.heap.size w wr) (fun i _ => n - (intOf i).toNat)
  case atStart => exact ⟨0, Nat.zero_le _, rfl, hown1, hb1⟩
  case round =>
    obtain ⟨k, hk, rfl, hown, hb⟩ := hrel
    clear hown1 hb1
    by_cases hlt : k < n
    · have hkl : k < L.length := by rw [unhide Hl]; exact hlt
      obtain ⟨b, off, rfl, _, hc⟩ := (h.below hb (Nat.le_refl _)).cells k hkl
      have hfz := hown.frozenAt k
      have hck := (hown.cellAt k (by omega)).trans (half_int_at L n k (unhide Hl).symm hlt)
      have Hst := hide (hown.stored k (.int .i64 L[k])).1
      have HH := hide (half_int L n k (unhide Hl).symm hlt)
      have Hlt := hide hlt
      clear hown
      generalize L[k] = x at hc Hst HH
      go_wp2
      go_roundw
      case rel => exact ⟨k + 1, unhide Hlt, by go_num, by rw [← unhide HH]; exact unhide Hst, hb.setCell (Nat.le_refl _) _⟩
      case measure => have := unhide Hlt; simp [intOf]; omega
    · have e : k = n := by omega
      subst e
      go_wp2
      go_ret
      refine ⟨rfl, hb, ?_⟩
      rw [List.take_of_length_le (by rw [unhide Hl]; exact Nat.le_refl _), Nat.sub_self] at hown
      simpa [intsV] using hown

theorem Ints.setFar {w : World} {a : Option Addr} {n c : Nat} {L : List Int} (h : Ints w a n c L) {p : Addr} (hp : ∀ x, a = some x → p.block ≠ x.block) (u : Value) : Ints (w.setCell p u) a n c L :=
  ⟨h.len, h.small, fun j hj => by
    obtain ⟨b, off, ha, hlt, hc⟩ := h.cells j hj
    refine ⟨b, off, ha, by simpa using hlt, ?_⟩
    rw [← hc]
    exact World.cell?_of_block (heap_setCell_other w p b u (fun e => hp _ ha e.symm))⟩

set_option maxRecDepth 100000 in
set_option maxHeartbeats 1600000 in
theorem toNode_any (x : Nd) (an : Option Addr) (nn cn : Nat) (ak : Option Addr) (nk ck : Nat) (w : World) (h1 : Strs w an nn cn x.names) (h2 : IntsR w ak nk ck x.kids) (k1 : nn ≤ 1048576) (k2 : nk ≤ 1048576) :
    Calls Tryz.prog 28 #[.agg #[.int .i64 x.op, .int .i64 x.num, .string x.text, .slice an nn cn, .slice ak nk ck]] w fun e w' =>
      ∃ x1 x2, e = .returned (.agg #[.int .i64 x.op, .int .i64 x.num, .string x.text, .slice (some x1) nn nn, .slice (some x2) nk nk]) ∧ Strs w' (some x1) nn nn x.names ∧ Ints w' (some x2) nk nk x.kids ∧ w.heap.size ≤ x1.block ∧ w.heap.size ≤ x2.block ∧ Below w.heap.size w w' := by
  go_enter Tryz.func28, Tryz.ntmps28
  go_wp2_with fail
  have B0 := ((((Below.refl w.heap.size w).alloc (Nat.le_refl _) (.cells #[.int .i64 x.op, .int .i64 x.num, .string x.text, .slice an nn cn, .slice ak nk ck] 63)).alloc (by simp) (.cells #[.int .i64 0, .int .i64 0, .string ⟨#[]⟩, .slice none 0 0, .slice none 0 0] 67)).alloc (by simp; omega) (.cells #[.int .i64 x.op, .int .i64 x.num, .string x.text, .slice none 0 0, .slice none 0 0] 67))
  have R0 := ((Row.new w #[.int .i64 x.op, .int .i64 x.num, .string x.text, .slice an nn cn, .slice ak nk ck] 63).alloc (.cells #[.int .i64 0, .int .i64 0, .string ⟨#[]⟩, .slice none 0 0, .slice none 0 0] 67)).alloc (.cells #[.int .i64 x.op, .int .i64 x.num, .string x.text, .slice none 0 0, .slice none 0 0] 67)
  have R1 := (Row.new (w.alloc (.cells #[.int .i64 x.op, .int .i64 x.num, .string x.text, .slice an nn cn, .slice ak nk ck] 63)) #[.int .i64 0, .int .i64 0, .string ⟨#[]⟩, .slice none 0 0, .slice none 0 0] 67).alloc (.cells #[.int .i64 x.op, .int .i64 x.num, .string x.text, .slice none 0 0, .slice none 0 0] 67)
  have R2 := Row.new ((w.alloc (.cells #[.int .i64 x.op, .int .i64 x.num, .string x.text, .slice an nn cn, .slice ak nk ck] 63)).alloc (.cells #[.int .i64 0, .int .i64 0, .string ⟨#[]⟩, .slice none 0 0, .slice none 0 0] 67)) #[.int .i64 x.op, .int .i64 x.num, .string x.text, .slice none 0 0, .slice none 0 0] 67
  simp only [World.size_alloc] at R1 R2
  have Z := R2.lt
  refine (toStringS_any _ _ _ _ _ (h1.below B0 (Nat.le_refl _)) k1).mono ?_
  rintro e w1 ⟨rfl, hb1, ho1⟩
  have B1 := B0.trans (hb1.mono (by simp; omega))
  have r0 := R0.after hb1 (Nat.le_refl _)
  have r1 := R1.after hb1 (Nat.le_refl _)
  have r2 := R2.after hb1 (Nat.le_refl _)
  have z1 := hb1.size
  have s1' := Strs.of_owns ho1 h1.sizes
  have l1 := (ho1.lt _ rfl).2
  simp only [World.size_alloc] at z1 s1' l1
  clear B0 R0 R1 R2 ho1 hb1 Z
  have q0 := r0.cell 4
  have q1 := r2.cell 3
  have q2 := r2.frozen 3
  simp only [List.getElem?_toArray, List.getElem?_cons_succ, List.getElem?_cons_zero] at q0 q1
  go_wp2_with fail
  have B2 := B1.setCell (p := ⟨w.heap.size + 1 + 1, 3, none⟩) (by show w.heap.size ≤ w.heap.size + 1 + 1; omega) (.slice (some ⟨w.heap.size + 1 + 1 + 1, 0, none⟩) nn nn)
  refine (toIntS_any _ _ _ _ _ (h2.below B2 (Nat.le_refl _)) k2).mono ?_
  rintro e w2 ⟨rfl, hb2, ho2⟩
  have r1' := (r1.setFar (p := ⟨w.heap.size + 1 + 1, 3, none⟩) (by show w.heap.size + 1 ≠ w.heap.size + 1 + 1; omega) (.slice (some ⟨w.heap.size + 1 + 1 + 1, 0, none⟩) nn nn)).after hb2 (Nat.le_refl _)
  have r2' := (r2.set 3 (.slice (some ⟨w.heap.size + 1 + 1 + 1, 0, none⟩) nn nn)).after hb2 (Nat.le_refl _)
  have s1'' := (s1'.setFar (p := ⟨w.heap.size + 1 + 1, 3, none⟩) (fun x hx => by cases hx; show w.heap.size + 1 + 1 ≠ w.heap.size + 1 + 1 + 1; omega) (.slice (some ⟨w.heap.size + 1 + 1 + 1, 0, none⟩) nn nn)).below hb2 (Nat.le_refl _)
  have s2' := ints_of_row ho2 k2
  have B3 := B2.trans (hb2.mono (by simp; omega))
  have z2 := hb2.size
  have l2 := (ho2.lt _ rfl).2
  simp only [World.size_setCell] at z2 s2' l2
  clear r0 r1 r2 s1' q0 q1 q2 B1 B2 hb2 ho2
  have f1 := fun j => r1'.frozen j
  have f2 := fun j => r2'.frozen j
  have p0 := r1'.cell 0
  have p1 := r1'.cell 1
  have p2 := r1'.cell 2
  have p3 := r1'.cell 3
  have p4 := r1'.cell 4
  have q0 := r2'.cell 0
  have q1 := r2'.cell 1
  have q2 := r2'.cell 2
  have q3 := r2'.cell 3
  have q4 := r2'.cell 4
  simp at p0 p1 p2 p3 p4 q0 q1 q2 q3 q4
  go_wp2_with fail
  refine bodyPost_ret (v := .agg #[.int .i64 x.op, .int .i64 x.num, .string x.text, .slice (some ⟨w.heap.size + 1 + 1 + 1, 0, none⟩) nn nn, .slice (some ⟨w1.heap.size, 0, none⟩) nk nk]) (by simp [results, Tryz.results28, go_sem, p0, p1, p2, p3, p4]) rfl ⟨_, _, rfl, ?_, ?_, by show w.heap.size ≤ w.heap.size + 1 + 1 + 1; omega, by show w.heap.size ≤ w1.heap.size; omega, ?_⟩
  · clear p0 p1 p2 p3 p4 q0 q1 q2 q3 q4 f1 f2 r1' r2'
    refine Strs.setFar (Strs.setFar (Strs.setFar (Strs.setFar (Strs.setFar (Strs.setFar s1'' ?_ _) ?_ _) ?_ _) ?_ _) ?_ _) ?_ _
    all_goals (intro x hx; cases hx; dsimp only; omega)
  · clear p0 p1 p2 p3 p4 q0 q1 q2 q3 q4 f1 f2 r1' r2'
    refine Ints.setFar (Ints.setFar (Ints.setFar (Ints.setFar (Ints.setFar (Ints.setFar s2' ?_ _) ?_ _) ?_ _) ?_ _) ?_ _) ?_ _
    all_goals (intro x hx; cases hx; dsimp only; omega)
  · clear p0 p1 p2 p3 p4 q0 q1 q2 q3 q4 f1 f2 r1' r2'
    refine Below.setCell (Below.setCell (Below.setCell (Below.setCell (Below.setCell (Below.setCell B3 ?_ _) ?_ _) ?_ _) ?_ _) ?_ _) ?_ _
    all_goals (dsimp only; omega)

end Go.Proofs.YtbdplgelkgngmaaGreatDoor

namespace Go.Proofs.YtbdplgelkgngmaaGreatDoor
open Go.RowKit
set_option linter.unusedVariables false

theorem infoN : (Tryz.prog.info? 67).map (fun i => (i.zero, i.size, i.bytes)) = some (some (.agg #[.int .i64 0, .int .i64 0, .string ByteArray.empty, .slice none 0 0, .slice none 0 0]), 5, 80) := by kernel_rfl
theorem infoSt : (Tryz.prog.info? 39).map (fun i => (i.zero, i.size, i.bytes)) = some (some (.agg #[.int .i64 0, .string ByteArray.empty, .int .i64 0, .int .i64 0]), 4, 40) := by kernel_rfl

theorem row_of_owns {w : World} {base : Nat} {e : TypeId} {size g n c : Nat} {xs : List Value} (h : w.ownsRow base e size (.slice (some ⟨g, 0, none⟩) n c) n xs) : ∃ cur, Row w g cur e ∧ cur.size = c * size := by
  rcases h.2 with ⟨hv, _⟩ | ⟨g', cap, cur, hv, h1, h2, h3, h4, h5, h6⟩
  · cases hv
  · cases hv; exact ⟨cur, ⟨h2⟩, h5⟩

def put5A (cs : Array Value) (p : Nat) (v0 v1 v2 v3 v4 : Value) : Array Value := ((((cs.setIfInBounds p v0).setIfInBounds (p + 1) v1).setIfInBounds (p + 2) v2).setIfInBounds (p + 3) v3).setIfInBounds (p + 4) v4

theorem put5A_size (cs : Array Value) (p : Nat) (v0 v1 v2 v3 v4 : Value) : (put5A cs p v0 v1 v2 v3 v4).size = cs.size := by simp [put5A]

theorem put5A_at {cs : Array Value} {p : Nat} (h : p + 5 ≤ cs.size) (v0 v1 v2 v3 v4 : Value) : (put5A cs p v0 v1 v2 v3 v4)[p]? = some v0 ∧ (put5A cs p v0 v1 v2 v3 v4)[p + 1]? = some v1 ∧ (put5A cs p v0 v1 v2 v3 v4)[p + 2]? = some v2 ∧ (put5A cs p v0 v1 v2 v3 v4)[p + 3]? = some v3 ∧ (put5A cs p v0 v1 v2 v3 v4)[p + 4]? = some v4 := by
  unfold put5A
  refine ⟨?_, ?_, ?_, ?_, ?_⟩ <;> simp [Array.getElem?_setIfInBounds] <;> omega

theorem put5A_ne {cs : Array Value} {p q : Nat} (h : q < p) (v0 v1 v2 v3 v4 : Value) : (put5A cs p v0 v1 v2 v3 v4)[q]? = cs[q]? := by
  unfold put5A
  rw [Array.getElem?_setIfInBounds_ne (by omega), Array.getElem?_setIfInBounds_ne (by omega), Array.getElem?_setIfInBounds_ne (by omega), Array.getElem?_setIfInBounds_ne (by omega), Array.getElem?_setIfInBounds_ne (by omega)]

/-- five cells of a block, written over -/
def put5 (W : World) (b p : Nat) (v0 v1 v2 v3 v4 : Value) : World := ((((W.setCell ⟨b, p, none⟩ v0).setCell ⟨b, p + 1, none⟩ v1).setCell ⟨b, p + 2, none⟩ v2).setCell ⟨b, p + 3, none⟩ v3).setCell ⟨b, p + 4, none⟩ v4

theorem put5_row {W : World} {b p : Nat} {cs : Array Value} {t : TypeId} (h : Row W b cs t) (v0 v1 v2 v3 v4 : Value) : Row (put5 W b p v0 v1 v2 v3 v4) b (put5A cs p v0 v1 v2 v3 v4) t := ((((h.set p v0).set (p + 1) v1).set (p + 2) v2).set (p + 3) v3).set (p + 4) v4

theorem put5_below {B : Nat} {w W : World} {b p : Nat} (h : Below B w W) (hb : B ≤ b) (v0 v1 v2 v3 v4 : Value) : Below B w (put5 W b p v0 v1 v2 v3 v4) :=
  ((((h.setCell (p := ⟨b, p, none⟩) hb v0).setCell (p := ⟨b, p + 1, none⟩) hb v1).setCell (p := ⟨b, p + 2, none⟩) hb v2).setCell (p := ⟨b, p + 3, none⟩) hb v3).setCell (p := ⟨b, p + 4, none⟩) hb v4

theorem Strs.put5 {w : World} {x : Addr} {n c : Nat} {ss : List ByteArray} (h : Strs w (some x) n c ss) {b p : Nat} (hp : b ≠ x.block) (v0 v1 v2 v3 v4 : Value) : Strs (put5 w b p v0 v1 v2 v3 v4) (some x) n c ss :=
  ((((h.setFar (p := ⟨b, p, none⟩) (fun y e => by cases e; exact hp) v0).setFar (p := ⟨b, p + 1, none⟩) (fun y e => by cases e; exact hp) v1).setFar (p := ⟨b, p + 2, none⟩) (fun y e => by cases e; exact hp) v2).setFar (p := ⟨b, p + 3, none⟩) (fun y e => by cases e; exact hp) v3).setFar (p := ⟨b, p + 4, none⟩) (fun y e => by cases e; exact hp) v4

theorem Ints.put5 {w : World} {x : Addr} {n c : Nat} {ss : List Int} (h : Ints w (some x) n c ss) {b p : Nat} (hp : b ≠ x.block) (v0 v1 v2 v3 v4 : Value) : Ints (put5 w b p v0 v1 v2 v3 v4) (some x) n c ss :=
  ((((h.setFar (p := ⟨b, p, none⟩) (fun y e => by cases e; exact hp) v0).setFar (p := ⟨b, p + 1, none⟩) (fun y e => by cases e; exact hp) v1).setFar (p := ⟨b, p + 2, none⟩) (fun y e => by cases e; exact hp) v2).setFar (p := ⟨b, p + 3, none⟩) (fun y e => by cases e; exact hp) v3).setFar (p := ⟨b, p + 4, none⟩) (fun y e => by cases e; exact hp) v4

/-- a node that lies in the row already, its parts behind it -/
def NdX (w : World) (g : Nat) (cs : Array Value) (o : Nat) (x : Nd) : Prop := ∃ x1 nn x2 nk, cs[o]? = some (.int .i64 x.op) ∧ cs[o + 1]? = some (.int .i64 x.num) ∧ cs[o + 2]? = some (.string x.text) ∧ cs[o + 3]? = some (.slice (some x1) nn nn) ∧ cs[o + 4]? = some (.slice (some x2) nk nk) ∧ Strs w (some x1) nn nn x.names ∧ Ints w (some x2) nk nk x.kids ∧ g < x1.block ∧ g < x2.block

theorem NdX.step {w w2 : World} {g : Nat} {cs : Array Value} {o p : Nat} {x : Nd} (h : NdX w g cs o x) (hb : Below w.heap.size w w2) (hp : o + 5 ≤ p) (v0 v1 v2 v3 v4 : Value) : NdX (put5 w2 g p v0 v1 v2 v3 v4) g (put5A cs p v0 v1 v2 v3 v4) o x := by
  obtain ⟨x1, nn, x2, nk, c0, c1, c2, c3, c4, hN, hK, g1, g2⟩ := h
  exact ⟨x1, nn, x2, nk, (put5A_ne (by omega) _ _ _ _ _).trans c0, (put5A_ne (by omega) _ _ _ _ _).trans c1, (put5A_ne (by omega) _ _ _ _ _).trans c2, (put5A_ne (by omega) _ _ _ _ _).trans c3, (put5A_ne (by omega) _ _ _ _ _).trans c4, (hN.below hb (Nat.le_refl _)).put5 (by omega) _ _ _ _ _, (hK.below hb (Nat.le_refl _)).put5 (by omega) _ _ _ _ _, g1, g2⟩

theorem NdX.at {w : World} {g : Nat} {cs : Array Value} {o : Nat} {x : Nd} {t : TypeId} (h : NdX w g cs o x) (R : Row w g cs t) : NdAt w g o x := by
  obtain ⟨x1, nn, x2, nk, c0, c1, c2, c3, c4, hN, hK, _, _⟩ := h
  exact ⟨_, _, _, _, _, _, (R.cell _).trans c0, (R.cell _).trans c1, (R.cell _).trans c2, (R.cell _).trans c3, (R.cell _).trans c4, hN, hK⟩

/-- all nodes, in a row, their parts behind it -/
def Hi (w : World) (g : Nat) (N : List Nd) : Prop := ∃ cs, Row w g cs 67 ∧ ∀ j, (hj : j < N.length) → NdX w g cs (j * 5) N[j]

theorem Hi.nds {w : World} {g n : Nat} {N : List Nd} (h : Hi w g N) (hl : N.length = n) (hsm : n ≤ 1048576) (hs : ∀ x ∈ N, smallNd x) : Nds w (some ⟨g, 0, none⟩) n n N := by
  obtain ⟨cs, R, hx⟩ := h
  exact ⟨hl, hsm, fun x hx => (hs x hx).1, fun j hj => ⟨g, 0, rfl, R.lt, by rw [Nat.zero_add]; exact (hx j hj).at R⟩⟩

theorem Hi.below {w w' : World} {B g : Nat} {N : List Nd} (h : Hi w g N) (hb : Below B w w') (hB : w.heap.size ≤ B) : Hi w' g N := by
  obtain ⟨cs, R, hx⟩ := h
  refine ⟨cs, R.after hb hB, fun j hj => ?_⟩
  obtain ⟨x1, nn, x2, nk, c0, c1, c2, c3, c4, hN, hK, g1, g2⟩ := hx j hj
  exact ⟨x1, nn, x2, nk, c0, c1, c2, c3, c4, hN.below hb hB, hK.below hb hB, g1, g2⟩

theorem Hi.setLow {w : World} {g : Nat} {N : List Nd} (h : Hi w g N) {p : Addr} (hp : p.block < g) (u : Value) : Hi (w.setCell p u) g N := by
  obtain ⟨cs, R, hx⟩ := h
  refine ⟨cs, R.setFar (by omega) u, fun j hj => ?_⟩
  obtain ⟨x1, nn, x2, nk, c0, c1, c2, c3, c4, hN, hK, g1, g2⟩ := hx j hj
  exact ⟨x1, nn, x2, nk, c0, c1, c2, c3, c4, hN.setFar (fun y e => by cases e; omega) u, hK.setFar (fun y e => by cases e; omega) u, g1, g2⟩

theorem Sts.setFar {w : World} {g n c : Nat} {L : List St} (h : Sts w (some ⟨g, 0, none⟩) n c L) {p : Addr} (hp : p.block ≠ g) (u : Value) : Sts (w.setCell p u) (some ⟨g, 0, none⟩) n c L :=
  ⟨h.len, h.small, h.sizes, fun j hj => by
    obtain ⟨b, off, ha, hl, c0, c1, c2, c3⟩ := h.cells j hj
    cases ha
    have e : ∀ o, (w.setCell p u).cell? ⟨g, o, none⟩ = w.cell? ⟨g, o, none⟩ := fun o => World.cell?_of_block (heap_setCell_other w p g u (fun e => hp e.symm))
    exact ⟨g, 0, rfl, by simpa using hl, (e _).trans c0, (e _).trans c1, (e _).trans c2, (e _).trans c3⟩⟩

theorem some_at {cs : Array Value} {p : Nat} (h : p < cs.size) : ∃ u, cs[p]? = some u := ⟨_, Array.getElem?_eq_getElem h⟩

set_option maxRecDepth 100000 in
set_option maxHeartbeats 1600000 in
theorem toNodeS_any (a : Option Addr) (n c : Nat) (N : List Nd) (w : World) (h : NdsR w a n c N) (hsm : n ≤ 1048576) (hs : ∀ x ∈ N, smallNd x) :
    Calls Tryz.prog 13 #[.slice a n c] w fun e w' => e = .returned (.slice (some ⟨w.heap.size, 0, none⟩) n n) ∧ Below w.heap.size w w' ∧ Hi w' w.heap.size N := by
  obtain ⟨i, hi, hz0, hz1, hz2⟩ := info_parts infoN
  have Hl := hide h.len
  go_enter Tryz.func13, Tryz.ntmps13
  go_wp2_with (at_make; refine wpList_make_full _ rfl _ _ 28 rfl w.heap.size 67 i (.agg #[.int .i64 0, .int .i64 0, .string ByteArray.empty, .slice none 0 0, .slice none 0 0]) 5 Tryz.underlying28 hi hz0 hz1 _ _ _ _ n rfl rfl rfl rfl ?b2 ?b3 ?b4 ?_)
  case b2 => rw [hz2]; omega
  case b3 => unfold maxLen; omega
  case b4 => exact Nat.le_refl _
  intro w1 hown hgrow
  have hb1 : Below w.heap.size w w1 := (Below.refl _ _).grown hgrow (Nat.le_refl _) (fun k hk => by cases hk)
  clear hgrow
  obtain ⟨cs1, R1, hz⟩ := row_of_owns hown
  have Hs := hide hs
  clear hown hs
  go_wp2_with fail
  go_loopw [4] (fun i wr => ∃ (k : Nat) (cs : Array Value), k ≤ n ∧ i = .int .i64 k ∧ Row wr w.heap.size cs 67 ∧ cs.size = n * 5 ∧ Below w.heap.size w wr ∧ Hid (∀ j, (hj : j < N.length) → j < k → NdX wr w.heap.size cs (j * 5) N[j])) (fun i _ => n - (intOf i).toNat)
  case atStart => exact ⟨0, cs1, Nat.zero_le _, rfl, R1, hz, hb1, hide (fun j _ h => absurd h (by omega))⟩
  case round =>
    obtain ⟨k, cs, hk, rfl, R2, hz2, B2, Ha⟩ := hrel
    clear R1 hb1
    by_cases hlt : k < n
    · have ilt : (k : Int) < (n : Int) := by omega
      have hkl : k < N.length := by rw [unhide Hl]; exact hlt
      have hsx := unhide Hs N[k] (List.getElem_mem hkl)
      obtain ⟨b, off, rfl, hbl, an, nn, cn, ak, nk, ck, c0, c1, c2, c3, c4, hN, hK⟩ := (h.below B2 (Nat.le_refl _)).cells k hkl
      have hgl := R2.lt
      have k1 : nn ≤ 1048576 := by rw [hN.len]; exact hsx.2.1
      have k2 : nk ≤ 1048576 := by rw [← hK.len]; exact hsx.2.2.2
      have HY := hide (fun (w2 : World) (hb2 : Below wr.heap.size wr w2) (v0 v1 v2 v3 v4 : Value) (e : NdX (put5 w2 w.heap.size (k * 5) v0 v1 v2 v3 v4) w.heap.size (put5A cs (k * 5) v0 v1 v2 v3 v4) (k * 5) N[k]) => show ∀ j, (hj : j < N.length) → j < k + 1 → NdX (put5 w2 w.heap.size (k * 5) v0 v1 v2 v3 v4) w.heap.size (put5A cs (k * 5) v0 v1 v2 v3 v4) (j * 5) N[j] from fun j hj h' => by
        by_cases ej : j = k
        · subst ej; exact e
        · exact (unhide Ha j hj (by omega)).step hb2 (by omega) _ _ _ _ _)
      have Hlt := hide hlt
      have Hh := hide h
      clear Ha h hsx
      generalize N[k] = x at c0 c1 c2 c3 c4 hN hK HY
      obtain ⟨u0, e0⟩ := some_at (cs := cs) (p := k * 5) (by omega)
      obtain ⟨u1, e1⟩ := some_at (cs := cs) (p := k * 5 + 1) (by omega)
      obtain ⟨u2, e2⟩ := some_at (cs := cs) (p := k * 5 + 2) (by omega)
      obtain ⟨u3, e3⟩ := some_at (cs := cs) (p := k * 5 + 3) (by omega)
      obtain ⟨u4, e4⟩ := some_at (cs := cs) (p := k * 5 + 4) (by omega)
      have HE := hide (And.intro e0 (And.intro e1 (And.intro e2 (And.intro e3 e4))))
      clear e0 e1 e2 e3 e4
      go_wp2_with (go_at_call 28; refine (toNode_any x an nn cn ak nk ck _ hN hK k1 k2).mono ?_; rintro e w2 ⟨x1, x2, rfl, hN2, hK2, g1, g2, hb2⟩; have R3 := R2.after hb2 (Nat.le_refl _); have f3 := (fun j => R3.frozen j); have d0 := (R3.cell _).trans (unhide HE).1; have d1 := (R3.cell _).trans (unhide HE).2.1; have d2 := (R3.cell _).trans (unhide HE).2.2.1; have d3 := (R3.cell _).trans (unhide HE).2.2.2.1; have d4 := (R3.cell _).trans (unhide HE).2.2.2.2)
      obtain ⟨m0, m1, m2, m3, m4⟩ := put5A_at (cs := cs) (p := k * 5) (by omega) (.int .i64 x.op) (.int .i64 x.num) (.string x.text) (.slice (some x1) nn nn) (.slice (some x2) nk nk)
      have E2 := B2.trans (hb2.mono B2.size)
      refine ⟨⟨k + 1, _, unhide Hlt, by go_num, put5_row R3 _ _ _ _ _, by rw [put5A_size]; exact hz2, put5_below E2 (Nat.le_refl _) _ _ _ _ _, hide (unhide HY w2 hb2 _ _ _ _ _ ⟨x1, nn, x2, nk, m0, m1, m2, m3, m4, hN2.put5 (by omega) _ _ _ _ _, hK2.put5 (by omega) _ _ _ _ _, by omega, by omega⟩)⟩, by have := unhide Hlt; simp [intOf]; omega⟩
    · have e : k = n := by omega
      have HX := hide (show Hi wr w.heap.size N from ⟨cs, R2, fun j hj => unhide Ha j hj (by have := unhide Hl; omega)⟩)
      clear Ha
      have ilt : ¬ ((k : Int) < (n : Int)) := by omega
      go_wp2_with fail
      go_ret
      exact ⟨rfl, B2, unhide HX⟩

set_option maxHeartbeats 800000 in
theorem toStmt_any (s : St) (w : World) :
    Calls Tryz.prog 29 #[.agg #[.int .i64 s.kind, .string s.name, .int .i64 s.cond, .int .i64 s.grant]] w fun e w' => e = .returned (.agg #[.int .i64 s.kind, .string s.name, .int .i64 s.cond, .int .i64 s.grant]) ∧ Below w.heap.size w w' := by
  go_enter Tryz.func29, Tryz.ntmps29
  go_wp2_with fail
  refine bodyPost_ret (v := .agg #[.int .i64 s.kind, .string s.name, .int .i64 s.cond, .int .i64 s.grant]) (by simp [results, Tryz.results29, go_sem]) rfl ⟨rfl, ?_⟩
  exact (((Below.refl w.heap.size w).alloc (Nat.le_refl _) _).alloc (by simp) _).alloc (by simp; omega) _

def put4A (cs : Array Value) (p : Nat) (v0 v1 v2 v3 : Value) : Array Value := (((cs.setIfInBounds p v0).setIfInBounds (p + 1) v1).setIfInBounds (p + 2) v2).setIfInBounds (p + 3) v3

theorem put4A_size (cs : Array Value) (p : Nat) (v0 v1 v2 v3 : Value) : (put4A cs p v0 v1 v2 v3).size = cs.size := by simp [put4A]

theorem put4A_at {cs : Array Value} {p : Nat} (h : p + 4 ≤ cs.size) (v0 v1 v2 v3 : Value) : (put4A cs p v0 v1 v2 v3)[p]? = some v0 ∧ (put4A cs p v0 v1 v2 v3)[p + 1]? = some v1 ∧ (put4A cs p v0 v1 v2 v3)[p + 2]? = some v2 ∧ (put4A cs p v0 v1 v2 v3)[p + 3]? = some v3 := by
  unfold put4A
  refine ⟨?_, ?_, ?_, ?_⟩ <;> simp [Array.getElem?_setIfInBounds] <;> omega

theorem put4A_ne {cs : Array Value} {p q : Nat} (h : q < p) (v0 v1 v2 v3 : Value) : (put4A cs p v0 v1 v2 v3)[q]? = cs[q]? := by
  unfold put4A
  rw [Array.getElem?_setIfInBounds_ne (by omega), Array.getElem?_setIfInBounds_ne (by omega), Array.getElem?_setIfInBounds_ne (by omega), Array.getElem?_setIfInBounds_ne (by omega)]

/-- a statement that lies in the row already -/
def StX (cs : Array Value) (o : Nat) (s : St) : Prop := cs[o]? = some (.int .i64 s.kind) ∧ cs[o + 1]? = some (.string s.name) ∧ cs[o + 2]? = some (.int .i64 s.cond) ∧ cs[o + 3]? = some (.int .i64 s.grant)

theorem StX.step {cs : Array Value} {o p : Nat} {s : St} (h : StX cs o s) (hp : o + 4 ≤ p) (v0 v1 v2 v3 : Value) : StX (put4A cs p v0 v1 v2 v3) o s :=
  ⟨(put4A_ne (by omega) _ _ _ _).trans h.1, (put4A_ne (by omega) _ _ _ _).trans h.2.1, (put4A_ne (by omega) _ _ _ _).trans h.2.2.1, (put4A_ne (by omega) _ _ _ _).trans h.2.2.2⟩

set_option maxRecDepth 100000 in
set_option maxHeartbeats 1600000 in
theorem toStmtS_any (a : Option Addr) (n c : Nat) (N : List St) (w : World) (h : StsR w a n c N) (hsm : n ≤ 1048576) (hs : ∀ x ∈ N, x.name.size ≤ 1048576) :
    Calls Tryz.prog 14 #[.slice a n c] w fun e w' => e = .returned (.slice (some ⟨w.heap.size, 0, none⟩) n n) ∧ Below w.heap.size w w' ∧ Sts w' (some ⟨w.heap.size, 0, none⟩) n n N := by
  obtain ⟨i, hi, hz0, hz1, hz2⟩ := info_parts infoSt
  have Hl := hide h.len
  go_enter Tryz.func14, Tryz.ntmps14
  go_wp2_with (at_make; refine wpList_make_full _ rfl _ _ 29 rfl w.heap.size 39 i (.agg #[.int .i64 0, .string ByteArray.empty, .int .i64 0, .int .i64 0]) 4 Tryz.underlying29 hi hz0 hz1 _ _ _ _ n rfl rfl rfl rfl ?b2 ?b3 ?b4 ?_)
  case b2 => rw [hz2]; omega
  case b3 => unfold maxLen; omega
  case b4 => exact Nat.le_refl _
  intro w1 hown hgrow
  have hb1 : Below w.heap.size w w1 := (Below.refl _ _).grown hgrow (Nat.le_refl _) (fun k hk => by cases hk)
  clear hgrow
  obtain ⟨cs1, R1, hz⟩ := row_of_owns hown
  have Hs := hide hs
  clear hown hs
  go_wp2_with fail
  go_loopw [4] (fun i wr => ∃ (k : Nat) (cs : Array Value), k ≤ n ∧ i = .int .i64 k ∧ Row wr w.heap.size cs 39 ∧ cs.size = n * 4 ∧ Below w.heap.size w wr ∧ Hid (∀ j, (hj : j < N.length) → j < k → StX cs (j * 4) N[j])) (fun i _ => n - (intOf i).toNat)
  case atStart => exact ⟨0, cs1, Nat.zero_le _, rfl, R1, hz, hb1, hide (fun j _ h => absurd h (by omega))⟩
  case round =>
    obtain ⟨k, cs, hk, rfl, R2, hz2, B2, Ha⟩ := hrel
    clear R1 hb1
    by_cases hlt : k < n
    · have ilt : (k : Int) < (n : Int) := by omega
      have hkl : k < N.length := by rw [unhide Hl]; exact hlt
      obtain ⟨b, off, rfl, hbl, c0, c1, c2, c3⟩ := (h.below B2 (Nat.le_refl _)).cells k hkl
      have hgl := R2.lt
      have HY := hide (fun (v0 v1 v2 v3 : Value) (e : StX (put4A cs (k * 4) v0 v1 v2 v3) (k * 4) N[k]) => show ∀ j, (hj : j < N.length) → j < k + 1 → StX (put4A cs (k * 4) v0 v1 v2 v3) (j * 4) N[j] from fun j hj h' => by
        by_cases ej : j = k
        · subst ej; exact e
        · exact (unhide Ha j hj (by omega)).step (by omega) _ _ _ _)
      have Hlt := hide hlt
      have Hh := hide h
      clear Ha h
      generalize N[k] = x at c0 c1 c2 c3 HY
      obtain ⟨u0, e0⟩ := some_at (cs := cs) (p := k * 4) (by omega)
      obtain ⟨u1, e1⟩ := some_at (cs := cs) (p := k * 4 + 1) (by omega)
      obtain ⟨u2, e2⟩ := some_at (cs := cs) (p := k * 4 + 2) (by omega)
      obtain ⟨u3, e3⟩ := some_at (cs := cs) (p := k * 4 + 3) (by omega)
      have HE := hide (And.intro e0 (And.intro e1 (And.intro e2 e3)))
      clear e0 e1 e2 e3
      go_wp2_with (go_at_call 29; refine (toStmt_any x _).mono ?_; rintro e w2 ⟨rfl, hb2⟩; have R3 := R2.after hb2 (Nat.le_refl _); have f3 := (fun j => R3.frozen j); have d0 := (R3.cell _).trans (unhide HE).1; have d1 := (R3.cell _).trans (unhide HE).2.1; have d2 := (R3.cell _).trans (unhide HE).2.2.1; have d3 := (R3.cell _).trans (unhide HE).2.2.2)
      have E2 := B2.trans (hb2.mono B2.size)
      refine ⟨⟨k + 1, _, unhide Hlt, by go_num, (((R3.set (k * 4) _).set (k * 4 + 1) _).set (k * 4 + 2) _).set (k * 4 + 3) _, (put4A_size cs (k * 4) _ _ _ _).trans hz2, (((E2.setCell (p := ⟨w.heap.size, k * 4, none⟩) (Nat.le_refl _) _).setCell (p := ⟨w.heap.size, k * 4 + 1, none⟩) (Nat.le_refl _) _).setCell (p := ⟨w.heap.size, k * 4 + 2, none⟩) (Nat.le_refl _) _).setCell (p := ⟨w.heap.size, k * 4 + 3, none⟩) (Nat.le_refl _) _, hide (unhide HY _ _ _ _ (put4A_at (by omega) _ _ _ _))⟩, by have := unhide Hlt; simp [intOf]; omega⟩
    · have e : k = n := by omega
      have HX := hide (show Sts wr (some ⟨w.heap.size, 0, none⟩) n n N from ⟨unhide Hl, hsm, unhide Hs, fun j hj => by
        have q := unhide Ha j hj (by have := unhide Hl; omega)
        refine ⟨w.heap.size, 0, rfl, R2.lt, ?_⟩
        rw [Nat.zero_add]
        exact ⟨(R2.cell _).trans q.1, (R2.cell _).trans q.2.1, (R2.cell _).trans q.2.2.1, (R2.cell _).trans q.2.2.2⟩⟩)
      clear Ha
      have ilt : ¬ ((k : Int) < (n : Int)) := by omega
      go_wp2_with fail
      go_ret
      exact ⟨rfl, B2, unhide HX⟩

set_option maxHeartbeats 1600000 in
theorem toPolicy_any (a b : Option Addr) (n c m d : Nat) (N : List Nd) (L : List St) (w : World) (h1 : NdsR w a n c N) (h2 : StsR w b m d L) (hs : smallP n m N L) :
    Calls Tryz.prog 6 #[.agg #[.slice a n c, .slice b m d]] w fun e w' => ∃ x1 x2, e = .returned (.agg #[.slice (some x1) n n, .slice (some x2) m m]) ∧ Nds w' (some x1) n n N ∧ Sts w' (some x2) m m L ∧ Below w.heap.size w w' := by
  go_enter Tryz.func6, Tryz.ntmps6
  go_wp2_with fail
  have B0 := ((((Below.refl w.heap.size w).alloc (Nat.le_refl _) (.cells #[.slice a n c, .slice b m d] 25)).alloc (by simp) (.cells #[.slice none 0 0, .slice none 0 0] 31)).alloc (by simp; omega) (.cells #[.slice none 0 0, .slice none 0 0] 31))
  have R0 := ((Row.new w #[.slice a n c, .slice b m d] 25).alloc (.cells #[.slice none 0 0, .slice none 0 0] 31)).alloc (.cells #[.slice none 0 0, .slice none 0 0] 31)
  have R1 := (Row.new (w.alloc (.cells #[.slice a n c, .slice b m d] 25)) #[.slice none 0 0, .slice none 0 0] 31).alloc (.cells #[.slice none 0 0, .slice none 0 0] 31)
  have R2 := Row.new ((w.alloc (.cells #[.slice a n c, .slice b m d] 25)).alloc (.cells #[.slice none 0 0, .slice none 0 0] 31)) #[.slice none 0 0, .slice none 0 0] 31
  simp only [World.size_alloc] at R1 R2
  refine (toNodeS_any _ _ _ _ _ (h1.below B0 (Nat.le_refl _)) hs.1.1 hs.1.2).mono ?_
  rintro e w1 ⟨rfl, hb1, ho1⟩
  have B1 := B0.trans (hb1.mono (by simp; omega))
  have r0 := R0.after hb1 (Nat.le_refl _)
  have r1 := R1.after hb1 (Nat.le_refl _)
  have r2 := R2.after hb1 (Nat.le_refl _)
  have z1 := hb1.size
  simp only [World.size_alloc] at z1 ho1
  clear B0 R0 R1 R2 hb1
  have q0 := r0.cell 1
  have q1 := r2.cell 0
  have q2 := r2.frozen 0
  simp only [List.getElem?_toArray, List.getElem?_cons_succ, List.getElem?_cons_zero] at q0 q1
  go_wp2_with fail
  have B2 := B1.setCell (p := ⟨w.heap.size + 1 + 1, 0, none⟩) (by show w.heap.size ≤ w.heap.size + 1 + 1; omega) (.slice (some ⟨w.heap.size + 1 + 1 + 1, 0, none⟩) n n)
  refine (toStmtS_any _ _ _ _ _ (h2.below B2 (Nat.le_refl _)) hs.2.1 hs.2.2).mono ?_
  rintro e w2 ⟨rfl, hb2, ho2⟩
  have r1' := (r1.setFar (p := ⟨w.heap.size + 1 + 1, 0, none⟩) (by show w.heap.size + 1 ≠ w.heap.size + 1 + 1; omega) (.slice (some ⟨w.heap.size + 1 + 1 + 1, 0, none⟩) n n)).after hb2 (Nat.le_refl _)
  have r2' := (r2.set 0 (.slice (some ⟨w.heap.size + 1 + 1 + 1, 0, none⟩) n n)).after hb2 (Nat.le_refl _)
  have s1'' := (ho1.setLow (p := ⟨w.heap.size + 1 + 1, 0, none⟩) (by show w.heap.size + 1 + 1 < w.heap.size + 1 + 1 + 1; omega) (.slice (some ⟨w.heap.size + 1 + 1 + 1, 0, none⟩) n n)).below hb2 (Nat.le_refl _)
  have B3 := B2.trans (hb2.mono (by simp; omega))
  have z2 := hb2.size
  simp only [World.size_setCell] at z2 ho2
  clear r0 r1 r2 ho1 q0 q1 q2 B1 B2 hb2
  have f1 := fun j => r1'.frozen j
  have f2 := fun j => r2'.frozen j
  have p0 := r1'.cell 0
  have p1 := r1'.cell 1
  have q0 := r2'.cell 0
  have q1 := r2'.cell 1
  simp at p0 p1 q0 q1
  go_wp2_with fail
  refine bodyPost_ret (v := .agg #[.slice (some ⟨w.heap.size + 1 + 1 + 1, 0, none⟩) n n, .slice (some ⟨w1.heap.size, 0, none⟩) m m]) (by simp [results, Tryz.results6, go_sem, p0, p1]) rfl ⟨_, _, rfl, ?_, ?_, ?_⟩
  · refine Hi.nds ?_ h1.len hs.1.1 hs.1.2
    refine Hi.setLow (Hi.setLow (Hi.setLow s1'' ?_ _) ?_ _) ?_ _
    all_goals (dsimp only; omega)
  · refine Sts.setFar (Sts.setFar (Sts.setFar ho2 ?_ _) ?_ _) ?_ _
    all_goals (dsimp only; omega)
  · refine Below.setCell (Below.setCell (Below.setCell B3 ?_ _) ?_ _) ?_ _
    all_goals (dsimp only; omega)

end Go.Proofs.YtbdplgelkgngmaaGreatDoor

/-
  VPU, VPV. Own work.
-/
import Derived.Test.YtjapdeehnfoonaaGreatDoorMWG
import Derived.Test.YtjapdeehnfoonaaGreatDoorMWP
import Derived.Test.YtjapdeehnfoonaaGreatDoorMWJ
import Derived.Test.YtjapdeehnfoonaaGreatDoorMWB
namespace Go.Proofs.YtjapdeehnfoonaaGreatDoor
open Go.RowKit
set_option linter.unusedVariables false

/-- numbers, of any length -/
structure IntsR (w : World) (a : Option Addr) (n c : Nat) (L : List Int) : Prop where
  len : L.length = n
  cap : n ≤ c
  small : c ≤ maxLen
  cells : ∀ j, (h : j < L.length) → ∃ b off, a = some ⟨b, off, none⟩ ∧ b < w.heap.size ∧ w.cell? ⟨b, off + j, none⟩ = some (.int .i64 L[j])

def NdAtR (w : World) (b o : Nat) (x : Nd) : Prop := ∃ an nn cn ak nk ck, w.cell? ⟨b, o, none⟩ = some (.int .i64 x.op) ∧ w.cell? ⟨b, o + 1, none⟩ = some (.int .i64 x.num) ∧ w.cell? ⟨b, o + 2, none⟩ = some (.string x.text) ∧ w.cell? ⟨b, o + 3, none⟩ = some (.slice an nn cn) ∧ w.cell? ⟨b, o + 4, none⟩ = some (.slice ak nk ck) ∧ Strs w an nn cn x.names ∧ IntsR w ak nk ck x.kids

structure NdsR (w : World) (a : Option Addr) (n c : Nat) (L : List Nd) : Prop where
  len : L.length = n
  cap : n ≤ c
  small : c ≤ maxLen
  sizes : ∀ x ∈ L, x.text.size ≤ maxLen
  cells : ∀ j, (h : j < L.length) → ∃ b off, a = some ⟨b, off, none⟩ ∧ b < w.heap.size ∧ NdAtR w b (off + j * 5) L[j]

structure StsR (w : World) (a : Option Addr) (n c : Nat) (L : List St) : Prop where
  len : L.length = n
  cap : n ≤ c
  small : c ≤ maxLen
  sizes : ∀ s ∈ L, s.name.size ≤ maxLen
  cells : ∀ j, (h : j < L.length) → ∃ b off, a = some ⟨b, off, none⟩ ∧ b < w.heap.size ∧ w.cell? ⟨b, off + j * 4, none⟩ = some (.int .i64 L[j].kind) ∧ w.cell? ⟨b, off + j * 4 + 1, none⟩ = some (.string L[j].name) ∧ w.cell? ⟨b, off + j * 4 + 2, none⟩ = some (.int .i64 L[j].cond) ∧ w.cell? ⟨b, off + j * 4 + 3, none⟩ = some (.int .i64 L[j].grant)

theorem IntsR.below {w w' : World} {B : Nat} {a : Option Addr} {n c : Nat} {L : List Int} (h : IntsR w a n c L) (hb : Below B w w') (hB : w.heap.size ≤ B) : IntsR w' a n c L :=
  ⟨h.len, h.cap, h.small, fun j hj => by
    obtain ⟨b, off, ha, hl, c0⟩ := h.cells j hj
    exact ⟨b, off, ha, Nat.lt_of_lt_of_le hl hb.size, (hb.cell (p := ⟨b, off + j, none⟩) (by show b < B; omega)).trans c0⟩⟩

theorem NdAtR.below {w w' : World} {B b o : Nat} {x : Nd} (h : NdAtR w b o x) (hl : b < w.heap.size) (hb : Below B w w') (hB : w.heap.size ≤ B) : NdAtR w' b o x := by
  obtain ⟨an, nn, cn, ak, nk, ck, c0, c1, c2, c3, c4, hN, hK⟩ := h
  have hl' : b < B := by omega
  exact ⟨an, nn, cn, ak, nk, ck, (hb.cell (p := ⟨b, o, none⟩) hl').trans c0, (hb.cell (p := ⟨b, o + 1, none⟩) hl').trans c1, (hb.cell (p := ⟨b, o + 2, none⟩) hl').trans c2, (hb.cell (p := ⟨b, o + 3, none⟩) hl').trans c3, (hb.cell (p := ⟨b, o + 4, none⟩) hl').trans c4, hN.below hb hB, hK.below hb hB⟩

theorem NdsR.below {w w' : World} {B : Nat} {a : Option Addr} {n c : Nat} {L : List Nd} (h : NdsR w a n c L) (hb : Below B w w') (hB : w.heap.size ≤ B) : NdsR w' a n c L :=
  ⟨h.len, h.cap, h.small, h.sizes, fun j hj => by
    obtain ⟨b, off, ha, hl, hc⟩ := h.cells j hj
    exact ⟨b, off, ha, Nat.lt_of_lt_of_le hl hb.size, hc.below hl hb hB⟩⟩

theorem StsR.below {w w' : World} {B : Nat} {a : Option Addr} {n c : Nat} {L : List St} (h : StsR w a n c L) (hb : Below B w w') (hB : w.heap.size ≤ B) : StsR w' a n c L :=
  ⟨h.len, h.cap, h.small, h.sizes, fun j hj => by
    obtain ⟨b, off, ha, hl, c0, c1, c2, c3⟩ := h.cells j hj
    have hl' : b < B := by omega
    exact ⟨b, off, ha, Nat.lt_of_lt_of_le hl hb.size, (hb.cell (p := ⟨b, off + j * 4, none⟩) hl').trans c0, (hb.cell (p := ⟨b, off + j * 4 + 1, none⟩) hl').trans c1, (hb.cell (p := ⟨b, off + j * 4 + 2, none⟩) hl').trans c2, (hb.cell (p := ⟨b, off + j * 4 + 3, none⟩) hl').trans c3⟩⟩

/-- a node that the law lets by -/
def smallNd (x : Nd) : Prop := x.text.size ≤ 1048576 ∧ x.names.length ≤ 1048576 ∧ tot x.names ≤ 1048576 ∧ x.kids.length ≤ 1048576

/-- what a look at a size leaves: -1, or no more than there was, and then P -/
def Left (L : Int) (P : Prop) (e : Ending) : Prop := ∃ r : Int, e = .returned (.int .i64 r) ∧ (r = -1 ∨ 0 ≤ r ∧ r ≤ L ∧ P)

theorem left_no (L : Int) (P : Prop) : Left L P (.returned (.int .i64 (-1))) := ⟨_, rfl, .inl rfl⟩

set_option maxHeartbeats 800000 in
theorem szIntS_any (a : Option Addr) (n c : Nat) (L : Int) (w : World) (hn : n ≤ maxLen) (hL : -1 ≤ L) (hL' : L ≤ 1048576) :
    Calls Tryz.prog 11 #[.slice a n c, .int .i64 L] w fun e w' => Left L (n ≤ 1048576) e ∧ w' = w := by
  unfold maxLen at hn
  by_cases h0 : L - n < 0
  · go_enter Tryz.func11, Tryz.ntmps11
    go_wp2
    go_ret
    exact ⟨left_no _ _, rfl⟩
  · have h0' : 0 ≤ L - n := by omega
    go_enter Tryz.func11, Tryz.ntmps11
    go_wp2
    go_ret
    exact ⟨⟨_, rfl, .inr ⟨by omega, by omega, by omega⟩⟩, rfl⟩

set_option maxRecDepth 100000 in
set_option maxHeartbeats 1600000 in
theorem szNode_any (x : Nd) (an : Option Addr) (nn cn : Nat) (ak : Option Addr) (nk ck : Nat) (L : Int) (w : World) (hN : Strs w an nn cn x.names) (hK : nk = x.kids.length) (hk : nk ≤ maxLen) (hs : x.text.size ≤ maxLen) (hL : -1 ≤ L) (hL' : L ≤ 1048576) :
    Calls Tryz.prog 24 #[.agg #[.int .i64 x.op, .int .i64 x.num, .string x.text, .slice an nn cn, .slice ak nk ck], .int .i64 L] w fun e w' => Left L (smallNd x) e ∧ Below w.heap.size w w' := by
  have R0 := Row.new w #[.int .i64 x.op, .int .i64 x.num, .string x.text, .slice an nn cn, .slice ak nk ck] 59
  have B0 := (Below.refl w.heap.size w).alloc (Nat.le_refl _) (.cells #[.int .i64 x.op, .int .i64 x.num, .string x.text, .slice an nn cn, .slice ak nk ck] 59)
  have N0 := hN.below B0 (Nat.le_refl _)
  have Hn := hide hN.len
  have HK := hide hK
  have hs' := hs
  unfold maxLen at hs'
  clear hK hN
  by_cases h0 : L - x.text.size < 0
  · go_enter Tryz.func24, Tryz.ntmps24
    go_wp2
    go_ret
    exact ⟨left_no _ _, B0⟩
  · have h0' : 0 ≤ L - x.text.size := by omega
    go_enter Tryz.func24, Tryz.ntmps24
    go_wp2_with (first
      | (go_at_call 41; refine (szStringS_any _ _ _ _ _ _ N0 (by omega) (by omega)).mono ?_; rintro e w2 ⟨⟨r, rfl, hr⟩, hw2⟩; rw [hw2]; clear hw2; have hr1 : -1 ≤ r ∧ r ≤ 1048576 := (by rcases hr with h | h <;> omega); have Hr := hide hr; clear hr)
      | (go_at_call 11; refine (szIntS_any _ _ _ _ _ hk (by omega) (by omega)).mono ?_; rintro e w3 ⟨⟨r2, rfl, hr2⟩, hw3⟩; rw [hw3]; clear hw3; have Hr2 := hide hr2; clear hr2))
    all_goals
      go_ret
      first
        | exact ⟨left_no _ _, B0⟩
        | (have a1 := unhide Hr
           have a2 := unhide Hr2
           have a3 := unhide Hn
           have a4 := unhide HK
           exact ⟨⟨_, rfl, .inr ⟨by omega, by omega, by omega, by omega, by omega, by omega⟩⟩, B0⟩)

set_option maxRecDepth 100000 in
set_option maxHeartbeats 1600000 in
theorem szNodeS_any (a : Option Addr) (n c : Nat) (N : List Nd) (L : Int) (w : World) (h : NdsR w a n c N) (hL : -1 ≤ L) (hL' : L ≤ 1048576) :
    Calls Tryz.prog 9 #[.slice a n c, .int .i64 L] w fun e w' => Left L (n ≤ 1048576 ∧ ∀ x ∈ N, smallNd x) e ∧ Below w.heap.size w w' := by
  have hn : n ≤ 9223372036854775807 := by have := h.cap; have := h.small; unfold maxLen at this; omega
  have Hl := hide h.len
  by_cases h0 : L - n < 0
  · go_enter Tryz.func9, Tryz.ntmps9
    go_wp2
    go_ret
    exact ⟨left_no _ _, Below.refl _ _⟩
  · have h0' : 0 ≤ L - n := by omega
    have h0b : (L - n < 0) = False := by simp; omega
    go_enter Tryz.func9, Tryz.ntmps9
    go_wp2_with fail
    go_loopw [1, 4, 5] (fun l _ i wr => ∃ (k : Nat) (r : Int), k ≤ n ∧ i = .int .i64 k ∧ l = .int .i64 r ∧ 0 ≤ r ∧ r ≤ L ∧ Below w.heap.size w wr ∧ Hid (∀ j, (hj : j < N.length) → j < k → smallNd N[j])) (fun _ _ i _ => n - (intOf i).toNat)
    case atStart => exact ⟨0, L - n, by omega, rfl, rfl, by omega, by omega, Below.refl _ _, hide (fun j _ h => absurd h (by omega))⟩
    case round =>
      obtain ⟨k, r, hk, rfl, rfl, hr0, hrL, B1, Ha⟩ := hrel
      by_cases hlt : k < n
      · have ilt : (k : Int) < (n : Int) := by omega
        have hkl : k < N.length := by rw [unhide Hl]; exact hlt
        have hsz := h.sizes N[k] (List.getElem_mem hkl)
        obtain ⟨b', off, rfl, hb, an, nn, cn, ak, nk, ck, c0, c1, c2, c3, c4, hNm, hK⟩ := (h.below B1 (Nat.le_refl _)).cells k hkl
        have HY := hide (show smallNd N[k] → ∀ j, (hj : j < N.length) → j < k + 1 → smallNd N[j] from fun e j hj h' => by
          by_cases ej : j = k
          · subst ej; exact e
          · exact unhide Ha j hj (by omega))
        have Hlt := hide hlt
        have HKL := hide hK.len
        have hKs : nk ≤ maxLen := Nat.le_trans hK.cap hK.small
        clear Ha hK
        generalize N[k] = x at c0 c1 c2 c3 c4 hNm hsz HY HKL
        go_wp2_with (go_at_call 24; refine (szNode_any x an nn cn ak nk ck _ _ hNm (unhide HKL).symm hKs hsz (by omega) (by omega)).mono ?_; rintro e w2 ⟨⟨r2, rfl, hr2⟩, hb2⟩; have Hr2 := hide hr2; clear hr2)
        · go_ret
          exact ⟨left_no _ _, B1.trans (hb2.mono B1.size)⟩
        · have a1 := unhide Hr2
          have a2 := unhide Hlt
          exact ⟨⟨k + 1, r2, a2, by go_num, rfl, by omega, by omega, B1.trans (hb2.mono B1.size), hide (unhide HY (by rcases a1 with e | e; omega; exact e.2.2))⟩, by simp [intOf]; omega⟩
      · have HX := hide (show n ≤ 1048576 ∧ ∀ x ∈ N, smallNd x from ⟨by omega, fun x hx => by
          obtain ⟨j, hj, rfl⟩ := List.getElem_of_mem hx
          exact unhide Ha j hj (by have := unhide Hl; omega)⟩)
        go_wp2_with fail
        go_ret
        exact ⟨⟨_, rfl, .inr ⟨hr0, hrL, unhide HX⟩⟩, B1⟩

set_option maxHeartbeats 800000 in
theorem szStmt_any (s : St) (L : Int) (w : World) (hs : s.name.size ≤ maxLen) (hL : -1 ≤ L) (hL' : L ≤ 1048576) :
    Calls Tryz.prog 25 #[.agg #[.int .i64 s.kind, .string s.name, .int .i64 s.cond, .int .i64 s.grant], .int .i64 L] w fun e w' => Left L (s.name.size ≤ 1048576) e ∧ Below w.heap.size w w' := by
  have B0 := (Below.refl w.heap.size w).alloc (Nat.le_refl _) (.cells #[.int .i64 s.kind, .string s.name, .int .i64 s.cond, .int .i64 s.grant] 62)
  unfold maxLen at hs
  by_cases h0 : L - s.name.size < 0
  · go_enter Tryz.func25, Tryz.ntmps25
    go_wp2
    go_ret
    exact ⟨left_no _ _, B0⟩
  · have h0' : 0 ≤ L - s.name.size := by omega
    go_enter Tryz.func25, Tryz.ntmps25
    go_wp2
    go_ret
    exact ⟨⟨_, rfl, .inr ⟨by omega, by omega, by omega⟩⟩, B0⟩

set_option maxRecDepth 100000 in
set_option maxHeartbeats 1600000 in
theorem szStmtS_any (a : Option Addr) (n c : Nat) (N : List St) (L : Int) (w : World) (h : StsR w a n c N) (hL : -1 ≤ L) (hL' : L ≤ 1048576) :
    Calls Tryz.prog 10 #[.slice a n c, .int .i64 L] w fun e w' => Left L (n ≤ 1048576 ∧ ∀ x ∈ N, x.name.size ≤ 1048576) e ∧ Below w.heap.size w w' := by
  have hn : n ≤ 9223372036854775807 := by have := h.cap; have := h.small; unfold maxLen at this; omega
  have Hl := hide h.len
  by_cases h0 : L - n < 0
  · go_enter Tryz.func10, Tryz.ntmps10
    go_wp2
    go_ret
    exact ⟨left_no _ _, Below.refl _ _⟩
  · have h0' : 0 ≤ L - n := by omega
    have h0b : (L - n < 0) = False := by simp; omega
    go_enter Tryz.func10, Tryz.ntmps10
    go_wp2_with fail
    go_loopw [1, 4, 5] (fun l _ i wr => ∃ (k : Nat) (r : Int), k ≤ n ∧ i = .int .i64 k ∧ l = .int .i64 r ∧ 0 ≤ r ∧ r ≤ L ∧ Below w.heap.size w wr ∧ Hid (∀ j, (hj : j < N.length) → j < k → N[j].name.size ≤ 1048576)) (fun _ _ i _ => n - (intOf i).toNat)
    case atStart => exact ⟨0, L - n, by omega, rfl, rfl, by omega, by omega, Below.refl _ _, hide (fun j _ h => absurd h (by omega))⟩
    case round =>
      obtain ⟨k, r, hk, rfl, rfl, hr0, hrL, B1, Ha⟩ := hrel
      by_cases hlt : k < n
      · have ilt : (k : Int) < (n : Int) := by omega
        have hkl : k < N.length := by rw [unhide Hl]; exact hlt
        have hsz := h.sizes N[k] (List.getElem_mem hkl)
        obtain ⟨b', off, rfl, hb, c0, c1, c2, c3⟩ := (h.below B1 (Nat.le_refl _)).cells k hkl
        have HY := hide (show N[k].name.size ≤ 1048576 → ∀ j, (hj : j < N.length) → j < k + 1 → N[j].name.size ≤ 1048576 from fun e j hj h' => by
          by_cases ej : j = k
          · subst ej; exact e
          · exact unhide Ha j hj (by omega))
        have Hlt := hide hlt
        clear Ha
        generalize N[k] = x at c0 c1 c2 c3 hsz HY
        go_wp2_with (go_at_call 25; refine (szStmt_any x _ _ hsz (by omega) (by omega)).mono ?_; rintro e w2 ⟨⟨r2, rfl, hr2⟩, hb2⟩; have Hr2 := hide hr2; clear hr2)
        · go_ret
          exact ⟨left_no _ _, B1.trans (hb2.mono B1.size)⟩
        · have a1 := unhide Hr2
          have a2 := unhide Hlt
          exact ⟨⟨k + 1, r2, a2, by go_num, rfl, by omega, by omega, B1.trans (hb2.mono B1.size), hide (unhide HY (by rcases a1 with e | e; omega; exact e.2.2))⟩, by simp [intOf]; omega⟩
      · have HX := hide (show n ≤ 1048576 ∧ ∀ x ∈ N, x.name.size ≤ 1048576 from ⟨by omega, fun x hx => by
          obtain ⟨j, hj, rfl⟩ := List.getElem_of_mem hx
          exact unhide Ha j hj (by have := unhide Hl; omega)⟩)
        go_wp2_with fail
        go_ret
        exact ⟨⟨_, rfl, .inr ⟨hr0, hrL, unhide HX⟩⟩, B1⟩

/-- a policy that the law lets by -/
def smallP (n m : Nat) (N : List Nd) (L : List St) : Prop := (n ≤ 1048576 ∧ ∀ x ∈ N, smallNd x) ∧ m ≤ 1048576 ∧ ∀ x ∈ L, x.name.size ≤ 1048576

end Go.Proofs.YtjapdeehnfoonaaGreatDoor

namespace Go.Proofs.YtjapdeehnfoonaaGreatDoor
open Go.RowKit
set_option linter.unusedVariables false

theorem half_int (L : List Int) (n k : Nat) (hn : n = L.length) (hk : k < n) : (((L.take k).map (Value.int .i64)) ++ List.replicate (n - k) (Value.int .i64 0)).set k (.int .i64 (L[k]'(by omega))) = ((L.take (k + 1)).map (Value.int .i64)) ++ List.replicate (n - (k + 1)) (Value.int .i64 0) := by
  have h1 : ((L.take k).map (Value.int .i64)).length = k := by rw [List.length_map, List.length_take]; omega
  rw [List.set_append_right _ _ (by omega), h1, Nat.sub_self, show n - k = (n - (k + 1)) + 1 by omega, List.replicate_succ, List.set_cons_zero, List.take_succ_eq_append_getElem (by omega), List.map_append, List.append_assoc]
  rfl

theorem half_int_at (L : List Int) (n k : Nat) (hn : n = L.length) (hk : k < n) : (((L.take k).map (Value.int .i64)) ++ List.replicate (n - k) (Value.int .i64 0))[k]? = some (.int .i64 0) := by
  have h1 : ((L.take k).map (Value.int .i64)).length = k := by rw [List.length_map, List.length_take]; omega
  rw [List.getElem?_append_right (by omega), h1, Nat.sub_self, List.getElem?_replicate, if_pos (by omega)]

set_option maxHeartbeats 800000 in
theorem toIntS_any (a : Option Addr) (n c : Nat) (L : List Int) (w : World) (h : IntsR w a n c L) (hsm : n ≤ 1048576) :
    Calls Tryz.prog 17 #[.slice a n c] w fun e w' => e = .returned (.slice (some ⟨w.heap.size, 0, none⟩) n n) ∧ Below w.heap.size w w' ∧ w'.ownsRow w.heap.size 3 1 (.slice (some ⟨w.heap.size, 0, none⟩) n n) n (intsV L) := by
  obtain ⟨i, hi, hz0, hz1, hz2⟩ := info_parts infoI
  have Hl := hide h.len
  go_enter Tryz.func17, Tryz.ntmps17
  go_wp2_with (at_make; refine wpList_make_full _ rfl _ _ 24 rfl w.heap.size 3 i (.int .i64 0) 1 Tryz.underlying24 hi hz0 hz1 _ _ _ _ n rfl rfl rfl rfl ?b2 ?b3 ?b4 ?_)
  case b2 => rw [hz2]; omega
  case b3 => unfold maxLen; omega
  case b4 => exact Nat.le_refl _
  intro w1 hown hgrow
  have hb1 : Below w.heap.size w w1 := (Below.refl _ _).grown hgrow (Nat.le_refl _) (fun k hk => by cases hk)
  clear hgrow
  have hown1 : w1.ownsRow w.heap.size 3 1 (.slice (some ⟨w.heap.size, 0, none⟩) n n) n (((L.take 0).map (Value.int .i64)) ++ List.replicate (n - 0) (Value.int .i64 0)) := by
    simp only [List.take_zero, List.map_nil, List.nil_append, Nat.sub_zero]
    rw [← toList_madeCells_one, ← Nat.mul_one n]
    simpa using hown
  clear hown
  go_wp2
  go_loopw [4] (fun i wr => ∃ k : Nat, k ≤ n ∧ i = .int .i64 k ∧ wr.ownsRow w.heap.size 3 1 (.slice (some ⟨w.heap.size, 0, none⟩) n n) n (((L.take k).map (Value.int .i64)) ++ List.replicate (n - k) (Value.int .i64 0)) ∧ Below w.heap.size w wr) (fun i _ => n - (intOf i).toNat)
  case atStart => exact ⟨0, Nat.zero_le _, rfl, hown1, hb1⟩
  case round =>
    obtain ⟨k, hk, rfl, hown, hb⟩ := hrel
    clear hown1 hb1
    by_cases hlt : k < n
    · have hkl : k < L.length := by rw [unhide Hl]; exact hlt
      obtain ⟨b, off, rfl, _, hc⟩ := (h.below hb (Nat.le_refl _)).cells k hkl
      have hfz := hown.frozenAt k
      have hck := (hown.cellAt k (by omega)).trans (half_int_at L n k (unhide Hl).symm hlt)
      have Hst := hide (hown.stored k (.int .i64 L[k])).1
      have HH := hide (half_int L n k (unhide Hl).symm hlt)
      have Hlt := hide hlt
      clear hown
      generalize L[k] = x at hc Hst HH
      go_wp2
      go_roundw
      case rel => exact ⟨k + 1, unhide Hlt, by go_num, by rw [← unhide HH]; exact unhide Hst, hb.setCell (Nat.le_refl _) _⟩
      case measure => have := unhide Hlt; simp [intOf]; omega
    · have e : k = n := by omega
      subst e
      go_wp2
      go_ret
      refine ⟨rfl, hb, ?_⟩
      rw [List.take_of_length_le (by rw [unhide Hl]; exact Nat.le_refl _), Nat.sub_self] at hown
      simpa [intsV] using hown

theorem Ints.setFar {w : World} {a : Option Addr} {n c : Nat} {L : List Int} (h : Ints w a n c L) {p : Addr} (hp : ∀ x, a = some x → p.block ≠ x.block) (u : Value) : Ints (w.setCell p u) a n c L :=
  ⟨h.len, h.small, fun j hj => by
    obtain ⟨b, off, ha, hlt, hc⟩ := h.cells j hj
    refine ⟨b, off, ha, by simpa using hlt, ?_⟩
    rw [← hc]
    exact World.cell?_of_block (heap_setCell_other w p b u (fun e => hp _ ha e.symm))⟩

set_option maxRecDepth 100000 in
set_option maxHeartbeats 1600000 in
theorem toNode_any (x : Nd) (an : Option Addr) (nn cn : Nat) (ak : Option Addr) (nk ck : Nat) (w : World) (h1 : Strs w an nn cn x.names) (h2 : IntsR w ak nk ck x.kids) (k1 : nn ≤ 1048576) (k2 : nk ≤ 1048576) :
    Calls Tryz.prog 28 #[.agg #[.int .i64 x.op, .int .i64 x.num, .string x.text, .slice an nn cn, .slice ak nk ck]] w fun e w' =>
      ∃ x1 x2, e = .returned (.agg #[.int .i64 x.op, .int .i64 x.num, .string x.text, .slice (some x1) nn nn, .slice (some x2) nk nk]) ∧ Strs w' (some x1) nn nn x.names ∧ Ints w' (some x2) nk nk x.kids ∧ w.heap.size ≤ x1.block ∧ w.heap.size ≤ x2.block ∧ Below w.heap.size w w' := by
  go_enter Tryz.func28, Tryz.ntmps28
  go_wp2_with fail
  have B0 := ((((Below.refl w.heap.size w).alloc (Nat.le_refl _) (.cells #[.int .i64 x.op, .int .i64 x.num, .string x.text, .slice an nn cn, .slice ak nk ck] 59)).alloc (by simp) (.cells #[.int .i64 0, .int .i64 0, .string ⟨#[]⟩, .slice none 0 0, .slice none 0 0] 69)).alloc (by simp; omega) (.cells #[.int .i64 x.op, .int .i64 x.num, .string x.text, .slice none 0 0, .slice none 0 0] 69))
  have R0 := ((Row.new w #[.int .i64 x.op, .int .i64 x.num, .string x.text, .slice an nn cn, .slice ak nk ck] 59).alloc (.cells #[.int .i64 0, .int .i64 0, .string ⟨#[]⟩, .slice none 0 0, .slice none 0 0] 69)).alloc (.cells #[.int .i64 x.op, .int .i64 x.num, .string x.text, .slice none 0 0, .slice none 0 0] 69)
  have R1 := (Row.new (w.alloc (.cells #[.int .i64 x.op, .int .i64 x.num, .string x.text, .slice an nn cn, .slice ak nk ck] 59)) #[.int .i64 0, .int .i64 0, .string ⟨#[]⟩, .slice none 0 0, .slice none 0 0] 69).alloc (.cells #[.int .i64 x.op, .int .i64 x.num, .string x.text, .slice none 0 0, .slice none 0 0] 69)
  have R2 := Row.new ((w.alloc (.cells #[.int .i64 x.op, .int .i64 x.num, .string x.text, .slice an nn cn, .slice ak nk ck] 59)).alloc (.cells #[.int .i64 0, .int .i64 0, .string ⟨#[]⟩, .slice none 0 0, .slice none 0 0] 69)) #[.int .i64 x.op, .int .i64 x.num, .string x.text, .slice none 0 0, .slice none 0 0] 69
  simp only [World.size_alloc] at R1 R2
  have Z := R2.lt
  refine (toStringS_any _ _ _ _ _ (h1.below B0 (Nat.le_refl _)) k1).mono ?_
  rintro e w1 ⟨rfl, hb1, ho1⟩
  have B1 := B0.trans (hb1.mono (by simp; omega))
  have r0 := R0.after hb1 (Nat.le_refl _)
  have r1 := R1.after hb1 (Nat.le_refl _)
  have r2 := R2.after hb1 (Nat.le_refl _)
  have z1 := hb1.size
  have s1' := Strs.of_owns ho1 h1.sizes
  have l1 := (ho1.lt _ rfl).2
  simp only [World.size_alloc] at z1 s1' l1
  clear B0 R0 R1 R2 ho1 hb1 Z
  have q0 := r0.cell 4
  have q1 := r2.cell 3
  have q2 := r2.frozen 3
  simp only [List.getElem?_toArray, List.getElem?_cons_succ, List.getElem?_cons_zero] at q0 q1
  go_wp2_with fail
  have B2 := B1.setCell (p := ⟨w.heap.size + 1 + 1, 3, none⟩) (by show w.heap.size ≤ w.heap.size + 1 + 1; omega) (.slice (some ⟨w.heap.size + 1 + 1 + 1, 0, none⟩) nn nn)
  refine (toIntS_any _ _ _ _ _ (h2.below B2 (Nat.le_refl _)) k2).mono ?_
  rintro e w2 ⟨rfl, hb2, ho2⟩
  have r1' := (r1.setFar (p := ⟨w.heap.size + 1 + 1, 3, none⟩) (by show w.heap.size + 1 ≠ w.heap.size + 1 + 1; omega) (.slice (some ⟨w.heap.size + 1 + 1 + 1, 0, none⟩) nn nn)).after hb2 (Nat.le_refl _)
  have r2' := (r2.set 3 (.slice (some ⟨w.heap.size + 1 + 1 + 1, 0, none⟩) nn nn)).after hb2 (Nat.le_refl _)
  have s1'' := (s1'.setFar (p := ⟨w.heap.size + 1 + 1, 3, none⟩) (fun x hx => by cases hx; show w.heap.size + 1 + 1 ≠ w.heap.size + 1 + 1 + 1; omega) (.slice (some ⟨w.heap.size + 1 + 1 + 1, 0, none⟩) nn nn)).below hb2 (Nat.le_refl _)
  have s2' := ints_of_row ho2 k2
  have B3 := B2.trans (hb2.mono (by simp; omega))
  have z2 := hb2.size
  have l2 := (ho2.lt _ rfl).2
  simp only [World.size_setCell] at z2 s2' l2
  clear r0 r1 r2 s1' q0 q1 q2 B1 B2 hb2 ho2
  have f1 := fun j => r1'.frozen j
  have f2 := fun j => r2'.frozen j
  have p0 := r1'.cell 0
  have p1 := r1'.cell 1
  have p2 := r1'.cell 2
  have p3 := r1'.cell 3
  have p4 := r1'.cell 4
  have q0 := r2'.cell 0
  have q1 := r2'.cell 1
  have q2 := r2'.cell 2
  have q3 := r2'.cell 3
  have q4 := r2'.cell 4
  simp at p0 p1 p2 p3 p4 q0 q1 q2 q3 q4
  go_wp2_with fail
  refine bodyPost_ret (v := .agg #[.int .i64 x.op, .int .i64 x.num, .string x.text, .slice (some ⟨w.heap.size + 1 + 1 + 1, 0, none⟩) nn nn, .slice (some ⟨w1.heap.size, 0, none⟩) nk nk]) (by simp [results, Tryz.results28, go_sem, p0, p1, p2, p3, p4]) rfl ⟨_, _, rfl, ?_, ?_, by show w.heap.size ≤ w.heap.size + 1 + 1 + 1; omega, by show w.heap.size ≤ w1.heap.size; omega, ?_⟩
  · clear p0 p1 p2 p3 p4 q0 q1 q2 q3 q4 f1 f2 r1' r2'
    refine Strs.setFar (Strs.setFar (Strs.setFar (Strs.setFar (Strs.setFar (Strs.setFar s1'' ?_ _) ?_ _) ?_ _) ?_ _) ?_ _) ?_ _
    all_goals (intro x hx; cases hx; dsimp only; omega)
  · clear p0 p1 p2 p3 p4 q0 q1 q2 q3 q4 f1 f2 r1' r2'
    refine Ints.setFar (Ints.setFar (Ints.setFar (Ints.setFar (Ints.setFar (Ints.setFar s2' ?_ _) ?_ _) ?_ _) ?_ _) ?_ _) ?_ _
    all_goals (intro x hx; cases hx; dsimp only; omega)
  · clear p0 p1 p2 p3 p4 q0 q1 q2 q3 q4 f1 f2 r1' r2'
    refine Below.setCell (Below.setCell (Below.setCell (Below.setCell (Below.setCell (Below.setCell B3 ?_ _) ?_ _) ?_ _) ?_ _) ?_ _) ?_ _
    all_goals (dsimp only; omega)

end Go.Proofs.YtjapdeehnfoonaaGreatDoor

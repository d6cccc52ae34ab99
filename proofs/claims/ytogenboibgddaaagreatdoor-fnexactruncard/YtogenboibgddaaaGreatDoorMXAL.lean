/-
  EZ1, EZ2, RVT, RVK. Own work.
-/
import Derived.Test.YtogenboibgddaaaGreatDoorMXAF
import Derived.Test.YtogenboibgddaaaGreatDoorMXAK
import Derived.Test.YtogenboibgddaaaGreatDoorMXAJ
import Derived.Test.YtogenboibgddaaaGreatDoorMXAC
import Derived.Test.YtogenboibgddaaaGreatDoorMXAI
import Derived.Test.YtogenboibgddaaaGreatDoorMXAO
namespace Go.Proofs.YtogenboibgddaaaGreatDoor
open Go.RowKit
set_option linter.unusedVariables false
set_option maxHeartbeats 800000 in
theorem szInsS_any (a : Option Addr) (n c : Nat) (L : Int) (w : World) (hn : n ≤ maxLen) (hL : -1 ≤ L) (hL' : L ≤ 1048576) :
    Calls Tryz.prog 18 #[.slice a n c, .int .i64 L] w fun e w' => LeftE L (n ≤ 1048576) e ∧ w' = w := by
  unfold maxLen at hn
  by_cases h0 : L - n < 0
  · go_enter Tryz.func18, Tryz.ntmps18
    go_wp2
    go_ret
    exact ⟨leftE_no _ _, rfl⟩
  · have h0' : 0 ≤ L - n := by omega
    go_enter Tryz.func18, Tryz.ntmps18
    go_wp2
    go_ret
    exact ⟨⟨_, rfl, .inr ⟨by omega, by omega, by omega⟩⟩, rfl⟩

set_option maxRecDepth 100000 in
set_option maxHeartbeats 1600000 in
theorem szValue_any (x : Vl) (an : Option Addr) (nn cn : Nat) (L : Int) (w : World) (hN : Strs w an nn cn x.names) (hs : x.text.size ≤ maxLen) (hL : -1 ≤ L) (hL' : L ≤ 1048576) :
    Calls Tryz.prog 38 #[.agg #[.int .i64 x.kind, .int .i64 x.num, .string x.text, .slice an nn cn], .int .i64 L] w fun e w' => (∃ r : Int, e = .returned (.int .i64 r) ∧ (r = -1 ∨ 0 ≤ r ∧ r + (x.names.length : Int) ≤ L ∧ smallVl x)) ∧ Below w.heap.size w w' := by
  have R0 := Row.new w #[.int .i64 x.kind, .int .i64 x.num, .string x.text, .slice an nn cn] 74
  have B0 := (Below.refl w.heap.size w).alloc (Nat.le_refl _) (.cells #[.int .i64 x.kind, .int .i64 x.num, .string x.text, .slice an nn cn] 74)
  have N0 := hN.below B0 (Nat.le_refl _)
  have Hn := hide hN.len
  have hs' := hs
  unfold maxLen at hs'
  clear hN
  by_cases h0 : L - x.text.size < 0
  · go_enter Tryz.func38, Tryz.ntmps38
    go_wp2
    go_ret
    exact ⟨⟨_, rfl, .inl rfl⟩, B0⟩
  · have h0' : 0 ≤ L - x.text.size := by omega
    go_enter Tryz.func38, Tryz.ntmps38
    go_wp2_with (go_at_call 19; refine (szStringS_any _ _ _ _ _ _ N0 (by omega) (by omega)).mono ?_; rintro e w2 ⟨⟨r, rfl, hr⟩, hw2⟩; rw [hw2]; clear hw2; have hr1 : -1 ≤ r ∧ r ≤ 1048576 := (by rcases hr with h | h <;> omega); have Hr := hide hr; clear hr)
    all_goals
      go_ret
      first
        | exact ⟨⟨_, rfl, .inl rfl⟩, B0⟩
        | (have a1 := unhide Hr
           have a3 := unhide Hn
           exact ⟨⟨_, rfl, .inr ⟨by omega, by omega, by omega, by omega, by omega⟩⟩, B0⟩)

set_option maxRecDepth 100000 in
set_option maxHeartbeats 1600000 in
theorem szValueS_any (a : Option Addr) (n c : Nat) (N : List Vl) (L : Int) (w : World) (h : VlsR w a n c N) (hL : -1 ≤ L) (hL' : L ≤ 1048576) :
    Calls Tryz.prog 17 #[.slice a n c, .int .i64 L] w fun e w' => LeftE L (n ≤ 1048576 ∧ (∀ x ∈ N, smallVl x) ∧ sumN N ≤ 1048576) e ∧ Below w.heap.size w w' := by
  have hn : n ≤ 9223372036854775807 := by have := h.cap; have := h.small; unfold maxLen at this; omega
  have Hl := hide h.len
  by_cases h0 : L - n < 0
  · go_enter Tryz.func17, Tryz.ntmps17
    go_wp2
    go_ret
    exact ⟨leftE_no _ _, Below.refl _ _⟩
  · have h0' : 0 ≤ L - n := by omega
    have h0b : (L - n < 0) = False := by simp; omega
    go_enter Tryz.func17, Tryz.ntmps17
    go_wp2_with fail
    go_loopw [1, 4, 5] (fun l _ i wr => ∃ (k : Nat) (r : Int), k ≤ n ∧ i = .int .i64 k ∧ l = .int .i64 r ∧ 0 ≤ r ∧ r + (sumN (N.take k) : Int) ≤ L ∧ Below w.heap.size w wr ∧ Hid (∀ j, (hj : j < N.length) → j < k → smallVl N[j])) (fun _ _ i _ => n - (intOf i).toNat)
    case atStart => exact ⟨0, L - n, by omega, rfl, rfl, by omega, by simp [sumN]; omega, Below.refl _ _, hide (fun j _ h => absurd h (by omega))⟩
    case round =>
      obtain ⟨k, r, hk, rfl, rfl, hr0, hrL, B1, Ha⟩ := hrel
      by_cases hlt : k < n
      · have ilt : (k : Int) < (n : Int) := by omega
        have hkl : k < N.length := by rw [unhide Hl]; exact hlt
        have hsz := h.sizes N[k] (List.getElem_mem hkl)
        obtain ⟨b', off, rfl, hb, an, nn, cn, c0, c1, c2, c3, hNm⟩ := (h.below B1 (Nat.le_refl _)).cells k hkl
        have HY := hide (show smallVl N[k] → ∀ j, (hj : j < N.length) → j < k + 1 → smallVl N[j] from fun e j hj h' => by
          by_cases ej : j = k
          · subst ej; exact e
          · exact unhide Ha j hj (by omega))
        have Hlt := hide hlt
        have HSS := hide (sumN_succ N k hkl)
        clear Ha
        generalize N[k] = x at c0 c1 c2 c3 hNm hsz HY HSS
        generalize sumN (N.take k) = S at hrL HSS
        go_wp2_with (go_at_call 38; refine (szValue_any x an nn cn _ _ hNm hsz (by omega) (by omega)).mono ?_; rintro e w2 ⟨⟨r2, rfl, hr2⟩, hb2⟩; have Hr2 := hide hr2; clear hr2)
        · go_ret
          exact ⟨leftE_no _ _, B1.trans (hb2.mono B1.size)⟩
        · have a1 := unhide Hr2
          have a2 := unhide Hlt
          exact ⟨⟨k + 1, r2, a2, by go_num, rfl, by omega, by rw [unhide HSS]; rcases a1 with e | e; omega; (have := e.2.1; rw [Int.natCast_add]; omega), B1.trans (hb2.mono B1.size), hide (unhide HY (by rcases a1 with e | e; omega; exact e.2.2))⟩, by simp [intOf]; omega⟩
      · have HX := hide (show n ≤ 1048576 ∧ (∀ x ∈ N, smallVl x) ∧ sumN N ≤ 1048576 from ⟨by omega, fun x hx => by
          obtain ⟨j, hj, rfl⟩ := List.getElem_of_mem hx
          exact unhide Ha j hj (by have := unhide Hl; omega), by
          rw [List.take_of_length_le (by rw [unhide Hl]; omega)] at hrL
          omega⟩)
        have hrL' : r ≤ L := by omega
        go_wp2_with fail
        go_ret
        exact ⟨⟨_, rfl, .inr ⟨hr0, hrL', unhide HX⟩⟩, B1⟩

set_option maxHeartbeats 1600000 in
theorem szCode_any (a b : Option Addr) (n c m d : Nat) (s : Int) (N : List Vl) (L : List Is1) (w : World) (h1 : VlsR w a n c N) (h2 : IssR w b m d L) :
    Calls Tryz.prog 4 #[.agg #[.slice a n c, .int .i64 s, .slice b m d], .int .i64 1048576] w fun e w' => LeftE 1048576 (smallC n m N) e ∧ Below w.heap.size w w' := by
  have R0 := Row.new w #[.slice a n c, .int .i64 s, .slice b m d] 25
  have B0 := (Below.refl w.heap.size w).alloc (Nat.le_refl _) (.cells #[.slice a n c, .int .i64 s, .slice b m d] 25)
  have N0 := h1.below B0 (Nat.le_refl _)
  have hmm : m ≤ maxLen := Nat.le_trans h2.cap h2.small
  go_enter Tryz.func4, Tryz.ntmps4
  go_wp2_with (first
    | (go_at_call 17; refine (szValueS_any _ _ _ _ _ _ N0 (by omega) (by omega)).mono ?_; rintro e w2 ⟨⟨r, rfl, hr⟩, hb2⟩; have hr1 : -1 ≤ r ∧ r ≤ 1048576 := (by rcases hr with h | h <;> omega); have Hr := hide hr; clear hr; have q0 := (R0.after hb2 (Nat.le_refl _)).cell 0; have q2 := (R0.after hb2 (Nat.le_refl _)).cell 2; simp only [List.getElem?_toArray, List.getElem?_cons_succ, List.getElem?_cons_zero] at q0 q2; have E2 := B0.trans (hb2.mono B0.size))
    | (go_at_call 18; refine (szInsS_any _ _ _ _ _ hmm (by omega) (by omega)).mono ?_; rintro e w3 ⟨⟨r2, rfl, hr2⟩, hw3⟩; rw [hw3]; clear hw3; have Hr2 := hide hr2; clear hr2))
  · go_ret
    exact ⟨leftE_no _ _, E2⟩
  · go_ret
    exact ⟨leftE_no _ _, E2⟩
  · go_ret
    have a1 := unhide Hr
    have a2 := unhide Hr2
    refine ⟨⟨_, rfl, .inr ⟨by omega, by omega, ?_, ?_⟩⟩, E2⟩
    · rcases a1 with e | e
      · omega
      · exact e.2.2
    · rcases a2 with e | e
      · omega
      · exact e.2.2

end Go.Proofs.YtogenboibgddaaaGreatDoor

namespace Go.Proofs.YtogenboibgddaaaGreatDoor
open Go.RowKit Go.Lib
set_option linter.unusedVariables false

theorem infoV : (Tryz.prog.info? 88).map (fun i => (i.zero, i.size, i.bytes)) = some (some (.agg #[.int .i64 0, .int .i64 0, .string ByteArray.empty, .slice none 0 0]), 4, 56) := by kernel_rfl
theorem infoIn : (Tryz.prog.info? 87).map (fun i => (i.zero, i.size, i.bytes)) = some (some (.agg #[.int .i64 0, .int .i64 0]), 2, 16) := by kernel_rfl

theorem own_setFar {w : World} {base : Nat} {e : TypeId} {q n c : Nat} {xs : List Value} (h : w.ownsRow base e 1 (.slice (some ⟨q, 0, none⟩) n c) n xs) {p : Addr} (hp : p.block ≠ q) (u : Value) : (w.setCell p u).ownsRow base e 1 (.slice (some ⟨q, 0, none⟩) n c) n xs := by
  refine ⟨h.1, ?_⟩
  rcases h.2 with hn | ⟨g, cap, cur, hv, h1, h2, h3⟩
  · exact .inl hn
  · cases hv
    exact .inr ⟨q, c, cur, rfl, h1, (heap_setCell_other w p q u (fun e => hp e.symm)).trans h2, h3⟩

theorem own_below {w w' : World} {base : Nat} {e : TypeId} {size : Nat} {v : Value} {n B : Nat} {xs : List Value} (h : w.ownsRow base e size v n xs) (hb : Below B w w') (hB : w.heap.size ≤ B) : w'.ownsRow base e size v n xs := by
  refine ⟨h.1, ?_⟩
  rcases h.2 with hn | ⟨g, cap, cur, hv, h1, h2, h3⟩
  · exact .inl hn
  · exact .inr ⟨g, cap, cur, hv, h1, (hb.block g (Nat.lt_of_lt_of_le (Array.getElem?_eq_some_iff.1 h2).1 hB)).trans h2, h3⟩

set_option maxRecDepth 100000 in
set_option maxHeartbeats 1600000 in
theorem toValue_any (x : Vl) (an : Option Addr) (nn cn : Nat) (w : World) (h1 : Strs w an nn cn x.names) (k1 : nn ≤ 1048576) :
    Calls Tryz.prog 48 #[.agg #[.int .i64 x.kind, .int .i64 x.num, .string x.text, .slice an nn cn]] w fun e w' =>
      ∃ q, e = .returned (.agg #[.int .i64 x.kind, .int .i64 x.num, .string x.text, .slice (some ⟨q, 0, none⟩) nn nn]) ∧ w'.ownsRow w.heap.size 9 1 (.slice (some ⟨q, 0, none⟩) nn nn) nn (x.names.map Value.string) ∧ w.heap.size ≤ q ∧ Below w.heap.size w w' := by
  go_enter Tryz.func48, Tryz.ntmps48
  go_wp2_with fail
  have B0 := ((((Below.refl w.heap.size w).alloc (Nat.le_refl _) (.cells #[.int .i64 x.kind, .int .i64 x.num, .string x.text, .slice an nn cn] 74)).alloc (by simp) (.cells #[.int .i64 0, .int .i64 0, .string ⟨#[]⟩, .slice none 0 0] 88)).alloc (by simp; omega) (.cells #[.int .i64 x.kind, .int .i64 x.num, .string x.text, .slice none 0 0] 88))
  have R1 := (Row.new (w.alloc (.cells #[.int .i64 x.kind, .int .i64 x.num, .string x.text, .slice an nn cn] 74)) #[.int .i64 0, .int .i64 0, .string ⟨#[]⟩, .slice none 0 0] 88).alloc (.cells #[.int .i64 x.kind, .int .i64 x.num, .string x.text, .slice none 0 0] 88)
  have R2 := Row.new ((w.alloc (.cells #[.int .i64 x.kind, .int .i64 x.num, .string x.text, .slice an nn cn] 74)).alloc (.cells #[.int .i64 0, .int .i64 0, .string ⟨#[]⟩, .slice none 0 0] 88)) #[.int .i64 x.kind, .int .i64 x.num, .string x.text, .slice none 0 0] 88
  simp only [World.size_alloc] at R1 R2
  have Z := R2.lt
  refine (toStringS_any _ _ _ _ _ (h1.below B0 (Nat.le_refl _)) k1).mono ?_
  rintro e w1 ⟨rfl, hb1, ho1⟩
  have B1 := B0.trans (hb1.mono (by simp; omega))
  have r1 := R1.after hb1 (Nat.le_refl _)
  have r2 := R2.after hb1 (Nat.le_refl _)
  have z1 := hb1.size
  have l1 := (ho1.lt _ rfl).2
  simp only [World.size_alloc] at z1 ho1 l1
  clear B0 R1 R2 hb1 Z
  have f1 := fun j => r1.frozen j
  have f2 := fun j => r2.frozen j
  have p0 := r1.cell 0
  have p1 := r1.cell 1
  have p2 := r1.cell 2
  have p3 := r1.cell 3
  have q0 := r2.cell 0
  have q1 := r2.cell 1
  have q2 := r2.cell 2
  have q3 := r2.cell 3
  simp at p0 p1 p2 p3 q0 q1 q2 q3
  go_wp2_with fail
  refine bodyPost_ret (v := .agg #[.int .i64 x.kind, .int .i64 x.num, .string x.text, .slice (some ⟨w.heap.size + 1 + 1 + 1, 0, none⟩) nn nn]) (by simp [results, Tryz.results48, go_sem, p0, p1, p2, p3]) rfl ⟨_, rfl, ?_, by omega, ?_⟩
  · clear p0 p1 p2 p3 q0 q1 q2 q3 f1 f2 r1 r2
    refine own_setFar (own_setFar (own_setFar (own_setFar (own_setFar (ownsRow_low' ho1 (by omega)) ?_ _) ?_ _) ?_ _) ?_ _) ?_ _
    all_goals (dsimp only; omega)
  · clear p0 p1 p2 p3 q0 q1 q2 q3 f1 f2 r1 r2
    refine Below.setCell (Below.setCell (Below.setCell (Below.setCell (Below.setCell B1 ?_ _) ?_ _) ?_ _) ?_ _) ?_ _
    all_goals (dsimp only; omega)

theorem rowOf {w : World} {base : Nat} {e : TypeId} {size g n c : Nat} {xs : List Value} (h : w.ownsRow base e size (.slice (some ⟨g, 0, none⟩) n c) n xs) : ∃ cur, Row w g cur e ∧ cur.size = c * size := by
  rcases h.2 with ⟨hv, _⟩ | ⟨g', cap, cur, hv, h1, h2, h3, h4, h5, h6⟩
  · cases hv
  · cases hv; exact ⟨cur, ⟨h2⟩, h5⟩

def pu4A (cs : Array Value) (p : Nat) (v0 v1 v2 v3 : Value) : Array Value := (((cs.setIfInBounds p v0).setIfInBounds (p + 1) v1).setIfInBounds (p + 2) v2).setIfInBounds (p + 3) v3

theorem pu4A_size (cs : Array Value) (p : Nat) (v0 v1 v2 v3 : Value) : (pu4A cs p v0 v1 v2 v3).size = cs.size := by simp [pu4A]

theorem pu4A_at {cs : Array Value} {p : Nat} (h : p + 4 ≤ cs.size) (v0 v1 v2 v3 : Value) : (pu4A cs p v0 v1 v2 v3)[p]? = some v0 ∧ (pu4A cs p v0 v1 v2 v3)[p + 1]? = some v1 ∧ (pu4A cs p v0 v1 v2 v3)[p + 2]? = some v2 ∧ (pu4A cs p v0 v1 v2 v3)[p + 3]? = some v3 := by
  unfold pu4A
  refine ⟨?_, ?_, ?_, ?_⟩ <;> simp [Array.getElem?_setIfInBounds] <;> omega

theorem pu4A_ne {cs : Array Value} {p q : Nat} (h : q < p ∨ p + 4 ≤ q) (v0 v1 v2 v3 : Value) : (pu4A cs p v0 v1 v2 v3)[q]? = cs[q]? := by
  unfold pu4A
  rw [Array.getElem?_setIfInBounds_ne (by omega), Array.getElem?_setIfInBounds_ne (by omega), Array.getElem?_setIfInBounds_ne (by omega), Array.getElem?_setIfInBounds_ne (by omega)]

/-- four cells of a block, from a place on, written over -/
def pu4 (W : World) (b p : Nat) (v0 v1 v2 v3 : Value) : World := (((W.setCell ⟨b, p, none⟩ v0).setCell ⟨b, p + 1, none⟩ v1).setCell ⟨b, p + 2, none⟩ v2).setCell ⟨b, p + 3, none⟩ v3

theorem pu4_row {W : World} {b p : Nat} {cs : Array Value} {t : TypeId} (h : Row W b cs t) (v0 v1 v2 v3 : Value) : Row (pu4 W b p v0 v1 v2 v3) b (pu4A cs p v0 v1 v2 v3) t := (((h.set p v0).set (p + 1) v1).set (p + 2) v2).set (p + 3) v3

theorem pu4_below {B : Nat} {w W : World} {b p : Nat} (h : Below B w W) (hb : B ≤ b) (v0 v1 v2 v3 : Value) : Below B w (pu4 W b p v0 v1 v2 v3) :=
  (((h.setCell (p := ⟨b, p, none⟩) hb v0).setCell (p := ⟨b, p + 1, none⟩) hb v1).setCell (p := ⟨b, p + 2, none⟩) hb v2).setCell (p := ⟨b, p + 3, none⟩) hb v3

theorem own_pu4 {w : World} {base : Nat} {e : TypeId} {q n c : Nat} {xs : List Value} (h : w.ownsRow base e 1 (.slice (some ⟨q, 0, none⟩) n c) n xs) {b p : Nat} (hp : b ≠ q) (v0 v1 v2 v3 : Value) : (pu4 w b p v0 v1 v2 v3).ownsRow base e 1 (.slice (some ⟨q, 0, none⟩) n c) n xs :=
  own_setFar (own_setFar (own_setFar (own_setFar h hp v0) hp v1) hp v2) hp v3

/-- a value that lies in the row already, its names behind it -/
def VlX (w : World) (g : Nat) (cs : Array Value) (o q : Nat) (x : Vl) : Prop := ∃ nn, cs[o]? = some (.int .i64 x.kind) ∧ cs[o + 1]? = some (.int .i64 x.num) ∧ cs[o + 2]? = some (.string x.text) ∧ cs[o + 3]? = some (.slice (some ⟨q, 0, none⟩) nn nn) ∧ w.ownsRow (g + 1) 9 1 (.slice (some ⟨q, 0, none⟩) nn nn) nn (x.names.map Value.string)

theorem VlX.q {w : World} {g : Nat} {cs : Array Value} {o q : Nat} {x : Vl} (h : VlX w g cs o q x) : g < q ∧ q < w.heap.size := by
  obtain ⟨nn, _, _, _, _, ho⟩ := h
  have := ho.lt q rfl
  exact ⟨by omega, this.2⟩

theorem VlX.step {w w2 : World} {g : Nat} {cs : Array Value} {o p q : Nat} {x : Vl} (h : VlX w g cs o q x) (hb : Below w.heap.size w w2) (hp : o + 4 ≤ p) (v0 v1 v2 v3 : Value) : VlX (pu4 w2 g p v0 v1 v2 v3) g (pu4A cs p v0 v1 v2 v3) o q x := by
  have hq := h.q
  obtain ⟨nn, c0, c1, c2, c3, hN⟩ := h
  exact ⟨nn, (pu4A_ne (by omega) _ _ _ _).trans c0, (pu4A_ne (by omega) _ _ _ _).trans c1, (pu4A_ne (by omega) _ _ _ _).trans c2, (pu4A_ne (by omega) _ _ _ _).trans c3, own_pu4 (own_below hN hb (Nat.le_refl _)) (by omega) _ _ _ _⟩

/-- all values, in a row, their names behind it, each in a block of its own -/
def HiV (w : World) (g n : Nat) (N : List Vl) : Prop := ∃ (cs : Array Value) (qf : Nat → Nat), Row w g cs 88 ∧ cs.size = n * 4 ∧ (∀ j, (hj : j < N.length) → VlX w g cs (j * 4) (qf j) N[j]) ∧ ∀ i j, i < j → j < N.length → qf i < qf j

theorem le_sum_mem {x : Nat} : ∀ {l : List Nat}, x ∈ l → x ≤ l.sum
  | a :: l, h => by
    rw [List.sum_cons]
    rcases List.mem_cons.mp h with e | e
    · omega
    · have := le_sum_mem e; omega

theorem HiV.vls {w : World} {g n : Nat} {N : List Vl} (h : HiV w g n N) (hl : N.length = n) (hsm : n ≤ 1048576) (hs : ∀ x ∈ N, smallVl x) : Vls w (some ⟨g, 0, none⟩) n n N := by
  obtain ⟨cs, qf, R, _, hx, _⟩ := h
  refine ⟨hl, hsm, fun x hx => (hs x hx).1, fun j hj => ⟨g, 0, rfl, R.lt, ?_⟩⟩
  rw [Nat.zero_add]
  obtain ⟨nn, c0, c1, c2, c3, hN⟩ := hx j hj
  have hss := hs _ (List.getElem_mem hj)
  refine ⟨_, _, _, (R.cell _).trans c0, (R.cell _).trans c1, (R.cell _).trans c2, (R.cell _).trans c3, Strs.of_owns hN (fun i hi => ?_)⟩
  have hln : N[j].names.length = nn := by have := hN.1; rw [List.length_map] at this; omega
  have h1 : (nth N[j].names i).size ≤ tot N[j].names := by
    rw [nth_eq _ _ (by omega), tot]
    exact le_sum_mem (List.mem_map_of_mem (List.getElem_mem _))
  have := hss.2.2
  unfold maxLen
  omega

theorem HiV.below {w w' : World} {B g n : Nat} {N : List Vl} (h : HiV w g n N) (hb : Below B w w') (hB : w.heap.size ≤ B) : HiV w' g n N := by
  obtain ⟨cs, qf, R, hz, hx, hq⟩ := h
  refine ⟨cs, qf, R.after hb hB, hz, fun j hj => ?_, hq⟩
  obtain ⟨nn, c0, c1, c2, c3, hN⟩ := hx j hj
  exact ⟨nn, c0, c1, c2, c3, own_below hN hb hB⟩

theorem HiV.setLow {w : World} {g n : Nat} {N : List Vl} (h : HiV w g n N) {p : Addr} (hp : p.block < g) (u : Value) : HiV (w.setCell p u) g n N := by
  obtain ⟨cs, qf, R, hz, hx, hq⟩ := h
  refine ⟨cs, qf, R.setFar (by omega) u, hz, fun j hj => ?_, hq⟩
  have hqq := (hx j hj).q
  obtain ⟨nn, c0, c1, c2, c3, hN⟩ := hx j hj
  exact ⟨nn, c0, c1, c2, c3, own_setFar hN (by omega) u⟩

theorem someAt {cs : Array Value} {p : Nat} (h : p < cs.size) : ∃ u, cs[p]? = some u := ⟨_, Array.getElem?_eq_getElem h⟩

set_option maxRecDepth 100000 in
set_option maxHeartbeats 1600000 in
theorem toValueS_any (a : Option Addr) (n c : Nat) (N : List Vl) (w : World) (h : VlsR w a n c N) (hsm : n ≤ 1048576) (hs : ∀ x ∈ N, smallVl x) :
    Calls Tryz.prog 23 #[.slice a n c] w fun e w' => e = .returned (.slice (some ⟨w.heap.size, 0, none⟩) n n) ∧ Below w.heap.size w w' ∧ HiV w' w.heap.size n N := by
  obtain ⟨i, hi, hz0, hz1, hz2⟩ := info_parts infoV
  have Hl := hide h.len
  go_enter Tryz.func23, Tryz.ntmps23
  go_wp2_with (at_make; refine wpList_make_full _ rfl _ _ 36 rfl w.heap.size 88 i (.agg #[.int .i64 0, .int .i64 0, .string ByteArray.empty, .slice none 0 0]) 4 Tryz.underlying36 hi hz0 hz1 _ _ _ _ n rfl rfl rfl rfl ?b2 ?b3 ?b4 ?_)
  case b2 => rw [hz2]; omega
  case b3 => unfold maxLen; omega
  case b4 => exact Nat.le_refl _
  intro w1 hown hgrow
  have hb1 : Below w.heap.size w w1 := (Below.refl _ _).grown hgrow (Nat.le_refl _) (fun k hk => by cases hk)
  clear hgrow
  obtain ⟨cs1, R1, hz⟩ := rowOf hown
  have Hs := hide hs
  clear hown hs
  go_wp2_with fail
  go_loopw [4] (fun i wr => ∃ (k : Nat) (cs : Array Value) (qf : Nat → Nat), k ≤ n ∧ i = .int .i64 k ∧ Row wr w.heap.size cs 88 ∧ cs.size = n * 4 ∧ Below w.heap.size w wr ∧ Hid ((∀ j, (hj : j < N.length) → j < k → VlX wr w.heap.size cs (j * 4) (qf j) N[j]) ∧ ∀ i j, i < j → j < k → qf i < qf j)) (fun i _ => n - (intOf i).toNat)
  case atStart => exact ⟨0, cs1, fun _ => 0, Nat.zero_le _, rfl, R1, hz, hb1, hide ⟨fun j _ h => absurd h (by omega), fun i j _ h => absurd h (by omega)⟩⟩
  case round =>
    obtain ⟨k, cs, qf, hk, rfl, R2, hz2, B2, Ha⟩ := hrel
    clear R1 hb1
    by_cases hlt : k < n
    · have ilt : (k : Int) < (n : Int) := by omega
      have hkl : k < N.length := by rw [unhide Hl]; exact hlt
      have hsx := unhide Hs N[k] (List.getElem_mem hkl)
      obtain ⟨b, off, rfl, hbl, an, nn, cn, c0, c1, c2, c3, hN⟩ := (h.below B2 (Nat.le_refl _)).cells k hkl
      have hgl := R2.lt
      have k1 : nn ≤ 1048576 := by rw [hN.len]; exact hsx.2.1
      have HY := hide (fun (w2 : World) (hb2 : Below wr.heap.size wr w2) (v0 v1 v2 v3 : Value) (q : Nat) (hq : wr.heap.size ≤ q) (e : VlX (pu4 w2 w.heap.size (k * 4) v0 v1 v2 v3) w.heap.size (pu4A cs (k * 4) v0 v1 v2 v3) (k * 4) q N[k]) => show (∀ j, (hj : j < N.length) → j < k + 1 → VlX (pu4 w2 w.heap.size (k * 4) v0 v1 v2 v3) w.heap.size (pu4A cs (k * 4) v0 v1 v2 v3) (j * 4) (if j = k then q else qf j) N[j]) ∧ ∀ i j, i < j → j < k + 1 → (if i = k then q else qf i) < (if j = k then q else qf j) from ⟨fun j hj h' => by
        by_cases ej : j = k
        · subst ej; rw [if_pos rfl]; exact e
        · rw [if_neg ej]; exact ((unhide Ha).1 j hj (by omega)).step hb2 (by omega) _ _ _ _, fun i j hij hj => by
        rw [if_neg (by omega)]
        by_cases ej : j = k
        · rw [if_pos ej]
          have := ((unhide Ha).1 i (by omega) (by omega)).q
          omega
        · rw [if_neg ej]; exact (unhide Ha).2 i j hij (by omega)⟩)
      have Hlt := hide hlt
      have Hh := hide h
      clear Ha h hsx
      generalize N[k] = x at c0 c1 c2 c3 hN HY
      obtain ⟨u0, e0⟩ := someAt (cs := cs) (p := k * 4) (by omega)
      obtain ⟨u1, e1⟩ := someAt (cs := cs) (p := k * 4 + 1) (by omega)
      obtain ⟨u2, e2⟩ := someAt (cs := cs) (p := k * 4 + 2) (by omega)
      obtain ⟨u3, e3⟩ := someAt (cs := cs) (p := k * 4 + 3) (by omega)
      have HE := hide (And.intro e0 (And.intro e1 (And.intro e2 e3)))
      clear e0 e1 e2 e3
      go_wp2_with (go_at_call 48; refine (toValue_any x an nn cn _ hN k1).mono ?_; rintro e w2 ⟨q, rfl, hN2, g1, hb2⟩; have R3 := R2.after hb2 (Nat.le_refl _); have f3 := (fun j => R3.frozen j); have d0 := (R3.cell _).trans (unhide HE).1; have d1 := (R3.cell _).trans (unhide HE).2.1; have d2 := (R3.cell _).trans (unhide HE).2.2.1; have d3 := (R3.cell _).trans (unhide HE).2.2.2)
      obtain ⟨m0, m1, m2, m3⟩ := pu4A_at (cs := cs) (p := k * 4) (by omega) (.int .i64 x.kind) (.int .i64 x.num) (.string x.text) (.slice (some ⟨q, 0, none⟩) nn nn)
      have E2 := B2.trans (hb2.mono B2.size)
      refine ⟨⟨k + 1, _, _, unhide Hlt, by go_num, pu4_row R3 _ _ _ _, by rw [pu4A_size]; exact hz2, pu4_below E2 (Nat.le_refl _) _ _ _ _, hide (unhide HY w2 hb2 _ _ _ _ q g1 ⟨nn, m0, m1, m2, m3, own_pu4 (ownsRow_low' hN2 (by omega)) (by omega) _ _ _ _⟩)⟩, by have := unhide Hlt; simp [intOf]; omega⟩
    · have HX := hide (show HiV wr w.heap.size n N from ⟨cs, qf, R2, hz2, fun j hj => (unhide Ha).1 j hj (by have := unhide Hl; omega), fun i j hij hj => (unhide Ha).2 i j hij (by have := unhide Hl; omega)⟩)
      clear Ha
      have e : k = n := by omega
      have ilt : ¬ ((k : Int) < (n : Int)) := by omega
      go_wp2_with fail
      go_ret
      exact ⟨rfl, B2, unhide HX⟩

end Go.Proofs.YtogenboibgddaaaGreatDoor

namespace Go.Proofs.YtogenboibgddaaaGreatDoor
open Go.RowKit
set_option linter.unusedVariables false

theorem Kpt.of_grown {w w' : World} {row : Option Nat} (g : w.grownBy w' row) : Kpt (fun k => row = some k) w w' := ⟨g.os, g.tape, g.output, g.size, fun k hk h => g.block k hk (fun e => h e.symm)⟩

theorem ZS.kpt {S : Nat → Prop} {w w' : World} {a : Option Addr} {c : Nat} (h : ZS w a c) (k : Kpt S w w') (hS : ∀ b cs, Row w b cs 9 → ¬ S b) : ZS w' a c := ⟨h.1, fun ad e => by
  obtain ⟨cs, r⟩ := h.2 ad e
  exact ⟨cs, r.kpt k (hS _ _ r)⟩⟩

theorem MVx.kpt {S : Nat → Prop} {w w' : World} {num : Int} {text : ByteArray} {a : Option Addr} {n c : Nat} {v : Vv} (h : MVx w num text a n c v) (k : Kpt S w w') (hS : ∀ b cs, Row w b cs 9 → ¬ S b) : MVx w' num text a n c v :=
  ⟨h.1, h.2.1.kpt k (fun ad e _ => by
    obtain ⟨cs, r⟩ := h.2.2.2.2 ad e
    exact hS _ _ r), h.2.2.1, h.2.2.2.kpt k hS⟩

/-- rows of two types are two rows -/
theorem Row.ne {w : World} {b d : Nat} {cs ds : Array Value} {t u : TypeId} (h : Row w b cs t) (k : Row w d ds u) (ht : t ≠ u) : b ≠ d := fun e => by
  have := h.out
  rw [e, k.out] at this
  simp at this
  exact ht this.2.symm

/-- the stack, in a row -/
def StO (w : World) (B : Nat) (sa : Option Addr) (sc : Nat) (st : List Vv) (xs : List Value) : Prop :=
  w.ownsRow B 90 4 (.slice sa st.length sc) st.length xs ∧ ∀ j, (h : j < st.length) → ∃ num text av nv cv, xs[j * 4]? = some (.int .i64 0) ∧ xs[j * 4 + 1]? = some (.int .i64 num) ∧ xs[j * 4 + 2]? = some (.string text) ∧ xs[j * 4 + 3]? = some (.slice av nv cv) ∧ MVx w num text av nv cv st[j]

theorem StO.one {w : World} {B : Nat} {sa : Option Addr} {sc : Nat} {st : List Vv} {xs : List Value} (h : StO w B sa sc st xs) : ∀ u ∈ xs, u.oneCell' = true := by
  intro u hu
  obtain ⟨i, hi, rfl⟩ := List.getElem_of_mem hu
  have hl := h.1.1
  obtain ⟨num, text, av, nv, cv, e0, e1, e2, e3, _⟩ := h.2 (i / 4) (by omega)
  rcases (show i / 4 * 4 = i ∨ i / 4 * 4 + 1 = i ∨ i / 4 * 4 + 2 = i ∨ i / 4 * 4 + 3 = i by omega) with q | q | q | q
  · rw [q, List.getElem?_eq_getElem hi] at e0; rw [Option.some.inj e0]; rfl
  · rw [q, List.getElem?_eq_getElem hi] at e1; rw [Option.some.inj e1]; rfl
  · rw [q, List.getElem?_eq_getElem hi] at e2; rw [Option.some.inj e2]; rfl
  · rw [q, List.getElem?_eq_getElem hi] at e3; rw [Option.some.inj e3]; rfl

theorem StO.kpt {S : Nat → Prop} {w w' : World} {B : Nat} {sa : Option Addr} {sc : Nat} {st : List Vv} {xs : List Value} (h : StO w B sa sc st xs) (k : Kpt S w w') (hS : ∀ b cs, Row w b cs 9 → ¬ S b) (hO : ∀ q, (Value.slice sa st.length sc).ownBlock = some q → ¬ S q) : StO w' B sa sc st xs :=
  ⟨owns_blocks2 h.1 (fun q hq => k.block q (h.1.lt q hq).2 (hO q hq)), fun j hj => by
    obtain ⟨num, text, av, nv, cv, e0, e1, e2, e3, hv⟩ := h.2 j hj
    exact ⟨num, text, av, nv, cv, e0, e1, e2, e3, hv.kpt k hS⟩⟩

theorem StO.below {w w' : World} {B C : Nat} {sa : Option Addr} {sc : Nat} {st : List Vv} {xs : List Value} (h : StO w B sa sc st xs) (hb : Below C w w') (hC : w.heap.size ≤ C) : StO w' B sa sc st xs :=
  ⟨ownsRow_below h.1 hb hC, fun j hj => by
    obtain ⟨num, text, av, nv, cv, e0, e1, e2, e3, hv⟩ := h.2 j hj
    exact ⟨num, text, av, nv, cv, e0, e1, e2, e3, hv.below hb hC⟩⟩

theorem StO.low {w : World} {B C : Nat} {sa : Option Addr} {sc : Nat} {st : List Vv} {xs : List Value} (h : StO w B sa sc st xs) (hb : C ≤ B) : StO w C sa sc st xs := by
  refine ⟨⟨h.1.1, ?_⟩, h.2⟩
  rcases h.1.2 with h2 | ⟨g, cap, cur, hv, h3, h4⟩
  · exact .inl h2
  · exact .inr ⟨g, cap, cur, hv, Nat.le_trans hb h3, h4⟩

theorem StO.short {w : World} {B : Nat} {sa : Option Addr} {sc : Nat} {st : List Vv} {xs : List Value} (h : StO w B sa sc st xs) (m : Nat) (hm : m ≤ st.length) : StO w B sa sc (st.take m) (xs.take (m * 4)) := by
  have hl : (st.take m).length = m := by rw [List.length_take]; omega
  refine ⟨by rw [hl]; exact ownsRow_short h.1 hm, fun j hj => ?_⟩
  rw [hl] at hj
  obtain ⟨num, text, av, nv, cv, e0, e1, e2, e3, hv⟩ := h.2 j (by omega)
  refine ⟨num, text, av, nv, cv, ?_, ?_, ?_, ?_, ?_⟩
  · rw [List.getElem?_take, if_pos (by omega)]; exact e0
  · rw [List.getElem?_take, if_pos (by omega)]; exact e1
  · rw [List.getElem?_take, if_pos (by omega)]; exact e2
  · rw [List.getElem?_take, if_pos (by omega)]; exact e3
  · rw [List.getElem_take]; exact hv

theorem StO.push {w w7 : World} {B : Nat} {sa : Option Addr} {sc : Nat} {st : List Vv} {xs : List Value} (h : StO w B sa sc st xs) {num : Int} {text : ByteArray} {av : Option Addr} {nv cv : Nat} {v : Vv} (hv : MVx w num text av nv cv v) {g7 cap7 : Nat} (O7 : w7.ownsRow B 90 4 (.slice (some ⟨g7, 0, none⟩) (st.length + 1) cap7) (st.length + 1) (xs ++ [.int .i64 0, .int .i64 num, .string text, .slice av nv cv])) (hg : w.grownBy w7 (Value.slice sa st.length sc).ownBlock) :
    StO w7 B (some ⟨g7, 0, none⟩) cap7 (st ++ [v]) (xs ++ [.int .i64 0, .int .i64 num, .string text, .slice av nv cv]) := by
  have hr : ∀ b cs, Row w b cs 9 → ¬ (Value.slice sa st.length sc).ownBlock = some b := fun b cs r e => own_ne_row r h.1 (by decide) e
  have K := Kpt.of_grown hg
  have hl : (st ++ [v]).length = st.length + 1 := by simp
  have hx := h.1.1
  refine ⟨by rw [hl]; exact O7, fun j hj => ?_⟩
  by_cases hj2 : j < st.length
  · obtain ⟨num', text', av', nv', cv', e0, e1, e2, e3, hv'⟩ := h.2 j hj2
    refine ⟨num', text', av', nv', cv', ?_, ?_, ?_, ?_, ?_⟩
    · rw [List.getElem?_append_left (by omega)]; exact e0
    · rw [List.getElem?_append_left (by omega)]; exact e1
    · rw [List.getElem?_append_left (by omega)]; exact e2
    · rw [List.getElem?_append_left (by omega)]; exact e3
    · rw [List.getElem_append_left hj2]; exact hv'.kpt K hr
  · have ej : j = st.length := by omega
    subst ej
    refine ⟨num, text, av, nv, cv, ?_, ?_, ?_, ?_, ?_⟩
    · rw [List.getElem?_append_right (by omega), hx, Nat.sub_self]; rfl
    · rw [List.getElem?_append_right (by omega), hx, Nat.add_sub_cancel_left]; rfl
    · rw [List.getElem?_append_right (by omega), hx, Nat.add_sub_cancel_left]; rfl
    · rw [List.getElem?_append_right (by omega), hx, Nat.add_sub_cancel_left]; rfl
    · rw [List.getElem_append_right (Nat.le_refl _)]
      simp only [Nat.sub_self, List.getElem_cons_zero]
      exact hv.kpt K hr

/-- where its values lie -/
theorem StO.at {w : World} {B : Nat} {sa : Option Addr} {sc : Nat} {st : List Vv} {xs : List Value} (h : StO w B sa sc st xs) (j : Nat) (hj : j < st.length) : ∃ g num text av nv cv, sa = some ⟨g, 0, none⟩ ∧ B ≤ g ∧ g < w.heap.size ∧ w.cell? ⟨g, j * 4, none⟩ = some (.int .i64 0) ∧ w.cell? ⟨g, j * 4 + 1, none⟩ = some (.int .i64 num) ∧ w.cell? ⟨g, j * 4 + 2, none⟩ = some (.string text) ∧ w.cell? ⟨g, j * 4 + 3, none⟩ = some (.slice av nv cv) ∧ MVx w num text av nv cv st[j] := by
  obtain ⟨x, c, e, hx⟩ := owns_form2 h.1
  simp only [Value.slice.injEq] at e
  obtain ⟨rfl, _, rfl⟩ := e
  obtain ⟨g, rfl, hb, hc⟩ := hx (by omega)
  obtain ⟨num, text, av, nv, cv, e0, e1, e2, e3, hv⟩ := h.2 j hj
  exact ⟨g, num, text, av, nv, cv, rfl, hb, (h.1.lt g rfl).2, hc _ _ e0, hc _ _ e1, hc _ _ e2, hc _ _ e3, hv⟩

theorem StO.cap {w : World} {B : Nat} {sa : Option Addr} {sc : Nat} {st : List Vv} {xs : List Value} (h : StO w B sa sc st xs) : st.length ≤ sc := by
  rcases h.1.2 with ⟨hv, h0⟩ | ⟨g, cap, cur, hv, hb, hg, hnc, hcm, hcs, htake⟩
  · simp only [Value.slice.injEq] at hv; omega
  · simp only [Value.slice.injEq] at hv; omega

/-- the slots, in a row -/
structure SlO (w : World) (lb S : Nat) (sl : List (Option Vv)) (cs : Array Value) : Prop where
  row : Row w lb cs 90
  len : cs.size = S * 4 ∧ sl.length = S
  vals : ∀ j, j < S → ∃ num text av nv cv, cs[j * 4]? = some (.int .i64 0) ∧ cs[j * 4 + 1]? = some (.int .i64 num) ∧ cs[j * 4 + 2]? = some (.string text) ∧ cs[j * 4 + 3]? = some (.slice av nv cv) ∧ ∀ v, sl.getD j none = some v → MVx w num text av nv cv v

theorem SlO.kpt {T : Nat → Prop} {w w' : World} {lb S : Nat} {sl : List (Option Vv)} {cs : Array Value} (h : SlO w lb S sl cs) (k : Kpt T w w') (hT : ∀ b cs, Row w b cs 9 → ¬ T b) (hl : ¬ T lb) : SlO w' lb S sl cs :=
  ⟨h.row.kpt k hl, h.len, fun j hj => by
    obtain ⟨num, text, av, nv, cv, e0, e1, e2, e3, hv⟩ := h.vals j hj
    exact ⟨num, text, av, nv, cv, e0, e1, e2, e3, fun v e => (hv v e).kpt k hT⟩⟩

theorem SlO.below {w w' : World} {C lb S : Nat} {sl : List (Option Vv)} {cs : Array Value} (h : SlO w lb S sl cs) (hb : Below C w w') (hC : w.heap.size ≤ C) : SlO w' lb S sl cs :=
  ⟨h.row.after hb hC, h.len, fun j hj => by
    obtain ⟨num, text, av, nv, cv, e0, e1, e2, e3, hv⟩ := h.vals j hj
    exact ⟨num, text, av, nv, cv, e0, e1, e2, e3, fun v e => (hv v e).below hb hC⟩⟩

theorem pu4_kpt (w : World) (b p : Nat) (v0 v1 v2 v3 : Value) : Kpt (fun k => k = b) w (pu4 w b p v0 v1 v2 v3) :=
  ((((Kpt.refl (fun k => k = b) w).setCell (p := ⟨b, p, none⟩) (fun _ => rfl) v0).setCell (p := ⟨b, p + 1, none⟩) (fun _ => rfl) v1).setCell (p := ⟨b, p + 2, none⟩) (fun _ => rfl) v2).setCell (p := ⟨b, p + 3, none⟩) (fun _ => rfl) v3

theorem SlO.set {w : World} {lb S : Nat} {sl : List (Option Vv)} {cs : Array Value} (h : SlO w lb S sl cs) {i : Nat} (hi : i < S) {num : Int} {text : ByteArray} {av : Option Addr} {nv cv : Nat} {v : Vv} (hv : MVx w num text av nv cv v) :
    SlO (pu4 w lb (i * 4) (.int .i64 0) (.int .i64 num) (.string text) (.slice av nv cv)) lb S (sl.set i (some v)) (pu4A cs (i * 4) (.int .i64 0) (.int .i64 num) (.string text) (.slice av nv cv)) := by
  have hl := h.len
  have K := pu4_kpt w lb (i * 4) (.int .i64 0) (.int .i64 num) (.string text) (.slice av nv cv)
  have hT : ∀ b cs, Row w b cs 9 → ¬ b = lb := fun b cs r => Row.ne r h.row (by decide)
  refine ⟨pu4_row h.row _ _ _ _, ⟨by rw [pu4A_size]; exact hl.1, by rw [List.length_set]; exact hl.2⟩, fun j hj => ?_⟩
  by_cases e : j = i
  · subst e
    obtain ⟨q0, q1, q2, q3⟩ := pu4A_at (cs := cs) (p := j * 4) (by omega) (.int .i64 0) (.int .i64 num) (.string text) (.slice av nv cv)
    refine ⟨num, text, av, nv, cv, q0, q1, q2, q3, fun u hu => ?_⟩
    rw [List.getD_eq_getElem?_getD, List.getElem?_set_self (by omega)] at hu
    cases hu
    exact hv.kpt K hT
  · obtain ⟨num', text', av', nv', cv', e0, e1, e2, e3, hv'⟩ := h.vals j hj
    refine ⟨num', text', av', nv', cv', ?_, ?_, ?_, ?_, fun u hu => ?_⟩
    · rw [pu4A_ne (by omega)]; exact e0
    · rw [pu4A_ne (by omega)]; exact e1
    · rw [pu4A_ne (by omega)]; exact e2
    · rw [pu4A_ne (by omega)]; exact e3
    · rw [List.getD_eq_getElem?_getD, List.getElem?_set_ne (fun q => e q.symm), ← List.getD_eq_getElem?_getD] at hu
      exact (hv' u hu).kpt K hT

theorem infoM : (Tryz.prog.info? 90).map (fun i => (i.zero, i.size, i.bytes)) = some (some (.agg #[.int .i64 0, .int .i64 0, .string ByteArray.empty, .slice none 0 0]), 4, 56) := by kernel_rfl

/-- the stack is copied -/
theorem append_stk {w : World} {ops : Array Oper} {rest : List Oper} {o : Oper} {a : Act} {Q : Exit → Act → World → Prop} (hgd : o.guard = none) (s x : Operand)
    (ho : o.op = .call { callee := .builtin .append, args := #[s, x], argTypes := #[57, 57] })
    (base B : Nat) (hs : a.eval s = .slice none 0 0) (sa : Option Addr) (n sc : Nat) (st : List Vv) (xs : List Value) (hn : st.length = n) (hx : a.eval x = .slice sa n sc) (hO : StO w B sa sc st xs) (hsz : n ≤ 1000) (hbase : base ≤ w.heap.size)
    (h : ∀ x' c' w', StO w' base x' c' st xs → Below w.heap.size w w' → wpList Tryz.prog ops Q rest (a.put o.dst (.slice x' n c')) w') : wpList Tryz.prog ops Q (o :: rest) a w := by
  obtain ⟨i, hi, hz0, hz1, hz2⟩ := info_parts infoM
  subst hn
  have nil := World.ownsRow_nil w base 90 4
  have mv := hO.2
  rcases hO.1.2 with ⟨hv, h0⟩ | ⟨g, cap, cur, hv, hb, hg, hnc, hcm, hcs, htake⟩
  · simp only [Value.slice.injEq] at hv
    obtain ⟨rfl, _, rfl⟩ := hv
    obtain rfl : st = [] := List.eq_nil_of_length_eq_zero h0
    obtain rfl : xs = [] := List.eq_nil_of_length_eq_zero (by simpa using hO.1.1)
    exact wpList_append_own_none hgd s x 57 ho base 90 i 4 Tryz.underlying57 hi _ 0 [] hs nil hx (h none 0 w ⟨nil, fun j hj => absurd hj (by simp)⟩ (Below.refl _ _))
  · simp only [Value.slice.injEq, true_and] at hv
    obtain ⟨rfl, rfl⟩ := hv
    refine wpList_append_own w hgd s x 57 ho base 90 i (.agg #[.int .i64 0, .int .i64 0, .string ByteArray.empty, .slice none 0 0]) 4 56 Tryz.underlying57 hi hz0 hz1 hz2 rfl (by decide) _ 0 [] hs nil ⟨g, 0, none⟩ st.length sc xs hx hO.1.1 (hO.1.cells rfl) hO.one ?_ ?_ hbase ?_
    · unfold maxLen; omega
    · omega
    · intro v' w' hown hgrow _
      rw [Nat.zero_add, List.nil_append] at hown
      obtain ⟨x', c', rfl, _⟩ := owns_form2 hown
      have hb : Below w.heap.size w w' := ⟨hgrow.os, hgrow.tape, hgrow.output, hgrow.size, fun k hk => hgrow.block k hk (by simp [Value.ownBlock])⟩
      exact h x' c' w' ⟨hown, fun j hj => by
        obtain ⟨num, text, av, nv, cv, e0, e1, e2, e3, hv⟩ := mv j hj
        exact ⟨num, text, av, nv, cv, e0, e1, e2, e3, hv.below hb (Nat.le_refl _)⟩⟩ hb

/-- what the model's machine gives -/
def RnG (B lb : Nat) (X : Rn) (w : World) (r : Ending) (w' : World) : Prop := (∃ x cx, r = .returned (.agg #[.int .i64 X.out.1, .int .i64 X.out.2.1, .slice x X.out.2.2.length cx, .int .i64 X.steps, .int .i64 X.peak]) ∧ w'.ownsRow B 9 1 (.slice x X.out.2.2.length cx) X.out.2.2.length (X.out.2.2.map Value.string)) ∧ Kpt (fun k => k = lb) w w' ∧ X.out.2.2.length ≤ 1048576 ∧ ∀ j, j < X.out.2.2.length → (nth X.out.2.2 j).size ≤ maxLen

/-- what the model's machine stands on -/
structure EnvM (w : World) (ap : Option Addr) (np cp : Nat) (a1 : Option Addr) (n1 c1 : Nat) (a2 : Option Addr) (n2 c2 : Nat) (P : List Vl) (R : Rq) : Prop where
  pool : Vls w ap np cp P
  nam : ∀ j, j < P.length → ∀ b off, ap = some ⟨b, off, none⟩ → ∀ an nn cn, w.cell? ⟨b, off + j * 4 + 3, none⟩ = some (.slice an nn cn) → ZS w an cn
  val : ∀ x ∈ P, valB x = true ∧ x.names.length ≤ 1048576 ∧ I64 x.num
  q1 : Strs w a1 n1 c1 R.s1
  q2 : Strs w a2 n2 c2 R.s2
  z1 : ZS w a1 c1
  z2 : ZS w a2 c2
  lim : I64 R.lv ∧ I64 R.nw ∧ R.s1.length ≤ 1048576 ∧ R.s2.length ≤ 1048576

theorem row2M {w : World} {b : Nat} {v0 v1 : Value} {t : TypeId} (R : Row w b #[v0, v1] t) : w.cell? ⟨b, 0, none⟩ = some v0 ∧ w.cell? ⟨b, 1, none⟩ = some v1 := ⟨R.cell 0, R.cell 1⟩
theorem row3M {w : World} {b : Nat} {v0 v1 v2 : Value} {t : TypeId} (R : Row w b #[v0, v1, v2] t) : w.cell? ⟨b, 0, none⟩ = some v0 ∧ w.cell? ⟨b, 1, none⟩ = some v1 ∧ w.cell? ⟨b, 2, none⟩ = some v2 := ⟨R.cell 0, R.cell 1, R.cell 2⟩
theorem row5M {w : World} {b : Nat} {v0 v1 v2 v3 v4 : Value} {t : TypeId} (R : Row w b #[v0, v1, v2, v3, v4] t) : w.cell? ⟨b, 0, none⟩ = some v0 ∧ w.cell? ⟨b, 1, none⟩ = some v1 ∧ w.cell? ⟨b, 2, none⟩ = some v2 ∧ w.cell? ⟨b, 3, none⟩ = some v3 ∧ w.cell? ⟨b, 4, none⟩ = some v4 := ⟨R.cell 0, R.cell 1, R.cell 2, R.cell 3, R.cell 4⟩
theorem row6M {w : World} {b : Nat} {v0 v1 v2 v3 v4 v5 : Value} {t : TypeId} (R : Row w b #[v0, v1, v2, v3, v4, v5] t) : w.cell? ⟨b, 0, none⟩ = some v0 ∧ w.cell? ⟨b, 1, none⟩ = some v1 ∧ w.cell? ⟨b, 2, none⟩ = some v2 ∧ w.cell? ⟨b, 3, none⟩ = some v3 ∧ w.cell? ⟨b, 4, none⟩ = some v4 ∧ w.cell? ⟨b, 5, none⟩ = some v5 := ⟨R.cell 0, R.cell 1, R.cell 2, R.cell 3, R.cell 4, R.cell 5⟩

theorem set5 {w : World} {b : Nat} {v0 v1 v2 v3 v4 : Value} {t : TypeId} (R : Row w b #[v0, v1, v2, v3, v4] t) (u0 u1 u2 u3 u4 : Value) : Row (((((w.setCell ⟨b, 0, none⟩ u0).setCell ⟨b, 1, none⟩ u1).setCell ⟨b, 2, none⟩ u2).setCell ⟨b, 3, none⟩ u3).setCell ⟨b, 4, none⟩ u4) b #[u0, u1, u2, u3, u4] t :=
  ((((R.set 0 u0).set 1 u1).set 2 u2).set 3 u3).set 4 u4

theorem kpt5 {S : Nat → Prop} {w w' : World} {b : Nat} (h : Kpt S w w') (hb : w.heap.size ≤ b) (u0 u1 u2 u3 u4 : Value) : Kpt S w (((((w'.setCell ⟨b, 0, none⟩ u0).setCell ⟨b, 1, none⟩ u1).setCell ⟨b, 2, none⟩ u2).setCell ⟨b, 3, none⟩ u3).setCell ⟨b, 4, none⟩ u4) :=
  ((((h.setCell (p := ⟨b, 0, none⟩) (fun q => absurd q (Nat.not_lt.2 hb)) u0).setCell (p := ⟨b, 1, none⟩) (fun q => absurd q (Nat.not_lt.2 hb)) u1).setCell (p := ⟨b, 2, none⟩) (fun q => absurd q (Nat.not_lt.2 hb)) u2).setCell (p := ⟨b, 3, none⟩) (fun q => absurd q (Nat.not_lt.2 hb)) u3).setCell (p := ⟨b, 4, none⟩) (fun q => absurd q (Nat.not_lt.2 hb)) u4

theorem kpt3 {S : Nat → Prop} {w w' : World} {b : Nat} (h : Kpt S w w') (hb : w.heap.size ≤ b ∨ S b) (u0 u1 u2 : Value) : Kpt S w (((w'.setCell ⟨b, 0, none⟩ u0).setCell ⟨b, 1, none⟩ u1).setCell ⟨b, 2, none⟩ u2) :=
  have hq : b < w.heap.size → S b := fun q => hb.resolve_left (Nat.not_le.2 q)
  ((h.setCell (p := ⟨b, 0, none⟩) hq u0).setCell (p := ⟨b, 1, none⟩) hq u1).setCell (p := ⟨b, 2, none⟩) hq u2

theorem below_grown0 {w w' : World} {n c : Nat} (h : w.grownBy w' (Value.slice none n c).ownBlock) : Below w.heap.size w w' := ⟨h.os, h.tape, h.output, h.size, fun k hk => h.block k hk (by simp [Value.ownBlock])⟩

theorem wrapN {n : Nat} (h : n ≤ 20000) : IntKind.i64.wrap (n : Int) = n := by
  simp [IntKind.wrap, IntKind.bits, IntKind.signed]
  omega

theorem grown_len {w w' : World} {a : Option Addr} {n c : Nat} (h : w.grownBy w' (Value.slice a n c).ownBlock) (m : Nat) : w.grownBy w' (Value.slice a m c).ownBlock := by
  cases a <;> exact h

theorem own5 {w : World} {base : Nat} {e : TypeId} {size n b : Nat} {v : Value} {xs : List Value} (h : w.ownsRow base e size v n xs) (hp : ∀ q, v.ownBlock = some q → q ≠ b) (u0 u1 u2 u3 u4 : Value) : (((((w.setCell ⟨b, 0, none⟩ u0).setCell ⟨b, 1, none⟩ u1).setCell ⟨b, 2, none⟩ u2).setCell ⟨b, 3, none⟩ u3).setCell ⟨b, 4, none⟩ u4).ownsRow base e size v n xs :=
  own_set3 (own_set3 (own_set3 (own_set3 (own_set3 h ⟨b, 0, none⟩ u0 hp) ⟨b, 1, none⟩ u1 hp) ⟨b, 2, none⟩ u2 hp) ⟨b, 3, none⟩ u3 hp) ⟨b, 4, none⟩ u4 hp

theorem own_lowM {w : World} {base base' : Nat} {e : TypeId} {size : Nat} {v : Value} {n : Nat} {xs : List Value} (h : w.ownsRow base e size v n xs) (hb : base' ≤ base) : w.ownsRow base' e size v n xs := by
  refine ⟨h.1, ?_⟩
  rcases h.2 with h2 | ⟨g, cap, cur, hv, h3, h4⟩
  · exact .inl h2
  · exact .inr ⟨g, cap, cur, hv, Nat.le_trans hb h3, h4⟩

/-- a store into a row of another type -/
theorem StO.setR {w : World} {B b : Nat} {sa : Option Addr} {sc : Nat} {st : List Vv} {xs : List Value} {ds : Array Value} {t : TypeId} (h : StO w B sa sc st xs) (r : Row w b ds t) (h1 : t ≠ 9) (h2 : t ≠ 90) (j : Nat) (u : Value) : StO (w.setCell ⟨b, j, none⟩ u) B sa sc st xs :=
  h.kpt ((Kpt.refl (fun k => k = b) w).setCell (p := ⟨b, j, none⟩) (fun _ => rfl) u) (fun c cs q => Row.ne q r (fun e => h1 e.symm)) (fun q hq e => own_ne_row r h.1 h2 (by rw [hq, e]))

theorem SlO.setR {w : World} {lb S b : Nat} {sl : List (Option Vv)} {cs ds : Array Value} {t : TypeId} (h : SlO w lb S sl cs) (r : Row w b ds t) (h1 : t ≠ 9) (h2 : t ≠ 90) (j : Nat) (u : Value) : SlO (w.setCell ⟨b, j, none⟩ u) lb S sl cs :=
  h.kpt ((Kpt.refl (fun k => k = b) w).setCell (p := ⟨b, j, none⟩) (fun _ => rfl) u) (fun c cs q => Row.ne q r (fun e => h1 e.symm)) (Row.ne h.row r (fun e => h2 e.symm))

end Go.Proofs.YtogenboibgddaaaGreatDoor

namespace Go.Proofs.YtogenboibgddaaaGreatDoor
open Go.RowKit
set_option linter.unusedVariables false

variable {aS aO aZ aW : Addr} {B mb lb : Nat} {ap : Option Addr} {np cp : Nat} {iv : Value} {a1 : Option Addr} {n1 c1 : Nat} {a2 : Option Addr} {n2 c2 : Nat} {s : Int} {R : Rq} {S : Nat} {at_ : Nat} {st : List Vv} {sl : List (Option Vv)} {sa : Option Addr} {sc : Nat} {xs ys : List Value} {w w0 : World} {P : List Vl}

/-- what an operator over the stack leads to: an error, or a value -/
def ResA (aS aO aZ aW : Addr) (G : Nat → Prop) (o : Ev) (x e : Value) (w : World) : Prop := match o with
  | .ok v => e = .nilIface ∧ VIs G w x v
  | .err c => e = errV aS aO aZ aW c ∧ 1 ≤ c ∧ c ≤ 4

theorem OAns.res {G : Nat → Prop} {o : Ev} {w w' : World} {r : Ending} (h : OAns G aS aO aZ aW o w r w') : ∃ x e, r = .returned (.tuple #[x, e]) ∧ ResA aS aO aZ aW G o x e w' ∧ Below w.heap.size w w' := by
  obtain ⟨h1, hb⟩ := h
  cases o with
  | ok v => obtain ⟨x, rfl, hx⟩ := h1; exact ⟨x, _, rfl, ⟨rfl, hx⟩, hb⟩
  | err c => obtain ⟨x, rfl, hx⟩ := h1; exact ⟨x, _, rfl, ⟨rfl, hx⟩, hb⟩

theorem good_new {B mb lb : Nat} {pv iv q1 q2 : Value} {s : Int} {R : Rq} {S : Nat} {at_ : Int} {st : List Vv} {sl : List (Option Vv)} {sa : Option Addr} {sc : Nat} {xs ys : List Value} {w : World} (h : McO B mb lb pv iv q1 q2 s R S at_ st sl sa sc xs ys w) {b : Nat} (hb : w.heap.size ≤ b) : gdM mb lb sa b :=
  ⟨by have := h.row.lt; omega, by have := h.slr.lt; omega, fun ad e => by
    have := (h.stk.lt ad.block (by rw [e]; rfl)).2
    omega⟩

set_option maxRecDepth 100000 in
set_option maxHeartbeats 6400000 in
theorem result_un (op : Int) (ho : 8 ≤ op ∧ op ≤ 10) (az : Int) (zs : List Vv) (v : Vv) (h : McO B mb lb (.slice ap np cp) iv (.slice a1 n1 c1) (.slice a2 n2 c2) s R S az (zs ++ [v]) sl sa sc xs ys w) (hn : zs.length ≤ 100) (ht : Hid (∃ t, nz (tyOp op [v.ty]) = some t)) (hs : Hid (∀ w', Kpt (fun k => k = mb) w w' → Sent w' aS aO aZ aW)) (htab : Hid (∀ w', Kpt (fun k => k = mb) w w' → 7 < w'.heap.size ∧ ∀ k, w'.cell? ⟨7, k, none⟩ = binV[k]?)) :
    Calls Tryz.prog 112 #[.pointer (some ⟨mb, 0, none⟩), .int .i64 op] w fun r w' => ∃ x e, r = .returned (.tuple #[x, e]) ∧ ResA aS aO aZ aW (gdM mb lb sa) (evUn op v) x e w' ∧ ∃ ws, McO B mb lb (.slice ap np cp) iv (.slice a1 n1 c1) (.slice a2 n2 c2) s R S az zs sl sa sc ws ys w' ∧ Kpt (fun k => k = mb) w w' := by
  obtain ⟨ws, x, rfl, hwl, hx⟩ := h.last
  obtain ⟨t1, u1, rfl⟩ := hx.form
  have e9 : (zs ++ [v]).length = zs.length + 1 := by simp
  have HP := hide (pop_any mb B zs.length sc _ _ _ _ _ _ _ _ _ _ _ sa ws t1 u1 w (by have := h.row; rw [e9] at this; exact this) (by have := h.stk; rw [e9] at this; exact this) (by omega))
  have HH := hide h
  have HX := hide hx
  have HWL := hide hwl
  have HKN := hide (show kidN op = 1 by rw [kidN, if_neg (by omega), if_pos ho])
  clear h hx hwl e9 ho
  go_enter Tryz.func112, Tryz.ntmps112
  go_wp2_with fail
  refine (unhide HP).mono ?_
  rintro r w1 ⟨rfl, R1, O1, K1⟩
  have HM1 := hide ((unhide HH).pop (unhide HWL) R1 O1 K1)
  have HX1 := hide ((unhide HX).kpt K1 (fun b hb => hb.1))
  have HK1 := hide K1
  clear HP R1 O1 K1
  dsimp only
  go_wp2_with fail
  refine (kidCount_any op _ (unhide htab _ (unhide HK1)).1 (unhide htab _ (unhide HK1)).2).mono ?_
  rintro r w2 ⟨rfl, hb2⟩
  rw [unhide HKN]
  have HM2 := hide ((unhide HM1).below hb2)
  have HX2 := hide ((unhide HX1).below hb2 (Nat.le_refl _))
  have HK2 := hide ((unhide HK1).trans (Kpt.of_below (S := fun _ => False) hb2) (fun _ _ h => h.elim))
  clear HM1 HX1 HK1 hb2
  dsimp only
  go_wp2_with fail
  obtain ⟨t, ht⟩ := unhide ht
  refine (one_any op _ v t _ (unhide hs _ (unhide HK2)) (unhide HX2) ht).mono ?_
  intro r w3 hr
  obtain ⟨y, e, rfl, hy, hb3⟩ := hr.res
  have HM3 := hide ((unhide HM2).below hb3)
  have HK3 := hide ((unhide HK2).trans (Kpt.of_below (S := fun _ => False) hb3) (fun _ _ h => h.elim))
  have HY := hide hy
  clear HM2 HX2 HK2 hb3 hy hr ht
  dsimp only
  go_wp2_with fail
  exact bodyPost_ret (v := .tuple #[y, e]) (by simp [results, Tryz.results112, go_sem]) rfl ⟨y, e, rfl, unhide HY, ws, unhide HM3, unhide HK3⟩

set_option maxRecDepth 100000 in
set_option maxHeartbeats 6400000 in
theorem result_bin (op : Int) (ho : 11 ≤ op ∧ op ≤ 24) (az : Int) (zs : List Vv) (v v2 : Vv) (h : McO B mb lb (.slice ap np cp) iv (.slice a1 n1 c1) (.slice a2 n2 c2) s R S az (zs ++ [v] ++ [v2]) sl sa sc xs ys w) (hn : zs.length ≤ 100) (ht : Hid (∃ t, nz (tyOp op [v.ty, v2.ty]) = some t)) (hs : Hid (∀ w', Kpt (fun k => k = mb) w w' → Sent w' aS aO aZ aW)) (htab : Hid (∀ w', Kpt (fun k => k = mb) w w' → 7 < w'.heap.size ∧ ∀ k, w'.cell? ⟨7, k, none⟩ = binV[k]?)) :
    Calls Tryz.prog 112 #[.pointer (some ⟨mb, 0, none⟩), .int .i64 op] w fun r w' => ∃ x e, r = .returned (.tuple #[x, e]) ∧ ResA aS aO aZ aW (gdM mb lb sa) (evBin op v v2) x e w' ∧ ∃ ws, McO B mb lb (.slice ap np cp) iv (.slice a1 n1 c1) (.slice a2 n2 c2) s R S az zs sl sa sc ws ys w' ∧ Kpt (fun k => k = mb) w w' := by
  obtain ⟨ws, x, rfl, hwl, hx⟩ := h.last
  obtain ⟨t1, u1, rfl⟩ := hx.form
  have e9 : (zs ++ [v] ++ [v2]).length = zs.length + 1 + 1 := by simp
  have e8 : (zs ++ [v]).length = zs.length + 1 := by simp
  have HP := hide (pop_any mb B (zs.length + 1) sc _ _ _ _ _ _ _ _ _ _ _ sa ws t1 u1 w (by have := h.row; rw [e9] at this; exact this) (by have := h.stk; rw [e9] at this; exact this) (by omega))
  have HH := hide h
  have HX := hide hx
  have HWL := hide hwl
  have HE8 := hide e8
  have HKN := hide (show kidN op = 2 by rw [kidN, if_neg (by omega), if_neg (by omega), if_pos (by omega)])
  have HOC := hide (show op ≠ 25 ∧ op ≠ 26 by omega)
  clear h hx hwl e9 e8 ho
  go_enter Tryz.func112, Tryz.ntmps112
  go_wp2_with fail
  refine (unhide HP).mono ?_
  rintro r w1 ⟨rfl, R1, O1, K1⟩
  have M1 := (unhide HH).pop (unhide HWL) (by rw [unhide HE8]; exact R1) (by rw [unhide HE8]; exact O1) K1
  have HM1 := hide M1
  have HX1 := hide ((unhide HX).kpt K1 (fun b hb => hb.1))
  have HK1 := hide K1
  clear HP R1 O1 K1 M1
  dsimp only
  go_wp2_with fail
  refine (kidCount_any op _ (unhide htab _ (unhide HK1)).1 (unhide htab _ (unhide HK1)).2).mono ?_
  rintro r w2 ⟨rfl, hb2⟩
  rw [unhide HKN]
  have M2 := (unhide HM1).below hb2
  have HX2 := hide ((unhide HX1).below hb2 (Nat.le_refl _))
  have HK2 := hide ((unhide HK1).trans (Kpt.of_below (S := fun _ => False) hb2) (fun _ _ h => h.elim))
  obtain ⟨vs, x2, e2, hvl, hx2⟩ := M2.last
  subst e2
  obtain ⟨t2, u2, rfl⟩ := hx2.form
  have HP2 := hide (pop_any mb B zs.length sc _ _ _ _ _ _ _ _ _ _ _ sa vs t2 u2 w2 (by have := M2.row; rw [unhide HE8] at this; exact this) (by have := M2.stk; rw [unhide HE8] at this; exact this) (by omega))
  have HM2 := hide M2
  have HV2 := hide hx2
  have HVL := hide hvl
  clear HM1 HX1 HK1 hb2 M2 hx2 hvl
  dsimp only
  go_wp2_with fail
  refine (unhide HP2).mono ?_
  rintro r w3 ⟨rfl, R3, O3, K3⟩
  have HM3 := hide ((unhide HM2).pop (unhide HVL) R3 O3 K3)
  have HX3 := hide ((unhide HX2).kpt K3 (fun b hb => hb.1))
  have HV3 := hide ((unhide HV2).kpt K3 (fun b hb => hb.1))
  have HK3 := hide ((unhide HK2).trans K3 (fun _ _ h => h))
  clear HP2 R3 O3 K3 HM2 HX2 HV2 HK2
  obtain ⟨t, ht⟩ := unhide ht
  have HGG := hide (show ∀ b, w3.heap.size ≤ b → gdM mb lb sa b from fun b hb => good_new (unhide HM3) hb)
  have HC := hide (two_any op _ _ v v2 t _ (unhide hs _ (unhide HK3)) (unhide HV3) (unhide HX3) ht (unhide HOC) (unhide HGG))
  clear ht
  dsimp only
  go_wp2_with fail
  refine (unhide HC).mono ?_
  intro r w4 hr
  obtain ⟨y, e, rfl, hy, hb4⟩ := hr.res
  have HM4 := hide ((unhide HM3).below hb4)
  have HK4 := hide ((unhide HK3).trans (Kpt.of_below (S := fun _ => False) hb4) (fun _ _ h => h.elim))
  have HY := hide hy
  clear HM3 HX3 HV3 HK3 hb4 hy hr HC HGG
  dsimp only
  go_wp2_with fail
  exact bodyPost_ret (v := .tuple #[y, e]) (by simp [results, Tryz.results112, go_sem]) rfl ⟨y, e, rfl, unhide HY, vs, unhide HM4, unhide HK4⟩


end Go.Proofs.YtogenboibgddaaaGreatDoor

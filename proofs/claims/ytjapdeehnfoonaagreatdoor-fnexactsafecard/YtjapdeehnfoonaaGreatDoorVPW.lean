/-
  The law's copy of all nodes and all statements. Own work.
-/
import Derived.Test.YtjapdeehnfoonaaGreatDoorMWQ
namespace Go.Proofs.YtjapdeehnfoonaaGreatDoor
open Go.RowKit
set_option linter.unusedVariables false

theorem infoN : (Tryz.prog.info? 69).map (fun i => (i.zero, i.size, i.bytes)) = some (some (.agg #[.int .i64 0, .int .i64 0, .string ByteArray.empty, .slice none 0 0, .slice none 0 0]), 5, 80) := by kernel_rfl
theorem infoSt : (Tryz.prog.info? 71).map (fun i => (i.zero, i.size, i.bytes)) = some (some (.agg #[.int .i64 0, .string ByteArray.empty, .int .i64 0, .int .i64 0]), 4, 40) := by kernel_rfl

theorem row_of_owns {w : World} {base : Nat} {e : TypeId} {size g n c : Nat} {xs : List Value} (h : w.ownsRow base e size (.slice (some ⟨g, 0, none⟩) n c) n xs) : ∃ cur, Row w g cur e ∧ cur.size = c * size := by
  rcases h.2 with ⟨hv, _⟩ | ⟨g', cap, cur, hv, h1, h2, h3, h4, h5, h6⟩
  · cases hv
  · cases hv; exact ⟨cur, ⟨h2⟩, h5⟩

def put5A (cs : Array Value) (p : Nat) (v0 v1 v2 v3 v4 : Value) : Array Value := ((((cs.setIfInBounds p v0).setIfInBounds (p + 1) v1).setIfInBounds (p + 2) v2).setIfInBounds (p + 3) v3).setIfInBounds (p + 4) v4

theorem put5A_size (cs : Array Value) (p : Nat) (v0 v1 v2 v3 v4 : Value) : (put5A cs p v0 v1 v2 v3 v4).size = cs.size := by simp [put5A]

theorem put5A_at {cs : Array Value} {p : Nat} (h : p + 5 ≤ cs.size) (v0 v1 v2 v3 v4 : Value) : (put5A cs p v0 v1 v2 v3 v4)[p]? = some v0 ∧ (put5A cs p v0 v1 v2 v3 v4)[p + 1]? = some v1 ∧ (put5A cs p v0 v1 v2 v3 v4)[p + 2]? = some v2 ∧ (put5A cs p v0 v1 v2 v3 v4)[p + 3]? = some v3 ∧ (put5A cs p v0 v1 v2 v3 v4)[p + 4]? = some v4 := by
  unfold put5A
  refine ⟨?_, ?_, ?_, ?_, ?_⟩ <;> simp [Array.getElem?_setIfInBounds] <;> omega

theorem put5A_ne {cs : Array Value} {p q : Nat} (h : q < p) (v0 v1 v2 v3 v4 : Value) : (put5A cs p v0 v1 v2 v3 v4)[q]? = cs[q]? := by
  unfold put5A
  rw [Array.getElem?_setIfInBounds_ne (by omega), Array.getElem?_setIfInBounds_ne (by omega), Array.getElem?_setIfInBounds_ne (by omega), Array.getElem?_setIfInBounds_ne (by omega), Array.getElem?_setIfInBounds_ne (by omega)]

/-- five cells of a block, written over -/
def put5 (W : World) (b p : Nat) (v0 v1 v2 v3 v4 : Value) : World := ((((W.setCell ⟨b, p, none⟩ v0).setCell ⟨b, p + 1, none⟩ v1).setCell ⟨b, p + 2, none⟩ v2).setCell ⟨b, p + 3, none⟩ v3).setCell ⟨b, p + 4, none⟩ v4

theorem put5_row {W : World} {b p : Nat} {cs : Array Value} {t : TypeId} (h : Row W b cs t) (v0 v1 v2 v3 v4 : Value) : Row (put5 W b p v0 v1 v2 v3 v4) b (put5A cs p v0 v1 v2 v3 v4) t := ((((h.set p v0).set (p + 1) v1).set (p + 2) v2).set (p + 3) v3).set (p + 4) v4

theorem put5_below {B : Nat} {w W : World} {b p : Nat} (h : Below B w W) (hb : B ≤ b) (v0 v1 v2 v3 v4 : Value) : Below B w (put5 W b p v0 v1 v2 v3 v4) :=
  ((((h.setCell (p := ⟨b, p, none⟩) hb v0).setCell (p := ⟨b, p + 1, none⟩) hb v1).setCell (p := ⟨b, p + 2, none⟩) hb v2).setCell (p := ⟨b, p + 3, none⟩) hb v3).setCell (p := ⟨b, p + 4, none⟩) hb v4

theorem Strs.put5 {w : World} {x : Addr} {n c : Nat} {ss : List ByteArray} (h : Strs w (some x) n c ss) {b p : Nat} (hp : b ≠ x.block) (v0 v1 v2 v3 v4 : Value) : Strs (put5 w b p v0 v1 v2 v3 v4) (some x) n c ss :=
  ((((h.setFar (p := ⟨b, p, none⟩) (fun y e => by cases e; exact hp) v0).setFar (p := ⟨b, p + 1, none⟩) (fun y e => by cases e; exact hp) v1).setFar (p := ⟨b, p + 2, none⟩) (fun y e => by cases e; exact hp) v2).setFar (p := ⟨b, p + 3, none⟩) (fun y e => by cases e; exact hp) v3).setFar (p := ⟨b, p + 4, none⟩) (fun y e => by cases e; exact hp) v4

theorem Ints.put5 {w : World} {x : Addr} {n c : Nat} {ss : List Int} (h : Ints w (some x) n c ss) {b p : Nat} (hp : b ≠ x.block) (v0 v1 v2 v3 v4 : Value) : Ints (put5 w b p v0 v1 v2 v3 v4) (some x) n c ss :=
  ((((h.setFar (p := ⟨b, p, none⟩) (fun y e => by cases e; exact hp) v0).setFar (p := ⟨b, p + 1, none⟩) (fun y e => by cases e; exact hp) v1).setFar (p := ⟨b, p + 2, none⟩) (fun y e => by cases e; exact hp) v2).setFar (p := ⟨b, p + 3, none⟩) (fun y e => by cases e; exact hp) v3).setFar (p := ⟨b, p + 4, none⟩) (fun y e => by cases e; exact hp) v4

/-- a node that lies in the row already, its parts behind it -/
def NdX (w : World) (g : Nat) (cs : Array Value) (o : Nat) (x : Nd) : Prop := ∃ x1 nn x2 nk, cs[o]? = some (.int .i64 x.op) ∧ cs[o + 1]? = some (.int .i64 x.num) ∧ cs[o + 2]? = some (.string x.text) ∧ cs[o + 3]? = some (.slice (some x1) nn nn) ∧ cs[o + 4]? = some (.slice (some x2) nk nk) ∧ Strs w (some x1) nn nn x.names ∧ Ints w (some x2) nk nk x.kids ∧ g < x1.block ∧ g < x2.block

theorem NdX.step {w w2 : World} {g : Nat} {cs : Array Value} {o p : Nat} {x : Nd} (h : NdX w g cs o x) (hb : Below w.heap.size w w2) (hp : o + 5 ≤ p) (v0 v1 v2 v3 v4 : Value) : NdX (put5 w2 g p v0 v1 v2 v3 v4) g (put5A cs p v0 v1 v2 v3 v4) o x := by
  obtain ⟨x1, nn, x2, nk, c0, c1, c2, c3, c4, hN, hK, g1, g2⟩ := h
  exact ⟨x1, nn, x2, nk, (put5A_ne (by omega) _ _ _ _ _).trans c0, (put5A_ne (by omega) _ _ _ _ _).trans c1, (put5A_ne (by omega) _ _ _ _ _).trans c2, (put5A_ne (by omega) _ _ _ _ _).trans c3, (put5A_ne (by omega) _ _ _ _ _).trans c4, (hN.below hb (Nat.le_refl _)).put5 (by omega) _ _ _ _ _, (hK.below hb (Nat.le_refl _)).put5 (by omega) _ _ _ _ _, g1, g2⟩

theorem NdX.at {w : World} {g : Nat} {cs : Array Value} {o : Nat} {x : Nd} {t : TypeId} (h : NdX w g cs o x) (R : Row w g cs t) : NdAt w g o x := by
  obtain ⟨x1, nn, x2, nk, c0, c1, c2, c3, c4, hN, hK, _, _⟩ := h
  exact ⟨_, _, _, _, _, _, (R.cell _).trans c0, (R.cell _).trans c1, (R.cell _).trans c2, (R.cell _).trans c3, (R.cell _).trans c4, hN, hK⟩

/-- all nodes, in a row, their parts behind it -/
def Hi (w : World) (g : Nat) (N : List Nd) : Prop := ∃ cs, Row w g cs 69 ∧ ∀ j, (hj : j < N.length) → NdX w g cs (j * 5) N[j]

theorem Hi.nds {w : World} {g n : Nat} {N : List Nd} (h : Hi w g N) (hl : N.length = n) (hsm : n ≤ 1048576) (hs : ∀ x ∈ N, smallNd x) : Nds w (some ⟨g, 0, none⟩) n n N := by
  obtain ⟨cs, R, hx⟩ := h
  exact ⟨hl, hsm, fun x hx => (hs x hx).1, fun j hj => ⟨g, 0, rfl, R.lt, by rw [Nat.zero_add]; exact (hx j hj).at R⟩⟩

theorem Hi.below {w w' : World} {B g : Nat} {N : List Nd} (h : Hi w g N) (hb : Below B w w') (hB : w.heap.size ≤ B) : Hi w' g N := by
  obtain ⟨cs, R, hx⟩ := h
  refine ⟨cs, R.after hb hB, fun j hj => ?_⟩
  obtain ⟨x1, nn, x2, nk, c0, c1, c2, c3, c4, hN, hK, g1, g2⟩ := hx j hj
  exact ⟨x1, nn, x2, nk, c0, c1, c2, c3, c4, hN.below hb hB, hK.below hb hB, g1, g2⟩

theorem Hi.setLow {w : World} {g : Nat} {N : List Nd} (h : Hi w g N) {p : Addr} (hp : p.block < g) (u : Value) : Hi (w.setCell p u) g N := by
  obtain ⟨cs, R, hx⟩ := h
  refine ⟨cs, R.setFar (by omega) u, fun j hj => ?_⟩
  obtain ⟨x1, nn, x2, nk, c0, c1, c2, c3, c4, hN, hK, g1, g2⟩ := hx j hj
  exact ⟨x1, nn, x2, nk, c0, c1, c2, c3, c4, hN.setFar (fun y e => by cases e; omega) u, hK.setFar (fun y e => by cases e; omega) u, g1, g2⟩

theorem Sts.setFar {w : World} {g n c : Nat} {L : List St} (h : Sts w (some ⟨g, 0, none⟩) n c L) {p : Addr} (hp : p.block ≠ g) (u : Value) : Sts (w.setCell p u) (some ⟨g, 0, none⟩) n c L :=
  ⟨h.len, h.small, h.sizes, fun j hj => by
    obtain ⟨b, off, ha, hl, c0, c1, c2, c3⟩ := h.cells j hj
    cases ha
    have e : ∀ o, (w.setCell p u).cell? ⟨g, o, none⟩ = w.cell? ⟨g, o, none⟩ := fun o => World.cell?_of_block (heap_setCell_other w p g u (fun e => hp e.symm))
    exact ⟨g, 0, rfl, by simpa using hl, (e _).trans c0, (e _).trans c1, (e _).trans c2, (e _).trans c3⟩⟩

theorem some_at {cs : Array Value} {p : Nat} (h : p < cs.size) : ∃ u, cs[p]? = some u := ⟨_, Array.getElem?_eq_getElem h⟩

set_option maxRecDepth 100000 in
set_option maxHeartbeats 1600000 in
theorem toNodeS_any (a : Option Addr) (n c : Nat) (N : List Nd) (w : World) (h : NdsR w a n c N) (hsm : n ≤ 1048576) (hs : ∀ x ∈ N, smallNd x) :
    Calls Tryz.prog 15 #[.slice a n c] w fun e w' => e = .returned (.slice (some ⟨w.heap.size, 0, none⟩) n n) ∧ Below w.heap.size w w' ∧ Hi w' w.heap.size N := by
  obtain ⟨i, hi, hz0, hz1, hz2⟩ := info_parts infoN
  have Hl := hide h.len
  go_enter Tryz.func15, Tryz.ntmps15
  go_wp2_with (at_make; refine wpList_make_full _ rfl _ _ 29 rfl w.heap.size 69 i (.agg #[.int .i64 0, .int .i64 0, .string ByteArray.empty, .slice none 0 0, .slice none 0 0]) 5 Tryz.underlying29 hi hz0 hz1 _ _ _ _ n rfl rfl rfl rfl ?b2 ?b3 ?b4 ?_)
  case b2 => rw [hz2]; omega
  case b3 => unfold maxLen; omega
  case b4 => exact Nat.le_refl _
  intro w1 hown hgrow
  have hb1 : Below w.heap.size w w1 := (Below.refl _ _).grown hgrow (Nat.le_refl _) (fun k hk => by cases hk)
  clear hgrow
  obtain ⟨cs1, R1, hz⟩ := row_of_owns hown
  have Hs := hide hs
  clear hown hs
  go_wp2_with fail
  go_loopw [4] (fun i wr => ∃ (k : Nat) (cs : Array Value), k ≤ n ∧ i = .int .i64 k ∧ Row wr w.heap.size cs 69 ∧ cs.size = n * 5 ∧ Below w.heap.size w wr ∧ Hid (∀ j, (hj : j < N.length) → j < k → NdX wr w.heap.size cs (j * 5) N[j])) (fun i _ => n - (intOf i).toNat)
  case atStart => exact ⟨0, cs1, Nat.zero_le _, rfl, R1, hz, hb1, hide (fun j _ h => absurd h (by omega))⟩
  case round =>
    obtain ⟨k, cs, hk, rfl, R2, hz2, B2, Ha⟩ := hrel
    clear R1 hb1
    by_cases hlt : k < n
    · have ilt : (k : Int) < (n : Int) := by omega
      have hkl : k < N.length := by rw [unhide Hl]; exact hlt
      have hsx := unhide Hs N[k] (List.getElem_mem hkl)
      obtain ⟨b, off, rfl, hbl, an, nn, cn, ak, nk, ck, c0, c1, c2, c3, c4, hN, hK⟩ := (h.below B2 (Nat.le_refl _)).cells k hkl
      have hgl := R2.lt
      have k1 : nn ≤ 1048576 := by rw [hN.len]; exact hsx.2.1
      have k2 : nk ≤ 1048576 := by rw [← hK.len]; exact hsx.2.2.2
      have HY := hide (fun (w2 : World) (hb2 : Below wr.heap.size wr w2) (v0 v1 v2 v3 v4 : Value) (e : NdX (put5 w2 w.heap.size (k * 5) v0 v1 v2 v3 v4) w.heap.size (put5A cs (k * 5) v0 v1 v2 v3 v4) (k * 5) N[k]) => show ∀ j, (hj : j < N.length) → j < k + 1 → NdX (put5 w2 w.heap.size (k * 5) v0 v1 v2 v3 v4) w.heap.size (put5A cs (k * 5) v0 v1 v2 v3 v4) (j * 5) N[j] from fun j hj h' => by
        by_cases ej : j = k
        · subst ej; exact e
        · exact (unhide Ha j hj (by omega)).step hb2 (by omega) _ _ _ _ _)
      have Hlt := hide hlt
      have Hh := hide h
      clear Ha h hsx
      generalize N[k] = x at c0 c1 c2 c3 c4 hN hK HY
      obtain ⟨u0, e0⟩ := some_at (cs := cs) (p := k * 5) (by omega)
      obtain ⟨u1, e1⟩ := some_at (cs := cs) (p := k * 5 + 1) (by omega)
      obtain ⟨u2, e2⟩ := some_at (cs := cs) (p := k * 5 + 2) (by omega)
      obtain ⟨u3, e3⟩ := some_at (cs := cs) (p := k * 5 + 3) (by omega)
      obtain ⟨u4, e4⟩ := some_at (cs := cs) (p := k * 5 + 4) (by omega)
      have HE := hide (And.intro e0 (And.intro e1 (And.intro e2 (And.intro e3 e4))))
      clear e0 e1 e2 e3 e4
      go_wp2_with (go_at_call 28; refine (toNode_any x an nn cn ak nk ck _ hN hK k1 k2).mono ?_; rintro e w2 ⟨x1, x2, rfl, hN2, hK2, g1, g2, hb2⟩; have R3 := R2.after hb2 (Nat.le_refl _); have f3 := (fun j => R3.frozen j); have d0 := (R3.cell _).trans (unhide HE).1; have d1 := (R3.cell _).trans (unhide HE).2.1; have d2 := (R3.cell _).trans (unhide HE).2.2.1; have d3 := (R3.cell _).trans (unhide HE).2.2.2.1; have d4 := (R3.cell _).trans (unhide HE).2.2.2.2)
      obtain ⟨m0, m1, m2, m3, m4⟩ := put5A_at (cs := cs) (p := k * 5) (by omega) (.int .i64 x.op) (.int .i64 x.num) (.string x.text) (.slice (some x1) nn nn) (.slice (some x2) nk nk)
      have E2 := B2.trans (hb2.mono B2.size)
      refine ⟨⟨k + 1, _, unhide Hlt, by go_num, put5_row R3 _ _ _ _ _, by rw [put5A_size]; exact hz2, put5_below E2 (Nat.le_refl _) _ _ _ _ _, hide (unhide HY w2 hb2 _ _ _ _ _ ⟨x1, nn, x2, nk, m0, m1, m2, m3, m4, hN2.put5 (by omega) _ _ _ _ _, hK2.put5 (by omega) _ _ _ _ _, by omega, by omega⟩)⟩, by have := unhide Hlt; simp [intOf]; omega⟩
    · have e : k = n := by omega
      have HX := hide (show Hi wr w.heap.size N from ⟨cs, R2, fun j hj => unhide Ha j hj (by have := unhide Hl; omega)⟩)
      clear Ha
      have ilt : ¬ ((k : Int) < (n : Int)) := by omega
      go_wp2_with fail
      go_ret
      exact ⟨rfl, B2, unhide HX⟩

set_option maxHeartbeats 800000 in
theorem toStmt_any (s : St) (w : World) :
    Calls Tryz.prog 29 #[.agg #[.int .i64 s.kind, .string s.name, .int .i64 s.cond, .int .i64 s.grant]] w fun e w' => e = .returned (.agg #[.int .i64 s.kind, .string s.name, .int .i64 s.cond, .int .i64 s.grant]) ∧ Below w.heap.size w w' := by
  go_enter Tryz.func29, Tryz.ntmps29
  go_wp2_with fail
  refine bodyPost_ret (v := .agg #[.int .i64 s.kind, .string s.name, .int .i64 s.cond, .int .i64 s.grant]) (by simp [results, Tryz.results29, go_sem]) rfl ⟨rfl, ?_⟩
  exact (((Below.refl w.heap.size w).alloc (Nat.le_refl _) _).alloc (by simp) _).alloc (by simp; omega) _

def put4A (cs : Array Value) (p : Nat) (v0 v1 v2 v3 : Value) : Array Value := (((cs.setIfInBounds p v0).setIfInBounds (p + 1) v1).setIfInBounds (p + 2) v2).setIfInBounds (p + 3) v3

theorem put4A_size (cs : Array Value) (p : Nat) (v0 v1 v2 v3 : Value) : (put4A cs p v0 v1 v2 v3).size = cs.size := by simp [put4A]

theorem put4A_at {cs : Array Value} {p : Nat} (h : p + 4 ≤ cs.size) (v0 v1 v2 v3 : Value) : (put4A cs p v0 v1 v2 v3)[p]? = some v0 ∧ (put4A cs p v0 v1 v2 v3)[p + 1]? = some v1 ∧ (put4A cs p v0 v1 v2 v3)[p + 2]? = some v2 ∧ (put4A cs p v0 v1 v2 v3)[p + 3]? = some v3 := by
  unfold put4A
  refine ⟨?_, ?_, ?_, ?_⟩ <;> simp [Array.getElem?_setIfInBounds] <;> omega

theorem put4A_ne {cs : Array Value} {p q : Nat} (h : q < p) (v0 v1 v2 v3 : Value) : (put4A cs p v0 v1 v2 v3)[q]? = cs[q]? := by
  unfold put4A
  rw [Array.getElem?_setIfInBounds_ne (by omega), Array.getElem?_setIfInBounds_ne (by omega), Array.getElem?_setIfInBounds_ne (by omega), Array.getElem?_setIfInBounds_ne (by omega)]

/-- a statement that lies in the row already -/
def StX (cs : Array Value) (o : Nat) (s : St) : Prop := cs[o]? = some (.int .i64 s.kind) ∧ cs[o + 1]? = some (.string s.name) ∧ cs[o + 2]? = some (.int .i64 s.cond) ∧ cs[o + 3]? = some (.int .i64 s.grant)

theorem StX.step {cs : Array Value} {o p : Nat} {s : St} (h : StX cs o s) (hp : o + 4 ≤ p) (v0 v1 v2 v3 : Value) : StX (put4A cs p v0 v1 v2 v3) o s :=
  ⟨(put4A_ne (by omega) _ _ _ _).trans h.1, (put4A_ne (by omega) _ _ _ _).trans h.2.1, (put4A_ne (by omega) _ _ _ _).trans h.2.2.1, (put4A_ne (by omega) _ _ _ _).trans h.2.2.2⟩

set_option maxRecDepth 100000 in
set_option maxHeartbeats 1600000 in
theorem toStmtS_any (a : Option Addr) (n c : Nat) (N : List St) (w : World) (h : StsR w a n c N) (hsm : n ≤ 1048576) (hs : ∀ x ∈ N, x.name.size ≤ 1048576) :
    Calls Tryz.prog 16 #[.slice a n c] w fun e w' => e = .returned (.slice (some ⟨w.heap.size, 0, none⟩) n n) ∧ Below w.heap.size w w' ∧ Sts w' (some ⟨w.heap.size, 0, none⟩) n n N := by
  obtain ⟨i, hi, hz0, hz1, hz2⟩ := info_parts infoSt
  have Hl := hide h.len
  go_enter Tryz.func16, Tryz.ntmps16
  go_wp2_with (at_make; refine wpList_make_full _ rfl _ _ 30 rfl w.heap.size 71 i (.agg #[.int .i64 0, .string ByteArray.empty, .int .i64 0, .int .i64 0]) 4 Tryz.underlying30 hi hz0 hz1 _ _ _ _ n rfl rfl rfl rfl ?b2 ?b3 ?b4 ?_)
  case b2 => rw [hz2]; omega
  case b3 => unfold maxLen; omega
  case b4 => exact Nat.le_refl _
  intro w1 hown hgrow
  have hb1 : Below w.heap.size w w1 := (Below.refl _ _).grown hgrow (Nat.le_refl _) (fun k hk => by cases hk)
  clear hgrow
  obtain ⟨cs1, R1, hz⟩ := row_of_owns hown
  have Hs := hide hs
  clear hown hs
  go_wp2_with fail
  go_loopw [4] (fun i wr => ∃ (k : Nat) (cs : Array Value), k ≤ n ∧ i = .int .i64 k ∧ Row wr w.heap.size cs 71 ∧ cs.size = n * 4 ∧ Below w.heap.size w wr ∧ Hid (∀ j, (hj : j < N.length) → j < k → StX cs (j * 4) N[j])) (fun i _ => n - (intOf i).toNat)
  case atStart => exact ⟨0, cs1, Nat.zero_le _, rfl, R1, hz, hb1, hide (fun j _ h => absurd h (by omega))⟩
  case round =>
    obtain ⟨k, cs, hk, rfl, R2, hz2, B2, Ha⟩ := hrel
    clear R1 hb1
    by_cases hlt : k < n
    · have ilt : (k : Int) < (n : Int) := by omega
      have hkl : k < N.length := by rw [unhide Hl]; exact hlt
      obtain ⟨b, off, rfl, hbl, c0, c1, c2, c3⟩ := (h.below B2 (Nat.le_refl _)).cells k hkl
      have hgl := R2.lt
      have HY := hide (fun (v0 v1 v2 v3 : Value) (e : StX (put4A cs (k * 4) v0 v1 v2 v3) (k * 4) N[k]) => show ∀ j, (hj : j < N.length) → j < k + 1 → StX (put4A cs (k * 4) v0 v1 v2 v3) (j * 4) N[j] from fun j hj h' => by
        by_cases ej : j = k
        · subst ej; exact e
        · exact (unhide Ha j hj (by omega)).step (by omega) _ _ _ _)
      have Hlt := hide hlt
      have Hh := hide h
      clear Ha h
      generalize N[k] = x at c0 c1 c2 c3 HY
      obtain ⟨u0, e0⟩ := some_at (cs := cs) (p := k * 4) (by omega)
      obtain ⟨u1, e1⟩ := some_at (cs := cs) (p := k * 4 + 1) (by omega)
      obtain ⟨u2, e2⟩ := some_at (cs := cs) (p := k * 4 + 2) (by omega)
      obtain ⟨u3, e3⟩ := some_at (cs := cs) (p := k * 4 + 3) (by omega)
      have HE := hide (And.intro e0 (And.intro e1 (And.intro e2 e3)))
      clear e0 e1 e2 e3
      go_wp2_with (go_at_call 29; refine (toStmt_any x _).mono ?_; rintro e w2 ⟨rfl, hb2⟩; have R3 := R2.after hb2 (Nat.le_refl _); have f3 := (fun j => R3.frozen j); have d0 := (R3.cell _).trans (unhide HE).1; have d1 := (R3.cell _).trans (unhide HE).2.1; have d2 := (R3.cell _).trans (unhide HE).2.2.1; have d3 := (R3.cell _).trans (unhide HE).2.2.2)
      have E2 := B2.trans (hb2.mono B2.size)
      refine ⟨⟨k + 1, _, unhide Hlt, by go_num, (((R3.set (k * 4) _).set (k * 4 + 1) _).set (k * 4 + 2) _).set (k * 4 + 3) _, (put4A_size cs (k * 4) _ _ _ _).trans hz2, (((E2.setCell (p := ⟨w.heap.size, k * 4, none⟩) (Nat.le_refl _) _).setCell (p := ⟨w.heap.size, k * 4 + 1, none⟩) (Nat.le_refl _) _).setCell (p := ⟨w.heap.size, k * 4 + 2, none⟩) (Nat.le_refl _) _).setCell (p := ⟨w.heap.size, k * 4 + 3, none⟩) (Nat.le_refl _) _, hide (unhide HY _ _ _ _ (put4A_at (by omega) _ _ _ _))⟩, by have := unhide Hlt; simp [intOf]; omega⟩
    · have e : k = n := by omega
      have HX := hide (show Sts wr (some ⟨w.heap.size, 0, none⟩) n n N from ⟨unhide Hl, hsm, unhide Hs, fun j hj => by
        have q := unhide Ha j hj (by have := unhide Hl; omega)
        refine ⟨w.heap.size, 0, rfl, R2.lt, ?_⟩
        rw [Nat.zero_add]
        exact ⟨(R2.cell _).trans q.1, (R2.cell _).trans q.2.1, (R2.cell _).trans q.2.2.1, (R2.cell _).trans q.2.2.2⟩⟩)
      clear Ha
      have ilt : ¬ ((k : Int) < (n : Int)) := by omega
      go_wp2_with fail
      go_ret
      exact ⟨rfl, B2, unhide HX⟩

end Go.Proofs.YtjapdeehnfoonaaGreatDoor

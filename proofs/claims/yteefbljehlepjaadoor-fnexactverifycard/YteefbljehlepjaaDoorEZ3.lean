/-
  The law's copy of a code. Own work.
-/
import Derived.Test.YteefbljehlepjaaDoorEZ2
namespace Go.Proofs.YteefbljehlepjaaDoor
open Go.RowKit
set_option linter.unusedVariables false

set_option maxHeartbeats 800000 in
theorem toIns_any (s : Is1) (w : World) :
    Calls Tryd.prog 29 #[.agg #[.int .i64 s.op, .int .i64 s.arg]] w fun e w' => e = .returned (.agg #[.int .i64 s.op, .int .i64 s.arg]) ∧ Below w.heap.size w w' := by
  go_enter Tryd.func29, Tryd.ntmps29
  go_wp2_with fail
  refine bodyPost_ret (v := .agg #[.int .i64 s.op, .int .i64 s.arg]) (by simp [results, Tryd.results29, go_sem]) rfl ⟨rfl, ?_⟩
  exact (((Below.refl w.heap.size w).alloc (Nat.le_refl _) _).alloc (by simp) _).alloc (by simp; omega) _

def pu2A (cs : Array Value) (p : Nat) (v0 v1 : Value) : Array Value := (cs.setIfInBounds p v0).setIfInBounds (p + 1) v1

theorem pu2A_size (cs : Array Value) (p : Nat) (v0 v1 : Value) : (pu2A cs p v0 v1).size = cs.size := by simp [pu2A]

theorem pu2A_at {cs : Array Value} {p : Nat} (h : p + 2 ≤ cs.size) (v0 v1 : Value) : (pu2A cs p v0 v1)[p]? = some v0 ∧ (pu2A cs p v0 v1)[p + 1]? = some v1 := by
  unfold pu2A
  refine ⟨?_, ?_⟩ <;> simp [Array.getElem?_setIfInBounds] <;> omega

theorem pu2A_ne {cs : Array Value} {p q : Nat} (h : q < p) (v0 v1 : Value) : (pu2A cs p v0 v1)[q]? = cs[q]? := by
  unfold pu2A
  rw [Array.getElem?_setIfInBounds_ne (by omega), Array.getElem?_setIfInBounds_ne (by omega)]

/-- an instruction that lies in the row already -/
def InX (cs : Array Value) (o : Nat) (s : Is1) : Prop := cs[o]? = some (.int .i64 s.op) ∧ cs[o + 1]? = some (.int .i64 s.arg)

theorem InX.step {cs : Array Value} {o p : Nat} {s : Is1} (h : InX cs o s) (hp : o + 2 ≤ p) (v0 v1 : Value) : InX (pu2A cs p v0 v1) o s :=
  ⟨(pu2A_ne (by omega) _ _).trans h.1, (pu2A_ne (by omega) _ _).trans h.2⟩

/-- copied instructions -/
def HiI (w : World) (g m : Nat) (L : List Is1) : Prop := ∃ cs, Row w g cs 64 ∧ cs.size = m * 2 ∧ ∀ j, (hj : j < L.length) → InX cs (j * 2) L[j]

theorem HiI.iss {w : World} {g m : Nat} {L : List Is1} (h : HiI w g m L) (hl : L.length = m) (hsm : m ≤ 1048576) : Iss w (some ⟨g, 0, none⟩) m m L := by
  obtain ⟨cs, R, _, hx⟩ := h
  refine ⟨hl, hsm, fun j hj => ⟨g, 0, rfl, R.lt, ?_⟩⟩
  rw [Nat.zero_add]
  exact ⟨(R.cell _).trans (hx j hj).1, (R.cell _).trans (hx j hj).2⟩

theorem HiI.below {w w' : World} {B g m : Nat} {L : List Is1} (h : HiI w g m L) (hb : Below B w w') (hB : w.heap.size ≤ B) : HiI w' g m L := by
  obtain ⟨cs, R, hz, hx⟩ := h
  exact ⟨cs, R.after hb hB, hz, hx⟩

theorem HiI.setFar {w : World} {g m : Nat} {L : List Is1} (h : HiI w g m L) {p : Addr} (hp : p.block ≠ g) (u : Value) : HiI (w.setCell p u) g m L := by
  obtain ⟨cs, R, hz, hx⟩ := h
  exact ⟨cs, R.setFar (fun e => hp e.symm) u, hz, hx⟩

set_option maxRecDepth 100000 in
set_option maxHeartbeats 1600000 in
theorem toInsS_any (a : Option Addr) (n c : Nat) (N : List Is1) (w : World) (h : IssR w a n c N) (hsm : n ≤ 1048576) :
    Calls Tryd.prog 16 #[.slice a n c] w fun e w' => e = .returned (.slice (some ⟨w.heap.size, 0, none⟩) n n) ∧ Below w.heap.size w w' ∧ HiI w' w.heap.size n N := by
  obtain ⟨i, hi, hz0, hz1, hz2⟩ := info_parts infoIn
  have Hl := hide h.len
  go_enter Tryd.func16, Tryd.ntmps16
  go_wp2_with (at_make; refine wpList_make_full _ rfl _ _ 30 rfl w.heap.size 64 i (.agg #[.int .i64 0, .int .i64 0]) 2 Tryd.underlying30 hi hz0 hz1 _ _ _ _ n rfl rfl rfl rfl ?b2 ?b3 ?b4 ?_)
  case b2 => rw [hz2]; omega
  case b3 => unfold maxLen; omega
  case b4 => exact Nat.le_refl _
  intro w1 hown hgrow
  have hb1 : Below w.heap.size w w1 := (Below.refl _ _).grown hgrow (Nat.le_refl _) (fun k hk => by cases hk)
  clear hgrow
  obtain ⟨cs1, R1, hz⟩ := rowOf hown
  clear hown
  go_wp2_with fail
  go_loopw [4] (fun i wr => ∃ (k : Nat) (cs : Array Value), k ≤ n ∧ i = .int .i64 k ∧ Row wr w.heap.size cs 64 ∧ cs.size = n * 2 ∧ Below w.heap.size w wr ∧ Hid (∀ j, (hj : j < N.length) → j < k → InX cs (j * 2) N[j])) (fun i _ => n - (intOf i).toNat)
  case atStart => exact ⟨0, cs1, Nat.zero_le _, rfl, R1, hz, hb1, hide (fun j _ h => absurd h (by omega))⟩
  case round =>
    obtain ⟨k, cs, hk, rfl, R2, hz2, B2, Ha⟩ := hrel
    clear R1 hb1
    by_cases hlt : k < n
    · have ilt : (k : Int) < (n : Int) := by omega
      have hkl : k < N.length := by rw [unhide Hl]; exact hlt
      obtain ⟨b, off, rfl, hbl, c0, c1⟩ := (h.below B2 (Nat.le_refl _)).cells k hkl
      have hgl := R2.lt
      have HY := hide (fun (v0 v1 : Value) (e : InX (pu2A cs (k * 2) v0 v1) (k * 2) N[k]) => show ∀ j, (hj : j < N.length) → j < k + 1 → InX (pu2A cs (k * 2) v0 v1) (j * 2) N[j] from fun j hj h' => by
        by_cases ej : j = k
        · subst ej; exact e
        · exact (unhide Ha j hj (by omega)).step (by omega) _ _)
      have Hlt := hide hlt
      have Hh := hide h
      clear Ha h
      generalize N[k] = x at c0 c1 HY
      obtain ⟨u0, e0⟩ := someAt (cs := cs) (p := k * 2) (by omega)
      obtain ⟨u1, e1⟩ := someAt (cs := cs) (p := k * 2 + 1) (by omega)
      have HE := hide (And.intro e0 e1)
      clear e0 e1
      go_wp2_with (go_at_call 29; refine (toIns_any x _).mono ?_; rintro e w2 ⟨rfl, hb2⟩; have R3 := R2.after hb2 (Nat.le_refl _); have f3 := (fun j => R3.frozen j); have d0 := (R3.cell _).trans (unhide HE).1; have d1 := (R3.cell _).trans (unhide HE).2)
      have E2 := B2.trans (hb2.mono B2.size)
      refine ⟨⟨k + 1, _, unhide Hlt, by go_num, (R3.set (k * 2) _).set (k * 2 + 1) _, (pu2A_size cs (k * 2) _ _).trans hz2, (E2.setCell (p := ⟨w.heap.size, k * 2, none⟩) (Nat.le_refl _) _).setCell (p := ⟨w.heap.size, k * 2 + 1, none⟩) (Nat.le_refl _) _, hide (unhide HY _ _ (pu2A_at (by omega) _ _))⟩, by have := unhide Hlt; simp [intOf]; omega⟩
    · have HX := hide (show HiI wr w.heap.size n N from ⟨cs, R2, hz2, fun j hj => unhide Ha j hj (by have := unhide Hl; omega)⟩)
      clear Ha
      have e : k = n := by omega
      have ilt : ¬ ((k : Int) < (n : Int)) := by omega
      go_wp2_with fail
      go_ret
      exact ⟨rfl, B2, unhide HX⟩

/-- all values in a row, their names behind it, all ahead of hi -/
def HiB (w : World) (g hi n : Nat) (N : List Vl) : Prop := g < hi ∧ ∃ (cs : Array Value) (qf : Nat → Nat), Row w g cs 61 ∧ cs.size = n * 4 ∧ (∀ j, (hj : j < N.length) → VlX w g cs (j * 4) (qf j) N[j]) ∧ (∀ i j, i < j → j < N.length → qf i < qf j) ∧ ∀ j, j < N.length → qf j < hi

theorem HiV.bound {w : World} {g n : Nat} {N : List Vl} (h : HiV w g n N) : HiB w g w.heap.size n N := by
  obtain ⟨cs, qf, R, hz, hx, hq⟩ := h
  exact ⟨R.lt, cs, qf, R, hz, hx, hq, fun j hj => (hx j hj).q.2⟩

theorem HiB.hiV {w : World} {g hi n : Nat} {N : List Vl} (h : HiB w g hi n N) : HiV w g n N := by
  obtain ⟨_, cs, qf, R, hz, hx, hq, _⟩ := h
  exact ⟨cs, qf, R, hz, hx, hq⟩

theorem HiB.below {w w' : World} {B g hi n : Nat} {N : List Vl} (h : HiB w g hi n N) (hb : Below B w w') (hB : w.heap.size ≤ B) : HiB w' g hi n N := by
  obtain ⟨hg, cs, qf, R, hz, hx, hq, hh⟩ := h
  refine ⟨hg, cs, qf, R.after hb hB, hz, fun j hj => ?_, hq, hh⟩
  obtain ⟨nn, c0, c1, c2, c3, hN⟩ := hx j hj
  exact ⟨nn, c0, c1, c2, c3, own_below hN hb hB⟩

theorem HiB.setLow {w : World} {g hi n : Nat} {N : List Vl} (h : HiB w g hi n N) {p : Addr} (hp : p.block < g) (u : Value) : HiB (w.setCell p u) g hi n N := by
  obtain ⟨hg, cs, qf, R, hz, hx, hq, hh⟩ := h
  refine ⟨hg, cs, qf, R.setFar (by omega) u, hz, fun j hj => ?_, hq, hh⟩
  have hqq := (hx j hj).q
  obtain ⟨nn, c0, c1, c2, c3, hN⟩ := hx j hj
  exact ⟨nn, c0, c1, c2, c3, own_setFar hN (by omega) u⟩

set_option maxRecDepth 100000 in
set_option maxHeartbeats 1600000 in
theorem toCode_any (a b : Option Addr) (n c m d : Nat) (s : Int) (N : List Vl) (L : List Is1) (w : World) (h1 : VlsR w a n c N) (h2 : IssR w b m d L) (hs : smallC n m N) :
    Calls Tryd.prog 6 #[.agg #[.slice a n c, .int .i64 s, .slice b m d]] w fun e w' => ∃ g1 g2, e = .returned (.agg #[.slice (some ⟨g1, 0, none⟩) n n, .int .i64 s, .slice (some ⟨g2, 0, none⟩) m m]) ∧ w.heap.size ≤ g1 ∧ w.heap.size ≤ g2 ∧ HiB w' g1 g2 n N ∧ HiI w' g2 m L ∧ Below w.heap.size w w' := by
  go_enter Tryd.func6, Tryd.ntmps6
  go_wp2_with fail
  have B0 := ((((Below.refl w.heap.size w).alloc (Nat.le_refl _) (.cells #[.slice a n c, .int .i64 s, .slice b m d] 25)).alloc (by simp) (.cells #[.slice none 0 0, .int .i64 0, .slice none 0 0] 32)).alloc (by simp; omega) (.cells #[.slice none 0 0, .int .i64 0, .slice none 0 0] 32))
  have R0 := ((Row.new w #[.slice a n c, .int .i64 s, .slice b m d] 25).alloc (.cells #[.slice none 0 0, .int .i64 0, .slice none 0 0] 32)).alloc (.cells #[.slice none 0 0, .int .i64 0, .slice none 0 0] 32)
  have R1 := (Row.new (w.alloc (.cells #[.slice a n c, .int .i64 s, .slice b m d] 25)) #[.slice none 0 0, .int .i64 0, .slice none 0 0] 32).alloc (.cells #[.slice none 0 0, .int .i64 0, .slice none 0 0] 32)
  have R2 := Row.new ((w.alloc (.cells #[.slice a n c, .int .i64 s, .slice b m d] 25)).alloc (.cells #[.slice none 0 0, .int .i64 0, .slice none 0 0] 32)) #[.slice none 0 0, .int .i64 0, .slice none 0 0] 32
  simp only [World.size_alloc] at R1 R2
  refine (toValueS_any _ _ _ _ _ (h1.below B0 (Nat.le_refl _)) hs.1.1 hs.1.2.1).mono ?_
  rintro e w1 ⟨rfl, hb1, ho1⟩
  have B1 := B0.trans (hb1.mono (by simp; omega))
  have r0 := R0.after hb1 (Nat.le_refl _)
  have r1 := R1.after hb1 (Nat.le_refl _)
  have r2 := R2.after hb1 (Nat.le_refl _)
  have z1 := hb1.size
  simp only [World.size_alloc] at z1 ho1
  clear B0 R0 R1 R2 hb1
  have q0 := r0.cell 1
  have q2 := r0.cell 2
  have p0 := r2.cell 0
  have p1 := r2.cell 1
  have f2 := fun j => r2.frozen j
  simp only [List.getElem?_toArray, List.getElem?_cons_succ, List.getElem?_cons_zero] at q0 q2 p0 p1
  go_wp2_with fail
  have B2 := (B1.setCell (p := ⟨w.heap.size + 1 + 1, 0, none⟩) (by show w.heap.size ≤ w.heap.size + 1 + 1; omega) (.slice (some ⟨w.heap.size + 1 + 1 + 1, 0, none⟩) n n)).setCell (p := ⟨w.heap.size + 1 + 1, 1, none⟩) (by show w.heap.size ≤ w.heap.size + 1 + 1; omega) (.int .i64 s)
  refine (toInsS_any _ _ _ _ _ (h2.below B2 (Nat.le_refl _)) hs.2).mono ?_
  rintro e w2 ⟨rfl, hb2, ho2⟩
  have r1' := ((r1.setFar (p := ⟨w.heap.size + 1 + 1, 0, none⟩) (by show w.heap.size + 1 ≠ w.heap.size + 1 + 1; omega) (.slice (some ⟨w.heap.size + 1 + 1 + 1, 0, none⟩) n n)).setFar (p := ⟨w.heap.size + 1 + 1, 1, none⟩) (by show w.heap.size + 1 ≠ w.heap.size + 1 + 1; omega) (.int .i64 s)).after hb2 (Nat.le_refl _)
  have r2' := ((r2.set 0 (.slice (some ⟨w.heap.size + 1 + 1 + 1, 0, none⟩) n n)).set 1 (.int .i64 s)).after hb2 (Nat.le_refl _)
  have s1'' := ((ho1.bound.setLow (p := ⟨w.heap.size + 1 + 1, 0, none⟩) (by show w.heap.size + 1 + 1 < w.heap.size + 1 + 1 + 1; omega) (.slice (some ⟨w.heap.size + 1 + 1 + 1, 0, none⟩) n n)).setLow (p := ⟨w.heap.size + 1 + 1, 1, none⟩) (by show w.heap.size + 1 + 1 < w.heap.size + 1 + 1 + 1; omega) (.int .i64 s)).below hb2 (Nat.le_refl _)
  have B3 := B2.trans (hb2.mono (by simp; omega))
  have z2 := hb2.size
  simp only [World.size_setCell] at z2 ho2
  clear r0 r1 r2 ho1 q0 q2 p0 p1 f2 B1 B2 hb2
  have f1 := fun j => r1'.frozen j
  have f2 := fun j => r2'.frozen j
  have p0 := r1'.cell 0
  have p1 := r1'.cell 1
  have p2 := r1'.cell 2
  have q0 := r2'.cell 0
  have q1 := r2'.cell 1
  have q2 := r2'.cell 2
  simp at p0 p1 p2 q0 q1 q2
  go_wp2_with fail
  refine bodyPost_ret (v := .agg #[.slice (some ⟨w.heap.size + 1 + 1 + 1, 0, none⟩) n n, .int .i64 s, .slice (some ⟨w1.heap.size, 0, none⟩) m m]) (by simp [results, Tryd.results6, go_sem, p0, p1, p2]) rfl ⟨_, _, rfl, ?_, ?_, ?_, ?_, ?_⟩
  · omega
  · omega
  · refine HiB.setLow (HiB.setLow (HiB.setLow (HiB.setLow s1'' ?_ _) ?_ _) ?_ _) ?_ _
    all_goals (dsimp only; omega)
  · refine HiI.setFar (HiI.setFar (HiI.setFar (HiI.setFar ho2 ?_ _) ?_ _) ?_ _) ?_ _
    all_goals (dsimp only; omega)
  · refine Below.setCell (Below.setCell (Below.setCell (Below.setCell B3 ?_ _) ?_ _) ?_ _) ?_ _
    all_goals (dsimp only; omega)

end Go.Proofs.YteefbljehlepjaaDoor

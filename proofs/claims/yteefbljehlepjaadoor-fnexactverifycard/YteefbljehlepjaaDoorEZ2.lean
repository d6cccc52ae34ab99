/-
  The law's copy of a code. Own work.
-/
import Derived.Test.YteefbljehlepjaaDoorEZ1
import Derived.Test.YteefbljehlepjaaDoorEX0
import Derived.Test.YteefbljehlepjaaDoorMem
namespace Go.Proofs.YteefbljehlepjaaDoor
open Go.RowKit Go.Lib
set_option linter.unusedVariables false

theorem infoV : (Tryd.prog.info? 61).map (fun i => (i.zero, i.size, i.bytes)) = some (some (.agg #[.int .i64 0, .int .i64 0, .string ByteArray.empty, .slice none 0 0]), 4, 56) := by kernel_rfl
theorem infoIn : (Tryd.prog.info? 64).map (fun i => (i.zero, i.size, i.bytes)) = some (some (.agg #[.int .i64 0, .int .i64 0]), 2, 16) := by kernel_rfl

theorem own_setFar {w : World} {base : Nat} {e : TypeId} {q n c : Nat} {xs : List Value} (h : w.ownsRow base e 1 (.slice (some ⟨q, 0, none⟩) n c) n xs) {p : Addr} (hp : p.block ≠ q) (u : Value) : (w.setCell p u).ownsRow base e 1 (.slice (some ⟨q, 0, none⟩) n c) n xs := by
  refine ⟨h.1, ?_⟩
  rcases h.2 with hn | ⟨g, cap, cur, hv, h1, h2, h3⟩
  · exact .inl hn
  · cases hv
    exact .inr ⟨q, c, cur, rfl, h1, (heap_setCell_other w p q u (fun e => hp e.symm)).trans h2, h3⟩

theorem own_below {w w' : World} {base : Nat} {e : TypeId} {size : Nat} {v : Value} {n B : Nat} {xs : List Value} (h : w.ownsRow base e size v n xs) (hb : Below B w w') (hB : w.heap.size ≤ B) : w'.ownsRow base e size v n xs := by
  refine ⟨h.1, ?_⟩
  rcases h.2 with hn | ⟨g, cap, cur, hv, h1, h2, h3⟩
  · exact .inl hn
  · exact .inr ⟨g, cap, cur, hv, h1, (hb.block g (Nat.lt_of_lt_of_le (Array.getElem?_eq_some_iff.1 h2).1 hB)).trans h2, h3⟩

set_option maxRecDepth 100000 in
set_option maxHeartbeats 1600000 in
theorem toValue_any (x : Vl) (an : Option Addr) (nn cn : Nat) (w : World) (h1 : Strs w an nn cn x.names) (k1 : nn ≤ 1048576) :
    Calls Tryd.prog 28 #[.agg #[.int .i64 x.kind, .int .i64 x.num, .string x.text, .slice an nn cn]] w fun e w' =>
      ∃ q, e = .returned (.agg #[.int .i64 x.kind, .int .i64 x.num, .string x.text, .slice (some ⟨q, 0, none⟩) nn nn]) ∧ w'.ownsRow w.heap.size 9 1 (.slice (some ⟨q, 0, none⟩) nn nn) nn (x.names.map Value.string) ∧ w.heap.size ≤ q ∧ Below w.heap.size w w' := by
  go_enter Tryd.func28, Tryd.ntmps28
  go_wp2_with fail
  have B0 := ((((Below.refl w.heap.size w).alloc (Nat.le_refl _) (.cells #[.int .i64 x.kind, .int .i64 x.num, .string x.text, .slice an nn cn] 60)).alloc (by simp) (.cells #[.int .i64 0, .int .i64 0, .string ⟨#[]⟩, .slice none 0 0] 61)).alloc (by simp; omega) (.cells #[.int .i64 x.kind, .int .i64 x.num, .string x.text, .slice none 0 0] 61))
  have R1 := (Row.new (w.alloc (.cells #[.int .i64 x.kind, .int .i64 x.num, .string x.text, .slice an nn cn] 60)) #[.int .i64 0, .int .i64 0, .string ⟨#[]⟩, .slice none 0 0] 61).alloc (.cells #[.int .i64 x.kind, .int .i64 x.num, .string x.text, .slice none 0 0] 61)
  have R2 := Row.new ((w.alloc (.cells #[.int .i64 x.kind, .int .i64 x.num, .string x.text, .slice an nn cn] 60)).alloc (.cells #[.int .i64 0, .int .i64 0, .string ⟨#[]⟩, .slice none 0 0] 61)) #[.int .i64 x.kind, .int .i64 x.num, .string x.text, .slice none 0 0] 61
  simp only [World.size_alloc] at R1 R2
  have Z := R2.lt
  refine (toStringS_any _ _ _ _ _ (h1.below B0 (Nat.le_refl _)) k1).mono ?_
  rintro e w1 ⟨rfl, hb1, ho1⟩
  have B1 := B0.trans (hb1.mono (by simp; omega))
  have r1 := R1.after hb1 (Nat.le_refl _)
  have r2 := R2.after hb1 (Nat.le_refl _)
  have z1 := hb1.size
  have l1 := (ho1.lt _ rfl).2
  simp only [World.size_alloc] at z1 ho1 l1
  clear B0 R1 R2 hb1 Z
  have f1 := fun j => r1.frozen j
  have f2 := fun j => r2.frozen j
  have p0 := r1.cell 0
  have p1 := r1.cell 1
  have p2 := r1.cell 2
  have p3 := r1.cell 3
  have q0 := r2.cell 0
  have q1 := r2.cell 1
  have q2 := r2.cell 2
  have q3 := r2.cell 3
  simp at p0 p1 p2 p3 q0 q1 q2 q3
  go_wp2_with fail
  refine bodyPost_ret (v := .agg #[.int .i64 x.kind, .int .i64 x.num, .string x.text, .slice (some ⟨w.heap.size + 1 + 1 + 1, 0, none⟩) nn nn]) (by simp [results, Tryd.results28, go_sem, p0, p1, p2, p3]) rfl ⟨_, rfl, ?_, by omega, ?_⟩
  · clear p0 p1 p2 p3 q0 q1 q2 q3 f1 f2 r1 r2
    refine own_setFar (own_setFar (own_setFar (own_setFar (own_setFar (ownsRow_low' ho1 (by omega)) ?_ _) ?_ _) ?_ _) ?_ _) ?_ _
    all_goals (dsimp only; omega)
  · clear p0 p1 p2 p3 q0 q1 q2 q3 f1 f2 r1 r2
    refine Below.setCell (Below.setCell (Below.setCell (Below.setCell (Below.setCell B1 ?_ _) ?_ _) ?_ _) ?_ _) ?_ _
    all_goals (dsimp only; omega)

theorem rowOf {w : World} {base : Nat} {e : TypeId} {size g n c : Nat} {xs : List Value} (h : w.ownsRow base e size (.slice (some ⟨g, 0, none⟩) n c) n xs) : ∃ cur, Row w g cur e ∧ cur.size = c * size := by
  rcases h.2 with ⟨hv, _⟩ | ⟨g', cap, cur, hv, h1, h2, h3, h4, h5, h6⟩
  · cases hv
  · cases hv; exact ⟨cur, ⟨h2⟩, h5⟩

def pu4A (cs : Array Value) (p : Nat) (v0 v1 v2 v3 : Value) : Array Value := (((cs.setIfInBounds p v0).setIfInBounds (p + 1) v1).setIfInBounds (p + 2) v2).setIfInBounds (p + 3) v3

theorem pu4A_size (cs : Array Value) (p : Nat) (v0 v1 v2 v3 : Value) : (pu4A cs p v0 v1 v2 v3).size = cs.size := by simp [pu4A]

theorem pu4A_at {cs : Array Value} {p : Nat} (h : p + 4 ≤ cs.size) (v0 v1 v2 v3 : Value) : (pu4A cs p v0 v1 v2 v3)[p]? = some v0 ∧ (pu4A cs p v0 v1 v2 v3)[p + 1]? = some v1 ∧ (pu4A cs p v0 v1 v2 v3)[p + 2]? = some v2 ∧ (pu4A cs p v0 v1 v2 v3)[p + 3]? = some v3 := by
  unfold pu4A
  refine ⟨?_, ?_, ?_, ?_⟩ <;> simp [Array.getElem?_setIfInBounds] <;> omega

theorem pu4A_ne {cs : Array Value} {p q : Nat} (h : q < p ∨ p + 4 ≤ q) (v0 v1 v2 v3 : Value) : (pu4A cs p v0 v1 v2 v3)[q]? = cs[q]? := by
  unfold pu4A
  rw [Array.getElem?_setIfInBounds_ne (by omega), Array.getElem?_setIfInBounds_ne (by omega), Array.getElem?_setIfInBounds_ne (by omega), Array.getElem?_setIfInBounds_ne (by omega)]

/-- four cells of a block, from a place on, written over -/
def pu4 (W : World) (b p : Nat) (v0 v1 v2 v3 : Value) : World := (((W.setCell ⟨b, p, none⟩ v0).setCell ⟨b, p + 1, none⟩ v1).setCell ⟨b, p + 2, none⟩ v2).setCell ⟨b, p + 3, none⟩ v3

theorem pu4_row {W : World} {b p : Nat} {cs : Array Value} {t : TypeId} (h : Row W b cs t) (v0 v1 v2 v3 : Value) : Row (pu4 W b p v0 v1 v2 v3) b (pu4A cs p v0 v1 v2 v3) t := (((h.set p v0).set (p + 1) v1).set (p + 2) v2).set (p + 3) v3

theorem pu4_below {B : Nat} {w W : World} {b p : Nat} (h : Below B w W) (hb : B ≤ b) (v0 v1 v2 v3 : Value) : Below B w (pu4 W b p v0 v1 v2 v3) :=
  (((h.setCell (p := ⟨b, p, none⟩) hb v0).setCell (p := ⟨b, p + 1, none⟩) hb v1).setCell (p := ⟨b, p + 2, none⟩) hb v2).setCell (p := ⟨b, p + 3, none⟩) hb v3

theorem own_pu4 {w : World} {base : Nat} {e : TypeId} {q n c : Nat} {xs : List Value} (h : w.ownsRow base e 1 (.slice (some ⟨q, 0, none⟩) n c) n xs) {b p : Nat} (hp : b ≠ q) (v0 v1 v2 v3 : Value) : (pu4 w b p v0 v1 v2 v3).ownsRow base e 1 (.slice (some ⟨q, 0, none⟩) n c) n xs :=
  own_setFar (own_setFar (own_setFar (own_setFar h hp v0) hp v1) hp v2) hp v3

/-- a value that lies in the row already, its names behind it -/
def VlX (w : World) (g : Nat) (cs : Array Value) (o q : Nat) (x : Vl) : Prop := ∃ nn, cs[o]? = some (.int .i64 x.kind) ∧ cs[o + 1]? = some (.int .i64 x.num) ∧ cs[o + 2]? = some (.string x.text) ∧ cs[o + 3]? = some (.slice (some ⟨q, 0, none⟩) nn nn) ∧ w.ownsRow (g + 1) 9 1 (.slice (some ⟨q, 0, none⟩) nn nn) nn (x.names.map Value.string)

theorem VlX.q {w : World} {g : Nat} {cs : Array Value} {o q : Nat} {x : Vl} (h : VlX w g cs o q x) : g < q ∧ q < w.heap.size := by
  obtain ⟨nn, _, _, _, _, ho⟩ := h
  have := ho.lt q rfl
  exact ⟨by omega, this.2⟩

theorem VlX.step {w w2 : World} {g : Nat} {cs : Array Value} {o p q : Nat} {x : Vl} (h : VlX w g cs o q x) (hb : Below w.heap.size w w2) (hp : o + 4 ≤ p) (v0 v1 v2 v3 : Value) : VlX (pu4 w2 g p v0 v1 v2 v3) g (pu4A cs p v0 v1 v2 v3) o q x := by
  have hq := h.q
  obtain ⟨nn, c0, c1, c2, c3, hN⟩ := h
  exact ⟨nn, (pu4A_ne (by omega) _ _ _ _).trans c0, (pu4A_ne (by omega) _ _ _ _).trans c1, (pu4A_ne (by omega) _ _ _ _).trans c2, (pu4A_ne (by omega) _ _ _ _).trans c3, own_pu4 (own_below hN hb (Nat.le_refl _)) (by omega) _ _ _ _⟩

/-- all values, in a row, their names behind it, each in a block of its own -/
def HiV (w : World) (g n : Nat) (N : List Vl) : Prop := ∃ (cs : Array Value) (qf : Nat → Nat), Row w g cs 61 ∧ cs.size = n * 4 ∧ (∀ j, (hj : j < N.length) → VlX w g cs (j * 4) (qf j) N[j]) ∧ ∀ i j, i < j → j < N.length → qf i < qf j

theorem le_sum_mem {x : Nat} : ∀ {l : List Nat}, x ∈ l → x ≤ l.sum
  | a :: l, h => by
    rw [List.sum_cons]
    rcases List.mem_cons.mp h with e | e
    · omega
    · have := le_sum_mem e; omega

theorem HiV.vls {w : World} {g n : Nat} {N : List Vl} (h : HiV w g n N) (hl : N.length = n) (hsm : n ≤ 1048576) (hs : ∀ x ∈ N, smallVl x) : Vls w (some ⟨g, 0, none⟩) n n N := by
  obtain ⟨cs, qf, R, _, hx, _⟩ := h
  refine ⟨hl, hsm, fun x hx => (hs x hx).1, fun j hj => ⟨g, 0, rfl, R.lt, ?_⟩⟩
  rw [Nat.zero_add]
  obtain ⟨nn, c0, c1, c2, c3, hN⟩ := hx j hj
  have hss := hs _ (List.getElem_mem hj)
  refine ⟨_, _, _, (R.cell _).trans c0, (R.cell _).trans c1, (R.cell _).trans c2, (R.cell _).trans c3, Strs.of_owns hN (fun i hi => ?_)⟩
  have hln : N[j].names.length = nn := by have := hN.1; rw [List.length_map] at this; omega
  have h1 : (nth N[j].names i).size ≤ tot N[j].names := by
    rw [nth_eq _ _ (by omega), tot]
    exact le_sum_mem (List.mem_map_of_mem (List.getElem_mem _))
  have := hss.2.2
  unfold maxLen
  omega

theorem HiV.below {w w' : World} {B g n : Nat} {N : List Vl} (h : HiV w g n N) (hb : Below B w w') (hB : w.heap.size ≤ B) : HiV w' g n N := by
  obtain ⟨cs, qf, R, hz, hx, hq⟩ := h
  refine ⟨cs, qf, R.after hb hB, hz, fun j hj => ?_, hq⟩
  obtain ⟨nn, c0, c1, c2, c3, hN⟩ := hx j hj
  exact ⟨nn, c0, c1, c2, c3, own_below hN hb hB⟩

theorem HiV.setLow {w : World} {g n : Nat} {N : List Vl} (h : HiV w g n N) {p : Addr} (hp : p.block < g) (u : Value) : HiV (w.setCell p u) g n N := by
  obtain ⟨cs, qf, R, hz, hx, hq⟩ := h
  refine ⟨cs, qf, R.setFar (by omega) u, hz, fun j hj => ?_, hq⟩
  have hqq := (hx j hj).q
  obtain ⟨nn, c0, c1, c2, c3, hN⟩ := hx j hj
  exact ⟨nn, c0, c1, c2, c3, own_setFar hN (by omega) u⟩

theorem someAt {cs : Array Value} {p : Nat} (h : p < cs.size) : ∃ u, cs[p]? = some u := ⟨_, Array.getElem?_eq_getElem h⟩

set_option maxRecDepth 100000 in
set_option maxHeartbeats 1600000 in
theorem toValueS_any (a : Option Addr) (n c : Nat) (N : List Vl) (w : World) (h : VlsR w a n c N) (hsm : n ≤ 1048576) (hs : ∀ x ∈ N, smallVl x) :
    Calls Tryd.prog 15 #[.slice a n c] w fun e w' => e = .returned (.slice (some ⟨w.heap.size, 0, none⟩) n n) ∧ Below w.heap.size w w' ∧ HiV w' w.heap.size n N := by
  obtain ⟨i, hi, hz0, hz1, hz2⟩ := info_parts infoV
  have Hl := hide h.len
  go_enter Tryd.func15, Tryd.ntmps15
  go_wp2_with (at_make; refine wpList_make_full _ rfl _ _ 29 rfl w.heap.size 61 i (.agg #[.int .i64 0, .int .i64 0, .string ByteArray.empty, .slice none 0 0]) 4 Tryd.underlying29 hi hz0 hz1 _ _ _ _ n rfl rfl rfl rfl ?b2 ?b3 ?b4 ?_)
  case b2 => rw [hz2]; omega
  case b3 => unfold maxLen; omega
  case b4 => exact Nat.le_refl _
  intro w1 hown hgrow
  have hb1 : Below w.heap.size w w1 := (Below.refl _ _).grown hgrow (Nat.le_refl _) (fun k hk => by cases hk)
  clear hgrow
  obtain ⟨cs1, R1, hz⟩ := rowOf hown
  have Hs := hide hs
  clear hown hs
  go_wp2_with fail
  go_loopw [4] (fun i wr => ∃ (k : Nat) (cs : Array Value) (qf : Nat → Nat), k ≤ n ∧ i = .int .i64 k ∧ Row wr w.heap.size cs 61 ∧ cs.size = n * 4 ∧ Below w.heap.size w wr ∧ Hid ((∀ j, (hj : j < N.length) → j < k → VlX wr w.heap.size cs (j * 4) (qf j) N[j]) ∧ ∀ i j, i < j → j < k → qf i < qf j)) (fun i _ => n - (intOf i).toNat)
  case atStart => exact ⟨0, cs1, fun _ => 0, Nat.zero_le _, rfl, R1, hz, hb1, hide ⟨fun j _ h => absurd h (by omega), fun i j _ h => absurd h (by omega)⟩⟩
  case round =>
    obtain ⟨k, cs, qf, hk, rfl, R2, hz2, B2, Ha⟩ := hrel
    clear R1 hb1
    by_cases hlt : k < n
    · have ilt : (k : Int) < (n : Int) := by omega
      have hkl : k < N.length := by rw [unhide Hl]; exact hlt
      have hsx := unhide Hs N[k] (List.getElem_mem hkl)
      obtain ⟨b, off, rfl, hbl, an, nn, cn, c0, c1, c2, c3, hN⟩ := (h.below B2 (Nat.le_refl _)).cells k hkl
      have hgl := R2.lt
      have k1 : nn ≤ 1048576 := by rw [hN.len]; exact hsx.2.1
      have HY := hide (fun (w2 : World) (hb2 : Below wr.heap.size wr w2) (v0 v1 v2 v3 : Value) (q : Nat) (hq : wr.heap.size ≤ q) (e : VlX (pu4 w2 w.heap.size (k * 4) v0 v1 v2 v3) w.heap.size (pu4A cs (k * 4) v0 v1 v2 v3) (k * 4) q N[k]) => show (∀ j, (hj : j < N.length) → j < k + 1 → VlX (pu4 w2 w.heap.size (k * 4) v0 v1 v2 v3) w.heap.size (pu4A cs (k * 4) v0 v1 v2 v3) (j * 4) (if j = k then q else qf j) N[j]) ∧ ∀ i j, i < j → j < k + 1 → (if i = k then q else qf i) < (if j = k then q else qf j) from ⟨fun j hj h' => by
        by_cases ej : j = k
        · subst ej; rw [if_pos rfl]; exact e
        · rw [if_neg ej]; exact ((unhide Ha).1 j hj (by omega)).step hb2 (by omega) _ _ _ _, fun i j hij hj => by
        rw [if_neg (by omega)]
        by_cases ej : j = k
        · rw [if_pos ej]
          have := ((unhide Ha).1 i (by omega) (by omega)).q
          omega
        · rw [if_neg ej]; exact (unhide Ha).2 i j hij (by omega)⟩)
      have Hlt := hide hlt
      have Hh := hide h
      clear Ha h hsx
      generalize N[k] = x at c0 c1 c2 c3 hN HY
      obtain ⟨u0, e0⟩ := someAt (cs := cs) (p := k * 4) (by omega)
      obtain ⟨u1, e1⟩ := someAt (cs := cs) (p := k * 4 + 1) (by omega)
      obtain ⟨u2, e2⟩ := someAt (cs := cs) (p := k * 4 + 2) (by omega)
      obtain ⟨u3, e3⟩ := someAt (cs := cs) (p := k * 4 + 3) (by omega)
      have HE := hide (And.intro e0 (And.intro e1 (And.intro e2 e3)))
      clear e0 e1 e2 e3
      go_wp2_with (go_at_call 28; refine (toValue_any x an nn cn _ hN k1).mono ?_; rintro e w2 ⟨q, rfl, hN2, g1, hb2⟩; have R3 := R2.after hb2 (Nat.le_refl _); have f3 := (fun j => R3.frozen j); have d0 := (R3.cell _).trans (unhide HE).1; have d1 := (R3.cell _).trans (unhide HE).2.1; have d2 := (R3.cell _).trans (unhide HE).2.2.1; have d3 := (R3.cell _).trans (unhide HE).2.2.2)
      obtain ⟨m0, m1, m2, m3⟩ := pu4A_at (cs := cs) (p := k * 4) (by omega) (.int .i64 x.kind) (.int .i64 x.num) (.string x.text) (.slice (some ⟨q, 0, none⟩) nn nn)
      have E2 := B2.trans (hb2.mono B2.size)
      refine ⟨⟨k + 1, _, _, unhide Hlt, by go_num, pu4_row R3 _ _ _ _, by rw [pu4A_size]; exact hz2, pu4_below E2 (Nat.le_refl _) _ _ _ _, hide (unhide HY w2 hb2 _ _ _ _ q g1 ⟨nn, m0, m1, m2, m3, own_pu4 (ownsRow_low' hN2 (by omega)) (by omega) _ _ _ _⟩)⟩, by have := unhide Hlt; simp [intOf]; omega⟩
    · have HX := hide (show HiV wr w.heap.size n N from ⟨cs, qf, R2, hz2, fun j hj => (unhide Ha).1 j hj (by have := unhide Hl; omega), fun i j hij hj => (unhide Ha).2 i j hij (by have := unhide Hl; omega)⟩)
      clear Ha
      have e : k = n := by omega
      have ilt : ¬ ((k : Int) < (n : Int)) := by omega
      go_wp2_with fail
      go_ret
      exact ⟨rfl, B2, unhide HX⟩

end Go.Proofs.YteefbljehlepjaaDoor

/-
  The model's trees, made of nodes. Own work.
-/
import Derived.Test.YtjapdeehnfoonaaGreatDoorSFM
import Derived.Test.YtjapdeehnfoonaaGreatDoorStepC
import Derived.Test.YtjapdeehnfoonaaGreatDoorZH
namespace Go.Proofs.YtjapdeehnfoonaaGreatDoor
open Go.RowKit
set_option linter.unusedVariables false

theorem rows5_of {w : World} {B : Nat} {ka : Option Addr} {m kc : Nat} {vs : List K5} (h : w.ownsRow B 43 5 (.slice ka m kc) m (vs.flatMap K5.cs)) (hl : vs.length = m) : Rows5 w ka vs := fun j hj => by
  obtain ⟨x, c, e, hx⟩ := owns_form2 h
  cases e
  obtain ⟨g, rfl, _, hc⟩ := hx (by omega)
  refine ⟨g, 0, rfl, (h.lt g rfl).2, fun r hr => ?_⟩
  have e1 := flat5_at vs j hj r hr
  have hl5 : (vs[j].cs).length = 5 := rfl
  have e2 : (vs[j].cs)[r]? = some ((vs[j].cs)[r]'(by omega)) := List.getElem?_eq_getElem _
  rw [e2] at e1 ⊢
  rw [Nat.zero_add]
  exact hc _ _ e1

/-- the kids made so far -/
structure Tk (B : Nat) (kv : Value) (vs : List K5) (bs : List Bool) (w : World) : Prop where
  own : w.ownsRow B 43 5 kv vs.length (vs.flatMap K5.cs)
  len : bs.length = vs.length
  each : ∀ j, (h1 : j < vs.length) → (h2 : j < bs.length) → ∃ lo hi, B ≤ lo ∧ hi ≤ w.heap.size ∧ (∀ q, kv.ownBlock = some q → q < lo ∨ hi ≤ q) ∧ SmV lo hi w vs[j] bs[j]

theorem Tk.below {B : Nat} {kv : Value} {vs : List K5} {bs : List Bool} {w w' : World} (h : Tk B kv vs bs w) (hb : Below w.heap.size w w') : Tk B kv vs bs w' :=
  ⟨ownsRow_below h.own hb (Nat.le_refl _), h.len, fun j h1 h2 => by
    obtain ⟨lo, hi, a1, a2, a3, a4⟩ := h.each j h1 h2
    exact ⟨lo, hi, a1, Nat.le_trans a2 hb.size, a3, a4.keep (KeptR.of_below hb a2 a2)⟩⟩

theorem Tk.set {B : Nat} {kv : Value} {vs : List K5} {bs : List Bool} {w : World} (h : Tk B kv vs bs w) (p : Addr) (u : Value) (hp : p.block < B) : Tk B kv vs bs (w.setCell p u) :=
  ⟨own_set3 h.own p u (fun q hq => by have := (h.own.lt q hq).1; omega), h.len, fun j h1 h2 => by
    obtain ⟨lo, hi, a1, a2, a3, a4⟩ := h.each j h1 h2
    exact ⟨lo, hi, a1, by simpa using a2, a3, a4.keep ⟨by simpa using a2, fun q h3 h4 => heap_setCell_other w p q u (by omega)⟩⟩⟩

theorem Tk.snoc {B : Nat} {kv : Value} {vs : List K5} {bs : List Bool} {w w3 : World} {o : Obj} {g cap lo : Nat} {k : K5} {b : Bool} (h : Tk B kv vs bs w) (hlo : B ≤ lo) (hkv : ∀ q, kv.ownBlock = some q → q < lo) (hs : SmV lo w.heap.size w k b)
    (O3 : w3.ownsRow B 43 5 (.slice (some ⟨g, 0, none⟩) (vs.length + 1) cap) (vs.length + 1) (vs.flatMap K5.cs ++ k.cs)) (hgrow : (w.alloc o).grownBy w3 kv.ownBlock) (hat : kv.ownBlock = some g ∨ g = w.heap.size + 1) :
    Tk B (.slice (some ⟨g, 0, none⟩) (vs.length + 1) cap) (vs ++ [k]) (bs ++ [b]) w3 := by
  have za : (w.alloc o).heap.size = w.heap.size + 1 := by simp
  have zz : w.heap.size ≤ w3.heap.size := by have := hgrow.size; omega
  have kb : ∀ q, q < w.heap.size → kv.ownBlock ≠ some q → w3.heap[q]? = w.heap[q]? := fun q h1 h2 => (hgrow.block q (by rw [za]; omega) (fun e => h2 e.symm)).trans (Below.heap_alloc w o q h1)
  refine ⟨?_, by simp [h.len], fun j h1 h2 => ?_⟩
  · rw [List.flatMap_append, List.length_append]
    simpa using O3
  · by_cases hj : j < vs.length
    · obtain ⟨l, i, a1, a2, a3, a4⟩ := h.each j hj (by rw [h.len]; exact hj)
      rw [List.getElem_append_left hj, List.getElem_append_left (by rw [h.len]; exact hj)]
      refine ⟨l, i, a1, by omega, fun q hq => ?_, a4.keep ⟨by omega, fun q h3 h4 => kb q (by omega) (fun e => by rcases a3 q e with h5 | h5 <;> omega)⟩⟩
      have e : g = q := by simpa [Value.ownBlock] using hq
      subst e
      rcases hat with e | e
      · exact a3 g e
      · right; omega
    · have ej : j = vs.length := by simp at h1; omega
      subst ej
      have e1 : (vs ++ [k])[vs.length] = k := by simp
      have e2 : (bs ++ [b])[vs.length] = b := by simp [← h.len]
      rw [e1, e2]
      refine ⟨lo, w.heap.size, hlo, zz, fun q hq => ?_, hs.keep ⟨zz, fun q h3 h4 => kb q h4 (fun e => by have := hkv q e; omega)⟩⟩
      have e : g = q := by simpa [Value.ownBlock] using hq
      subst e
      rcases hat with e | e
      · exact .inl (hkv g e)
      · right; omega

/-- what they make together -/
theorem Tk.all {B lo : Nat} {ka : Option Addr} {m kc : Nat} {vs : List K5} {bs : List Bool} {w : World} (h : Tk B (.slice ka m kc) vs bs w) (hm : m ≤ 1048576) (hl : vs.length = m) (hlo : lo ≤ B) (op num : Int) (text : ByteArray) (an : Option Addr) (nn cn : Nat) : SmV lo w.heap.size w ⟨op, num, text, an, nn, cn, ka, m, kc⟩ (safeL op bs) := fun W hW => by
  have hr := rows5_of (by have := h.own; rw [hl] at this; exact this) hl
  refine safeM_rec op num text an nn cn ka m kc hm vs hl bs (by rw [h.len, hl]) W (fun j hj => ?_) (fun j h1 h2 W' hb => ?_)
  · obtain ⟨b, off, rfl, h2, h3⟩ := hr j hj
    have hb : B ≤ b := (h.own.lt b rfl).1
    exact ⟨b, off, rfl, Nat.lt_of_lt_of_le h2 hW.1, fun r hr => (World.cell?_of_block (w := w) (hW.2 b (by omega) h2)).trans (h3 r hr)⟩
  · obtain ⟨l, i, a1, a2, a3, a4⟩ := h.each j h1 h2
    exact a4 W' ((hW.sub (by omega) a2).trans (KeptR.of_below hb (Nat.le_trans a2 hW.1) (Nat.le_trans a2 hW.1)))

def L4Ans (b : Bool) (w : World) (r : Ending) (w' : World) : Prop := ∃ k : K5, r = .returned (.agg #[.int .i64 k.op, .int .i64 k.num, .string k.text, .slice k.an k.nn k.cn, .slice k.ka k.kn k.kc]) ∧ SmV w.heap.size w'.heap.size w' k b ∧ Below w.heap.size w w'

theorem infoL4 : (Tryz.prog.info? 43).map (fun i => (i.zero, i.size, i.bytes)) = some (some (.agg #[.int .i64 0, .int .i64 0, .string ByteArray.empty, .slice none 0 0, .slice none 0 0]), 5, 80) := by kernel_rfl

set_option maxRecDepth 100000 in
set_option maxHeartbeats 3200000 in
theorem l4of_kids (a : Option Addr) (n c : Nat) (N : List Nd) (w : World) (hN : Nds w a n c N) (i : Nat) (x : Nd) (hx : N[i]? = some x) (bs : List Bool) (hb : bs.length = x.kids.length)
    (V : ∀ j, (h : j < x.kids.length) → (h2 : j < bs.length) → ∀ W, Below w.heap.size w W → Calls Tryz.prog 13 #[.slice a n c, .int .i64 x.kids[j]] W (L4Ans bs[j] W)) :
    Calls Tryz.prog 13 #[.slice a n c, .int .i64 i] w (L4Ans (safeL x.op bs) w) := by
  obtain ⟨li, hli, lz0, lz1, lz2⟩ := info_parts infoL4
  have hnN := hN.small
  have hlen := hN.len
  have hi : i < N.length := (List.getElem?_eq_some_iff.1 hx).1
  have hxe : N[i] = x := (List.getElem?_eq_some_iff.1 hx).2
  have iin : (i : Int) < (n : Int) := by omega
  obtain ⟨b, off, rfl, hbl, an, nn, cn, ak, nk, ck, c0, c1, c2, c3, c4, hNm, hKd⟩ := hN.cells i hi
  rw [hxe] at c0 c1 c2 hKd
  have HKL := hide hKd.len
  have hnk := hKd.small
  have HO := hide hb
  have HV := hide V
  clear hNm
  clear hlen hx hxe hi hb V
  have B0 := (Below.refl w.heap.size w).alloc (Nat.le_refl _) (.cells #[.int .i64 0, .int .i64 0, .string ⟨#[]⟩, .slice none 0 0, .slice none 0 0] 43)
  have B1 := B0.alloc B0.size (.cells #[.int .i64 x.op, .int .i64 x.num, .string x.text, .slice an nn cn, .slice ak nk ck] 69)
  have B2 := B1.alloc B1.size (.cells #[.int .i64 x.op, .int .i64 x.num, .string x.text, .slice an nn cn, .slice none 0 0] 43)
  have R0 := ((Row.new w #[.int .i64 0, .int .i64 0, .string ⟨#[]⟩, .slice none 0 0, .slice none 0 0] 43).alloc (.cells #[.int .i64 x.op, .int .i64 x.num, .string x.text, .slice an nn cn, .slice ak nk ck] 69)).alloc (.cells #[.int .i64 x.op, .int .i64 x.num, .string x.text, .slice an nn cn, .slice none 0 0] 43)
  have R1 := (Row.new (w.alloc (.cells #[.int .i64 0, .int .i64 0, .string ⟨#[]⟩, .slice none 0 0, .slice none 0 0] 43)) #[.int .i64 x.op, .int .i64 x.num, .string x.text, .slice an nn cn, .slice ak nk ck] 69).alloc (.cells #[.int .i64 x.op, .int .i64 x.num, .string x.text, .slice an nn cn, .slice none 0 0] 43)
  have R2 := Row.new ((w.alloc (.cells #[.int .i64 0, .int .i64 0, .string ⟨#[]⟩, .slice none 0 0, .slice none 0 0] 43)).alloc (.cells #[.int .i64 x.op, .int .i64 x.num, .string x.text, .slice an nn cn, .slice ak nk ck] 69)) #[.int .i64 x.op, .int .i64 x.num, .string x.text, .slice an nn cn, .slice none 0 0] 43
  have zz : (((w.alloc (.cells #[.int .i64 0, .int .i64 0, .string ⟨#[]⟩, .slice none 0 0, .slice none 0 0] 43)).alloc (.cells #[.int .i64 x.op, .int .i64 x.num, .string x.text, .slice an nn cn, .slice ak nk ck] 69)).alloc (.cells #[.int .i64 x.op, .int .i64 x.num, .string x.text, .slice an nn cn, .slice none 0 0] 43)).heap.size = w.heap.size + 3 := by simp
  simp only [World.size_alloc] at R1 R2
  go_enter Tryz.func13, Tryz.ntmps13
  go_wp2_with fail
  generalize (((w.alloc (.cells #[.int .i64 0, .int .i64 0, .string ⟨#[]⟩, .slice none 0 0, .slice none 0 0] 43)).alloc (.cells #[.int .i64 x.op, .int .i64 x.num, .string x.text, .slice an nn cn, .slice ak nk ck] 69)).alloc (.cells #[.int .i64 x.op, .int .i64 x.num, .string x.text, .slice an nn cn, .slice none 0 0] 43)) = W1 at B2 R0 R1 R2 zz ⊢
  clear B0 B1
  have E0 : Tk (w.heap.size + 3) (.slice none 0 0) [] [] W1 := ⟨World.ownsRow_nil _ _ _ _, rfl, fun j h => absurd h (by simp)⟩
  generalize hg0 : w.heap.size = rb at B2 R0 R1 R2 zz E0 ⊢
  have HG := hide hg0
  generalize hg1 : rb + 1 = nb at R1 R2 ⊢
  generalize hg2 : nb + 1 = tb at R2 ⊢
  generalize hg3 : rb + 3 = B at zz E0 ⊢
  have ORD : rb < nb ∧ nb < tb ∧ tb < B := by omega
  have HKd := hide hKd
  clear hg0 hg1 hg2 hg3 hKd c0 c1 c2 c3 c4 hbl
  go_loopw [25] (fun i wr => ∃ (j : Nat) (kv : Value) (vs : List K5), j ≤ nk ∧ i = .int .i64 j ∧ Hid (vs.length = j) ∧ Row wr tb #[.int .i64 x.op, .int .i64 x.num, .string x.text, .slice an nn cn, kv] 43 ∧ Row wr nb #[.int .i64 x.op, .int .i64 x.num, .string x.text, .slice an nn cn, .slice ak nk ck] 69 ∧ Row wr rb #[.int .i64 0, .int .i64 0, .string ⟨#[]⟩, .slice none 0 0, .slice none 0 0] 43 ∧ Tk B kv vs (bs.take j) wr ∧ Below rb w wr ∧ B ≤ wr.heap.size) (fun i _ => nk - (intOf i).toNat)
  case atStart => exact ⟨0, _, [], Nat.zero_le _, rfl, hide rfl, R2, R1, R0, E0, B2, by omega⟩
  case round =>
    obtain ⟨j, kv, vs, hj, rfl, HJ, RT, RN, RR, TK, D1, hB⟩ := hrel
    obtain ⟨xk, ck2, rfl, _⟩ := owns_form2 TK.own
    obtain ⟨t0, t1, t2, t3, t4, tf⟩ := row5 RT
    obtain ⟨n0, n1, n2, n3, n4, nf⟩ := row5 RN
    by_cases hlt : j < nk
    · have ilt : (j : Int) < (nk : Int) := by omega
      have j1 : j < x.kids.length := by rw [unhide HKL]; exact hlt
      have j2 : j < bs.length := by rw [unhide HO]; exact j1
      have D1w : Below w.heap.size w wr := by rw [unhide HG]; exact D1
      obtain ⟨bk, ok, rfl, hbk, ck0⟩ := ((unhide HKd).below D1w (Nat.le_refl _)).cells j j1
      have HC := hide (retOf (unhide HV j j1 j2 wr.drew D1w.drew) (fun e w' ⟨k, h, _⟩ => ⟨_, h⟩))
      have HTB := hide (show bs.take (j + 1) = bs.take j ++ [bs[j]] from List.take_succ_eq_append_getElem j2)
      have Hlt := hide hlt
      generalize x.kids[j] = kj at ck0 HC
      generalize bs[j] = bj at HC HTB
      have hvl : vs.length ≤ 1048576 := by have := unhide HJ; omega
      clear hlt j1 j2
      have RTd := RT.after (Below.refl _ _).drew (Nat.le_refl _)
      have TKd := TK.below (Below.refl _ _).drew
      have sd : wr.drew.cell? ⟨tb, 4, none⟩ = some (.slice xk vs.length ck2) := t4
      have hnm : (Tryz.f13.name == "runtime.NumGoroutine") = false := by kernel_rfl
      have hbd : Tryz.f13.body.isNone = false := by kernel_rfl
      have hkb : ∀ q, (Value.slice xk vs.length ck2).ownBlock = some q → B ≤ q ∧ q < wr.heap.size := fun q hq => TK.own.lt q hq
      go_wp2_with fail
      go_region_law (first
        | (refine step_callR2 rfl 13 _ Tryz.func13 hnm hbd _ _ _ rfl (.slice (some ⟨b, off, none⟩) n c) (.int .i64 kj) rfl rfl _ (unhide HC) ?_; rintro v5 w5 ⟨k5, hv5, hS5, hb5⟩; obtain rfl := ending_inj hv5; obtain ⟨kop, knum, ktext, kan, knn, kcn, kka, kkn, kkc⟩ := k5; dsimp only at hv5 hS5 ⊢; have RT5 := RTd.after hb5 (Nat.le_refl _); obtain ⟨e0, e1, e2, e3, e4, ef⟩ := row5 RT5; have TK5 := TKd.below hb5; have OW5 := World.ownsRow.alloc TK5.own (.cells #[.int .i64 kop, .int .i64 knum, .string ktext, .slice kan knn kcn, .slice kka kkn kkc] 43); have RT6 := RT5.alloc (.cells #[.int .i64 kop, .int .i64 knum, .string ktext, .slice kan knn kcn, .slice kka kkn kkc] 43); obtain ⟨i0, i1, i2, i3, i4, if5⟩ := row5 RT6; have NW := World.news_of_block (heap_alloc_new w5 (.cells #[.int .i64 kop, .int .i64 knum, .string ktext, .slice kan knn kcn, .slice kka kkn kkc] 43)); have z5 := hb5.size)
        | (refine step_append_lies _ rfl _ _ 41 rfl B 43 li (.agg #[.int .i64 0, .int .i64 0, .string ByteArray.empty, .slice none 0 0, .slice none 0 0]) 5 80 Tryz.underlying41 hli lz0 lz1 lz2 rfl (by decide) (.slice xk vs.length ck2) vs.length (vs.flatMap K5.cs) rfl OW5 ⟨w5.heap.size, 0, none⟩ 1 1 (K5.cs ⟨kop, knum, ktext, kan, knn, kcn, kka, kkn, kkc⟩) rfl rfl NW (by intro u hu; simp [K5.cs] at hu; rcases hu with rfl | rfl | rfl | rfl | rfl <;> rfl) (by decide) (by unfold maxLen; omega) (by omega) (by have : wr.drew.heap.size = wr.heap.size := rfl; simp; omega) _ rfl ?_; intro g7 cap7 w7 O7 hgrow hat hlt7; have RT7 : Row w7 tb _ _ := ⟨(hgrow.block tb RT6.lt (fun e => by have := (hkb _ e.symm).1; omega)).trans RT6.out⟩; have s7 : w7.cell? ⟨tb, 4, none⟩ = some (.slice xk vs.length ck2) := RT7.cell 4; have f7 := RT7.frozen 4))
      all_goals
        have hd0 : wr.drew.heap.size = wr.heap.size := rfl
        have TK7 := TK5.snoc (lo := wr.drew.heap.size) (k := ⟨kop, knum, ktext, kan, knn, kcn, kka, kkn, kkc⟩) (b := bj) (by omega) (fun q hq => by have := (hkb q hq).2; omega) hS5 O7 hgrow (hat.imp id (fun e => by rw [e]; simp))
        have TK8 := TK7.set ⟨tb, 4, none⟩ (.slice (some ⟨g7, 0, none⟩) (vs.length + 1) cap7) ORD.2.2
        have RT8 := RT7.set 4 (.slice (some ⟨g7, 0, none⟩) (vs.length + 1) cap7)
        simp only [List.setIfInBounds_toArray, List.set_cons_zero, List.set_cons_succ] at RT8
        have hne : ∀ q, q < B → some q ≠ (Value.slice xk vs.length ck2).ownBlock := fun q hq e => by have := (hkb q e.symm).1; omega
        have RN8 := (((((RN.after (Below.refl _ _).drew (Nat.le_refl _)).after hb5 (Nat.le_refl _)).alloc (.cells #[.int .i64 kop, .int .i64 knum, .string ktext, .slice kan knn kcn, .slice kka kkn kkc] 43)).grown hgrow (hne nb (by omega))).setFar (p := ⟨tb, 4, none⟩) (by show nb ≠ tb; omega) (.slice (some ⟨g7, 0, none⟩) (vs.length + 1) cap7))
        have RR8 := (((((RR.after (Below.refl _ _).drew (Nat.le_refl _)).after hb5 (Nat.le_refl _)).alloc (.cells #[.int .i64 kop, .int .i64 knum, .string ktext, .slice kan knn kcn, .slice kka kkn kkc] 43)).grown hgrow (hne rb (by omega))).setFar (p := ⟨tb, 4, none⟩) (by show rb ≠ tb; omega) (.slice (some ⟨g7, 0, none⟩) (vs.length + 1) cap7))
        have D8 := ((((D1.drew).trans (hb5.mono (by omega))).alloc (by omega) (.cells #[.int .i64 kop, .int .i64 knum, .string ktext, .slice kan knn kcn, .slice kka kkn kkc] 43)).grown hgrow (by simp; omega) (fun q hq => by have := (hkb q hq).1; omega)).setCell (p := ⟨tb, 4, none⟩) (by show rb ≤ tb; omega) (.slice (some ⟨g7, 0, none⟩) (vs.length + 1) cap7)
        have z8 : B ≤ (w7.setCell ⟨tb, 4, none⟩ (.slice (some ⟨g7, 0, none⟩) (vs.length + 1) cap7)).heap.size := by have := hgrow.size; simp at this ⊢; omega
        have HVL := hide (show (vs ++ [(⟨kop, knum, ktext, kan, knn, kcn, kka, kkn, kkc⟩ : K5)]).length = j + 1 by rw [List.length_append, unhide HJ]; rfl)
        have HTK := hide (show Tk B (.slice (some ⟨g7, 0, none⟩) (vs.length + 1) cap7) (vs ++ [(⟨kop, knum, ktext, kan, knn, kcn, kka, kkn, kkc⟩ : K5)]) (bs.take (j + 1)) (w7.setCell ⟨tb, 4, none⟩ (.slice (some ⟨g7, 0, none⟩) (vs.length + 1) cap7)) by rw [unhide HTB]; exact TK8)
        clear hgrow hat O7 TK7 TK8 TK5 TKd TK RT RTd RT5 RT6 RT7 OW5 NW hS5
        go_wp2_with fail
        go_roundw
        case rel => exact ⟨j + 1, _, _, unhide Hlt, by go_num, HVL, RT8, RN8, RR8, unhide HTK, D8, z8⟩
        case measure => have := unhide Hlt; simp [intOf]; omega
    · have e : j = nk := by omega
      subst e
      have Q0 := RR
      obtain ⟨q00, q01, q02, q03, q04, qf0⟩ := row5 Q0
      have Q1 := Q0.set 0 (.int .i64 x.op)
      simp only [List.setIfInBounds_toArray, List.set_cons_zero] at Q1
      obtain ⟨q10, q11, q12, q13, q14, qf1⟩ := row5 Q1
      have Q2 := Q1.set 1 (.int .i64 x.num)
      simp only [List.setIfInBounds_toArray, List.set_cons_zero, List.set_cons_succ] at Q2
      obtain ⟨q20, q21, q22, q23, q24, qf2⟩ := row5 Q2
      have Q3 := Q2.set 2 (.string x.text)
      simp only [List.setIfInBounds_toArray, List.set_cons_zero, List.set_cons_succ] at Q3
      obtain ⟨q30, q31, q32, q33, q34, qf3⟩ := row5 Q3
      have Q4 := Q3.set 3 (.slice an nn cn)
      simp only [List.setIfInBounds_toArray, List.set_cons_zero, List.set_cons_succ] at Q4
      obtain ⟨q40, q41, q42, q43, q44, qf4⟩ := row5 Q4
      have Q5 := Q4.set 4 (.slice xk vs.length ck2)
      simp only [List.setIfInBounds_toArray, List.set_cons_zero, List.set_cons_succ] at Q5
      obtain ⟨s0, s1, s2, s3, s4, _⟩ := row5 Q5
      have TKf := ((((TK.set ⟨rb, 0, none⟩ (.int .i64 x.op) (by show rb < B; omega)).set ⟨rb, 1, none⟩ (.int .i64 x.num) (by show rb < B; omega)).set ⟨rb, 2, none⟩ (.string x.text) (by show rb < B; omega)).set ⟨rb, 3, none⟩ (.slice an nn cn) (by show rb < B; omega)).set ⟨rb, 4, none⟩ (.slice xk vs.length ck2) (by show rb < B; omega)
      have Df := ((((D1.setCell (p := ⟨rb, 0, none⟩) (Nat.le_refl rb) (.int .i64 x.op)).setCell (p := ⟨rb, 1, none⟩) (Nat.le_refl rb) (.int .i64 x.num)).setCell (p := ⟨rb, 2, none⟩) (Nat.le_refl rb) (.string x.text)).setCell (p := ⟨rb, 3, none⟩) (Nat.le_refl rb) (.slice an nn cn)).setCell (p := ⟨rb, 4, none⟩) (Nat.le_refl rb) (.slice xk vs.length ck2)
      have hvm : vs.length ≤ 1048576 := by have := unhide HJ; omega
      have HSM := hide (TKf.all hvm rfl (by omega : rb ≤ B) x.op x.num x.text an nn cn)
      have HBT := hide (show bs.take j = bs from List.take_of_length_le (by rw [unhide HO, unhide HKL]; exact Nat.le_refl _))
      clear TK TKf
      go_wp2_with fail
      refine bodyPost_ret (v := .agg #[.int .i64 x.op, .int .i64 x.num, .string x.text, .slice an nn cn, .slice xk vs.length ck2]) (by simp [results, Tryz.results13, go_sem, s0, s1, s2, s3, s4]) rfl ⟨⟨x.op, x.num, x.text, an, nn, cn, xk, vs.length, ck2⟩, rfl, ?_, ?_⟩
      · rw [unhide HG]
        have := unhide HSM
        rw [unhide HBT] at this
        exact this
      · rw [unhide HG]
        exact Df

end Go.Proofs.YtjapdeehnfoonaaGreatDoor

/-
  Codes of the call's own: marked, and asked for their marks. Own work.
-/
import Derived.Test.YtmkoidbpkhiohaaKI
import Derived.Test.YtmkoidbpkhiohaaOwn
namespace Go.Proofs.Ytmkoidbpkhiohaa
open Go.RowKit
set_option linter.unusedVariables false

theorem OwnP.upto {w w' : World} {lo : Nat} {v : Value} {P : List Vl} {nv : List Value} (h : OwnP w lo v P nv) (h1 : ∀ q, v.ownBlock = some q → w'.heap[q]? = w.heap[q]?) (h2 : ∀ j, (hj : j < nv.length) → ∀ q, nv[j].ownBlock = some q → w'.heap[q]? = w.heap[q]?) : OwnP w' lo v P nv :=
  ⟨h.len, owns_blocks h.own h1, fun j hj hj' => owns_blocks (h.names j hj hj') (h2 j hj'), h.apart, h.far⟩

/-- a value's mark -/
def mkV (k m : Nat) : Vl := ⟨((k : Nat) : Int), ((k + 1 : Nat) : Int), markS (k + 2), marks (k + 3) m⟩

def mpl : Nat → List Vl → List Vl
  | _, [] => []
  | k, x :: P => mkV k x.names.length :: mpl (k + 3 + x.names.length) P

/-- the mark behind the first j -/
def mkK (k : Nat) (P : List Vl) (j : Nat) : Nat := k + 3 * j + ((P.take j).map fun x => x.names.length).sum

theorem mpl_len : ∀ (k : Nat) (P : List Vl), (mpl k P).length = P.length
  | _, [] => rfl
  | k, x :: P => by simp [mpl, mpl_len]

theorem mkK_succ (k : Nat) (P : List Vl) (j : Nat) (h : j < P.length) : mkK k P (j + 1) = mkK k P j + 3 + P[j].names.length := by
  rw [mkK, mkK, List.take_succ_eq_append_getElem h, List.map_append, List.sum_append]
  simp; omega

theorem mkK_zero (k : Nat) (P : List Vl) : mkK k P 0 = k := by simp [mkK]

theorem mkK_mono (k : Nat) (P : List Vl) (j : Nat) (h : j ≤ P.length) : mkK k P j ≤ mkK k P P.length := by
  have : ∀ d, j + d ≤ P.length → mkK k P j ≤ mkK k P (j + d) := by
    intro d
    induction d with
    | zero => intro _; exact Nat.le_refl _
    | succ d ih => intro hd; have := ih (by omega); have := mkK_succ k P (j + d) (by omega); rw [← Nat.add_assoc]; omega
  have := this (P.length - j) (by omega)
  rwa [show j + (P.length - j) = P.length by omega] at this

theorem mpl_at : ∀ (k : Nat) (P : List Vl) (j : Nat) (h : j < P.length) (h' : j < (mpl k P).length), (mpl k P)[j] = mkV (mkK k P j) P[j].names.length
  | k, x :: P, 0, _, _ => by simp [mpl, mkK]
  | k, x :: P, j + 1, h, h' => by
    have ih := mpl_at (k + 3 + x.names.length) P j (by simpa using h) (by simpa [mpl] using h')
    simp only [mpl, List.getElem_cons_succ]
    rw [ih]
    congr 1
    simp only [mkK, List.take_succ_cons, List.map_cons, List.sum_cons]; omega

/-- the first j are marked -/
def mixV (k : Nat) (P : List Vl) (j : Nat) : List Vl := (mpl k P).take j ++ P.drop j

theorem mixV_zero (k : Nat) (P : List Vl) : mixV k P 0 = P := by simp [mixV]
theorem mixV_full (k : Nat) (P : List Vl) : mixV k P P.length = mpl k P := by rw [mixV, List.drop_length, List.append_nil, List.take_of_length_le (by rw [mpl_len]; exact Nat.le_refl _)]
theorem mixV_len (k : Nat) (P : List Vl) (j : Nat) (h : j ≤ P.length) : (mixV k P j).length = P.length := by
  rw [mixV, List.length_append, List.length_take, List.length_drop, mpl_len]; omega
theorem mixV_at (k : Nat) (P : List Vl) (j : Nat) (h : j < P.length) (h' : j < (mixV k P j).length) : (mixV k P j)[j] = P[j] := by
  have hl : ((mpl k P).take j).length = j := by rw [List.length_take, mpl_len]; omega
  simp only [mixV]
  rw [List.getElem_append_right (by omega)]
  simp only [hl, Nat.sub_self, List.getElem_drop, Nat.add_zero]
theorem mixV_set (k : Nat) (P : List Vl) (j : Nat) (h : j < P.length) : (mixV k P j).set j (mkV (mkK k P j) P[j].names.length) = mixV k P (j + 1) := by
  have hl : ((mpl k P).take j).length = j := by rw [List.length_take, mpl_len]; omega
  rw [mixV, List.drop_eq_getElem_cons h, List.set_append_right _ _ (by omega), hl, Nat.sub_self, List.set_cons_zero, mixV, List.take_succ_eq_append_getElem (by rw [mpl_len]; exact h), mpl_at k P j h, List.append_assoc]
  rfl

theorem vlC_set : ∀ (P : List Vl) (nv : List Value) (j : Nat) (h : j < P.length) (hl : nv.length = P.length) (y : Vl), vlC (P.set j y) nv = (((vlC P nv).set (j * 4) (.int .i64 y.kind)).set (j * 4 + 1) (.int .i64 y.num)).set (j * 4 + 2) (.string y.text)
  | x :: P, u :: nv, 0, _, _, y => by simp [vlC, vl4]
  | x :: P, u :: nv, j + 1, h, hl, y => by
    have ih := vlC_set P nv j (by simpa using h) (by simpa using hl) y
    have e : ∀ (A : List Value) i v, (vl4 x u ++ A).set ((j + 1) * 4 + i) v = vl4 x u ++ A.set (j * 4 + i) v := fun A i v => by
      rw [List.set_append_right _ _ (by simp [vl4]; omega)]
      congr 2
      simp [vl4]; omega
    simp only [List.set_cons_succ, vlC]
    rw [ih]
    have e0 := e (vlC P nv) 0 (.int .i64 y.kind)
    simp only [Nat.add_zero] at e0
    rw [e0, e, e]
  | [], _, _, h, _, _ => absurd h (by simp)
  | _ :: _, [], _, _, hl, _ => by simp at hl

theorem OwnP.upd {w w' : World} {lo : Nat} {v : Value} {P : List Vl} {nv : List Value} (h : OwnP w lo v P nv) (j : Nat) (hj : j < P.length) (hj' : j < nv.length) (y : Vl)
    (hown : w'.ownsRow lo 42 4 v P.length (vlC (P.set j y) nv)) (hnm : w'.ownsRow lo 9 1 nv[j] y.names.length (y.names.map Value.string))
    (hoth : ∀ i, (hi : i < nv.length) → i ≠ j → ∀ q, nv[i].ownBlock = some q → w'.heap[q]? = w.heap[q]?) : OwnP w' lo v (P.set j y) nv :=
  ⟨by rw [List.length_set]; exact h.len, by rw [List.length_set]; exact hown, fun i hi hi' => by
    rw [List.getElem_set]
    split
    · rename_i e; subst e; exact hnm
    · rename_i e
      exact owns_blocks (h.names i (by simpa using hi) hi') (hoth i hi' (fun e' => e e'.symm)), h.apart, h.far⟩

/-- all of it lies in the blocks lo .. hi - 1 -/
def InP (v : Value) (nv : List Value) (hi : Nat) : Prop := (∀ q, v.ownBlock = some q → q < hi) ∧ ∀ j, (hj : j < nv.length) → ∀ q, nv[j].ownBlock = some q → q < hi

theorem Touch.wide {l h lo hi : Nat} {w w' : World} (t : Touch l h w w') (hd : (l = 0 ∧ h = 0) ∨ (lo ≤ l ∧ h ≤ hi)) : Touch lo hi w w' :=
  ⟨t.os, t.tape, t.output, t.size, fun k hk hd' => t.block k hk (by omega)⟩

/-- blocks beside these are as they were -/
def KeepP (w w' : World) (v : Value) (nv : List Value) : Prop := ∀ q, q < w.heap.size → v.ownBlock ≠ some q → (∀ j, (hj : j < nv.length) → nv[j].ownBlock ≠ some q) → w'.heap[q]? = w.heap[q]?

/-- a slice of names of the call's own: what marking it may touch -/
theorem ownS_of {w : World} {lo hi m c : Nat} {a : Option Addr} {ss : List ByteArray} (h : w.ownsRow lo 9 1 (.slice a m c) m (ss.map Value.string)) (hs : ∀ s ∈ ss, s.size ≤ maxLen) (hl : ss.length = m) (hb : ∀ q, (Value.slice a m c).ownBlock = some q → q < hi) (hh : hi ≤ w.heap.size) :
    ∃ l u, OwnS w l u a m c ss ∧ ((l = 0 ∧ u = 0) ∨ (lo ≤ l ∧ u ≤ hi ∧ l < u)) ∧ (∀ q, (Value.slice a m c).ownBlock ≠ some q → q < l ∨ u ≤ q) := by
  have hsz : ∀ j, j < m → (nth ss j).size ≤ maxLen := fun j hj => by
    rw [nth_eq _ j (by omega)]; exact hs _ (List.getElem_mem _)
  rcases h.2 with ⟨hv, h0⟩ | ⟨g, cap, cur, hv, hlo, hg, h4⟩
  · simp only [Value.slice.injEq] at hv
    obtain ⟨rfl, rfl, rfl⟩ := hv
    exact ⟨0, 0, ⟨⟨h.1, .inl ⟨rfl, h0⟩⟩, (fun x hx => by cases hx), hsz, Nat.zero_le _⟩, .inl ⟨rfl, rfl⟩, fun q _ => .inr (Nat.zero_le _)⟩
  · have hv' := hv
    simp only [Value.slice.injEq] at hv'
    obtain ⟨rfl, -, rfl⟩ := hv'
    have hgh : g < hi := hb g rfl
    refine ⟨g, g + 1, ⟨⟨h.1, .inr ⟨g, _, cur, rfl, Nat.le_refl _, hg, h4⟩⟩, (fun x hx => by cases hx; exact Nat.lt_succ_self _), hsz, by omega⟩, .inr ⟨hlo, hgh, Nat.lt_succ_self _⟩, fun q hq => ?_⟩
    have : g ≠ q := fun e => hq (by rw [← e]; rfl)
    omega

set_option maxRecDepth 100000 in
set_option maxHeartbeats 3200000 in
theorem markValueS_own (lo hi : Nat) (a : Option Addr) (n c : Nat) (P : List Vl) (nv : List Value) (k : Nat) (w : World) (h : OwnP w lo (.slice a n c) P nv) (hin : InP (.slice a n c) nv hi) (hh : hi ≤ w.heap.size) (hl : P.length = n) (ok : ∀ x ∈ P, okV x) (hk : mkK k P P.length ≤ 1073741824) :
    Calls Try.prog 20 #[.slice a n c, .int .i64 k] w fun e w' => e = .returned (.int .i64 (mkK k P P.length : Nat)) ∧ OwnP w' lo (.slice a n c) (mpl k P) nv ∧ Touch lo hi w w' ∧ KeepP w w' (.slice a n c) nv := by
  have Hl := hide hl
  have Hok := hide ok
  have HK := hide hk
  have hn : n ≤ 1073741824 := by
    have : mkK k P P.length = k + 3 * P.length + ((P.take P.length).map fun x => x.names.length).sum := rfl
    omega
  clear hl ok hk
  go_enter Try.func20, Try.ntmps20
  go_wp2
  go_loopw [1, 5] (fun q i wr => ∃ (j : Nat) (z : Int), j ≤ n ∧ i = .int .i64 j ∧ q = .int .i64 z ∧ z = ((mkK k P j : Nat) : Int) ∧ OwnP wr lo (.slice a n c) (mixV k P j) nv ∧ Touch lo hi w wr ∧ KeepP w wr (.slice a n c) nv) (fun _ i _ => n - (intOf i).toNat)
  case atStart => exact ⟨0, k, Nat.zero_le _, rfl, rfl, by rw [mkK_zero], by rw [mixV_zero]; exact h, Touch.refl _ _ _, fun _ _ _ _ => rfl⟩
  case round =>
    obtain ⟨j, z, hj, rfl, rfl, hz, OP, ht, hkp⟩ := hrel
    by_cases hlt : j < n
    · have hjl : j < P.length := by rw [unhide Hl]; exact hlt
      have hlm : (mixV k P j).length = P.length := mixV_len k P j (by omega)
      have hjm : j < (mixV k P j).length := by omega
      have hjn : j < nv.length := by rw [OP.len]; exact hjm
      have hz1 := mkK_succ k P j hjl
      have hz2 := mkK_mono k P (j + 1) (by omega)
      have hK := unhide HK
      have ilt : (j : Int) < (n : Int) := by omega
      have z0 : 0 ≤ z := by omega
      obtain ⟨g, hg⟩ : ∃ g, a = some ⟨g, 0, none⟩ := by
        rcases OP.own.2 with ⟨_, h0⟩ | ⟨g, cap, cur, hv, _⟩
        · omega
        · simp only [Value.slice.injEq] at hv; exact ⟨g, hv.1⟩
      subst hg
      have hgl := (OP.lts.1 g rfl).1
      have hgh : g < hi := hin.1 g rfl
      have hgw := (OP.lts.1 g rfl).2
      have eat := mixV_at k P j hjl hjm
      obtain ⟨x0, x1, x2, x3⟩ := vlC_at (mixV k P j) nv j hjm hjn
      have hown : wr.ownsRow lo 42 4 (.slice (some ⟨g, 0, none⟩) n c) n (vlC (mixV k P j) nv) := by have := OP.own; rwa [hlm, unhide Hl] at this
      have hcl := vlC_len (mixV k P j) nv OP.len
      have hnm := OP.names j hjm hjn
      rw [eat] at x0 x1 x2 hnm
      obtain ⟨an, cn, hu⟩ := owns_form hnm
      obtain ⟨m, hm⟩ : ∃ m, m = P[j].names.length := ⟨_, rfl⟩
      have hmok := unhide Hok P[j] (List.getElem_mem hjl)
      rw [← hm] at hu hnm
      have z1 : z + 3 + m ≤ 1073741824 := by omega
      have HZ := hide (show z + 3 + m = ((mkK k P (j + 1) : Nat) : Int) by omega)
      have far := OP.far j hjn
      rw [hu] at x3 hnm
      have c0 := (hown.cellAt (j * 4) (by omega)).trans x0
      have c1 := (hown.cellAt (j * 4 + 1) (by omega)).trans x1
      have cf := fun i => hown.frozenAt i
      have O2 := ((hown.stored (j * 4) (.int .i64 z)).1.stored (j * 4 + 1) (.int .i64 (z + 1))).1
      have T2 := (Touch.setCell (lo := g) (hi := g + 1) wr ⟨g, j * 4, none⟩ (.int .i64 z) (Nat.le_refl _) (Nat.lt_succ_self _)).trans (Touch.setCell (lo := g) (hi := g + 1) _ ⟨g, j * 4 + 1, none⟩ (.int .i64 (z + 1)) (Nat.le_refl _) (Nat.lt_succ_self _))
      have Hz := hide hz
      have Hlt := hide hlt
      have Hm := hide hm
      have Hu := hide hu
      have Hok2 := hide hmok
      have HOP := hide OP
      generalize P[j].kind = k0 at c0
      generalize P[j].num = k1 at c1
      generalize P[j].text = k2 at x2
      obtain ⟨nm, hnmE⟩ : ∃ nm, nm = P[j].names := ⟨_, rfl⟩
      rw [← hnmE] at hnm
      have Hnm := hide hnmE
      clear hz hz1 hz2 hK hm hu hmok OP hown x0 x1 hnmE eat
      go_wp2_with fail
      generalize (wr.setCell ⟨g, j * 4, none⟩ (.int .i64 z)).setCell ⟨g, j * 4 + 1, none⟩ (.int .i64 (z + 1)) = W2 at O2 T2 ⊢
      clear c0 c1 cf
      refine (markText_int (z + 1 + 1) W2 (by omega) (by omega)).mono ?_
      rintro e w3 ⟨rfl, hb3⟩
      have O3 := owns_blocks (w' := w3) O2 (fun q hq => hb3.block q (O2.lt q hq).2)
      have T3 := T2.trans (Touch.of_below (lo := g) (hi := g + 1) hb3 (Nat.le_refl _))
      clear O2 T2 hb3
      have c2 : w3.cell? ⟨g, j * 4 + 2, none⟩ = some (.string k2) := (O3.cellAt (j * 4 + 2) (by omega)).trans (by rw [List.getElem?_set_ne (by omega), List.getElem?_set_ne (by omega)]; exact x2)
      have f3 := fun i => O3.frozenAt i
      have O4 := (O3.stored (j * 4 + 2) (.string (markS (z + 1 + 1).toNat))).1
      have d3 : (w3.setCell ⟨g, j * 4 + 2, none⟩ (.string (markS (z + 1 + 1).toNat))).cell? ⟨g, j * 4 + 3, none⟩ = some (.slice an m cn) := (O4.cellAt (j * 4 + 3) (by omega)).trans (by rw [List.getElem?_set_ne (by omega), List.getElem?_set_ne (by omega), List.getElem?_set_ne (by omega)]; exact x3)
      have T4 := T3.trans (Touch.setCell (lo := g) (hi := g + 1) w3 ⟨g, j * 4 + 2, none⟩ (.string (markS (z + 1 + 1).toNat)) (Nat.le_refl _) (Nat.lt_succ_self _))
      clear T3 O3
      go_wp2_with fail
      generalize w3.setCell ⟨g, j * 4 + 2, none⟩ (.string (markS (z + 1 + 1).toNat)) = W4 at O4 d3 T4 ⊢
      clear c2 f3
      have hqne : ∀ q, (Value.slice an m cn).ownBlock = some q → q ≠ g := fun q hq e => by
        subst e
        exact far q (by rw [unhide Hu]; exact hq) rfl
      have N4 := owns_blocks (w' := W4) hnm (fun q hq => T4.block q (hnm.lt q hq).2 (by have := hqne q hq; omega))
      obtain ⟨l, u, OS, hlu, hsep⟩ := ownS_of (hi := hi) N4 (fun s hs => by have := (unhide Hok2).2.2 s (by rw [← unhide Hnm]; exact hs); unfold maxLen; omega) (by rw [unhide Hnm, unhide Hm]) (fun q hq => hin.2 j hjn q (by rw [unhide Hu]; exact hq)) (by have := T4.size; have := ht.size; omega)
      refine (markStringS_int l u _ _ _ _ (z + 1 + 1 + 1) W4 OS (by omega) (by omega)).mono ?_
      rintro e w5 ⟨rfl, OS5, T5⟩
      have HF : Hid (OwnP w5 lo (.slice (some ⟨g, 0, none⟩) n c) (mixV k P (j + 1)) nv) := hide (by
        have hz := unhide Hz
        have E : mixV k P (j + 1) = (mixV k P j).set j (mkV (mkK k P j) P[j].names.length) := (mixV_set k P j hjl).symm
        rw [E]
        refine (unhide HOP).upd j hjm hjn _ ?_ ?_ ?_
        · rw [hlm, unhide Hl, vlC_set _ _ _ hjm (unhide HOP).len]
          have e0 : (mkV (mkK k P j) P[j].names.length).kind = z := hz.symm
          have e1 : (mkV (mkK k P j) P[j].names.length).num = z + 1 := by show ((mkK k P j + 1 : Nat) : Int) = _; omega
          have e2 : (mkV (mkK k P j) P[j].names.length).text = markS (z + 1 + 1).toNat := by show markS (mkK k P j + 2) = _; rw [show (z + 1 + 1).toNat = mkK k P j + 2 by omega]
          rw [e0, e1, e2]
          refine owns_blocks O4 (fun q hq => ?_)
          have eq : g = q := by simpa [Value.ownBlock] using hq
          subst eq
          refine T5.block g (O4.lt g rfl).2 (hsep g (fun e => hqne g e rfl))
        · have e3 : (mkV (mkK k P j) P[j].names.length).names = marks (z + 1 + 1 + 1).toNat m := by show marks (mkK k P j + 3) P[j].names.length = _; rw [unhide Hm, show (z + 1 + 1 + 1).toNat = mkK k P j + 3 by omega]
          rw [e3, unhide Hu]
          have hlen : (marks (z + 1 + 1 + 1).toNat m).length = m := by simp [marks]
          rw [hlen]
          refine ⟨OS5.own.1, ?_⟩
          rcases OS5.own.2 with h2 | ⟨g2, cap2, cur2, hv2, h3, h4⟩
          · exact .inl h2
          · refine .inr ⟨g2, cap2, cur2, hv2, ?_, h4⟩
            have := (N4.lt g2 (by rw [hv2]; rfl)).1
            exact this
        · intro i hi' hne q hq
          have hq2 : (Value.slice an m cn).ownBlock ≠ some q := fun e => by
            rw [← unhide Hu] at e
            by_cases hij : i < j
            · exact (unhide HOP).apart i j hij hjn q hq e
            · exact (unhide HOP).apart j i (by omega) hi' q e hq
          have hqg : q ≠ g := fun e => by subst e; exact (unhide HOP).far i hi' q hq rfl
          have hqw := ((unhide HOP).lts.2 i hi' q hq).2
          exact (T5.block q (by have := T4.size; omega) (hsep q hq2)).trans (T4.block q hqw (by omega)))
      have TT := (ht.trans (T4.wide (.inr ⟨hgl, hgh⟩))).trans (T5.wide (by rcases hlu with e | e; exact .inl e; exact .inr ⟨e.1, e.2.1⟩))
      have HTT := hide TT
      have HKP : Hid (KeepP w w5 (.slice (some ⟨g, 0, none⟩) n c) nv) := hide (fun q hq h1 h2 => by
        have hqw := Nat.lt_of_lt_of_le hq ht.size
        have hqg : q ≠ g := fun e => h1 (by rw [e]; rfl)
        refine ((T5.block q (by have := T4.size; omega) (hsep q (fun e => h2 j hjn (by rw [unhide Hu]; exact e)))).trans (T4.block q hqw (by omega))).trans (hkp q hq h1 h2))
      clear O4 d3 T4 T5 OS OS5 N4 hnm HOP TT hlu hsep far x2 x3
      go_wp2_with fail
      go_roundw
      case rel => exact ⟨j + 1, z + 1 + 1 + 1 + m, unhide Hlt, by go_num, by go_num, by have := unhide HZ; omega, unhide HF, unhide HTT, unhide HKP⟩
      case measure => have := unhide Hlt; simp [intOf]; omega
    · have e : j = n := by omega
      subst e
      go_wp2
      go_ret
      rw [← unhide Hl] at hz OP
      rw [mixV_full] at OP
      exact ⟨by rw [hz]; rfl, by rw [← unhide Hl]; exact OP, ht, hkp⟩

end Go.Proofs.Ytmkoidbpkhiohaa

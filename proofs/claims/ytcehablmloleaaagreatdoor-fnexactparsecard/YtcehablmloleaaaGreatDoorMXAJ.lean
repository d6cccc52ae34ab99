/-
  ONP, IA, IB, TR, TT, TU, TX, TY. Own work.
-/
import Derived.Test.YtcehablmloleaaaGreatDoorMXAI
import Derived.Test.YtcehablmloleaaaGreatDoorMXAG
import Derived.Test.YtcehablmloleaaaGreatDoorMXAC
import Derived.Test.YtcehablmloleaaaGreatDoorTH
import Derived.Test.YtcehablmloleaaaGreatDoorMXAO
import Derived.Test.YtcehablmloleaaaGreatDoorShelf
import Derived.Lib.IndexLaws
import Derived.Lib.ParseIntB
import Derived.Lib.AtoiErrMem
import Derived.WalkMore
namespace Go.Proofs.YtcehablmloleaaaGreatDoor
open Go.RowKit
set_option linter.unusedVariables false

/-- a typed policy of the call's own, in the blocks lo .. hi - 1 -/
structure OwnTy (w : World) (lo hi : Nat) (x : Option Addr) (n cx : Nat) (y : Option Addr) (m cy : Nat) (z : Option Addr) (p cz : Nat) (N : List Nd) (nv kv : List Value) (L : List St) (T : List Int) : Prop where
  nd : OwnN w lo (.slice x n cx) N nv kv
  st : w.ownsRow lo 51 4 (.slice y m cy) m (stmC L)
  ty : w.ownsRow lo 3 1 (.slice z p cz) p (intsV T)
  apart : ∀ q, (Value.slice z p cz).ownBlock = some q → ∀ j, (hj : j < kv.length) → kv[j].ownBlock ≠ some q
  inN : InN (.slice x n cx) nv kv hi
  inS : ∀ q, (Value.slice y m cy).ownBlock = some q → q < hi
  inT : ∀ q, (Value.slice z p cz).ownBlock = some q → q < hi
  top : hi ≤ w.heap.size
  nn : N.length = n
  ns : L.length = m
  nt : T.length = p

/-- what a typed policy is like that is small -/
def okTP (N : List Nd) (L : List St) (T : List Int) : Prop := (N.length ≤ 65535 ∧ ∀ x ∈ N, okN x ∧ x.text.size ≤ 1048576 ∧ x.names.length + x.kids.length ≤ 65535) ∧ (L.length ≤ 65535 ∧ ∀ s ∈ L, s.name.size ≤ 1048576) ∧ T.length ≤ 65535

theorem OwnTy.touch {w w' : World} {lo hi l u n cx m cy p cz : Nat} {x y z : Option Addr} {N : List Nd} {nv kv : List Value} {L : List St} {T : List Int} (h : OwnTy w lo hi x n cx y m cy z p cz N nv kv L T) (t : Touch l u w w') (hd : hi ≤ l ∨ u ≤ lo) : OwnTy w' lo hi x n cx y m cy z p cz N nv kv L T := by
  have hk : ∀ q, lo ≤ q → q < hi → w'.heap[q]? = w.heap[q]? := fun q h1 h2 => t.block q (Nat.lt_of_lt_of_le h2 h.top) (by omega)
  exact ⟨h.nd.upto (fun q hq => hk q (h.nd.lts.1 q hq).1 (h.inN.1 q hq)) (fun j hj q hq => hk q (h.nd.lts.2.1 j hj q hq).1 (h.inN.2.1 j hj q hq)) (fun j hj q hq => hk q (h.nd.lts.2.2 j hj q hq).1 (h.inN.2.2 j hj q hq)), owns_blocksN h.st (fun q hq => hk q (h.st.lt q hq).1 (h.inS q hq)), owns_blocksN h.ty (fun q hq => hk q (h.ty.lt q hq).1 (h.inT q hq)), h.apart, h.inN, h.inS, h.inT, Nat.le_trans h.top t.size, h.nn, h.ns, h.nt⟩

theorem OwnTy.below {w w' : World} {lo hi B n cx m cy p cz : Nat} {x y z : Option Addr} {N : List Nd} {nv kv : List Value} {L : List St} {T : List Int} (h : OwnTy w lo hi x n cx y m cy z p cz N nv kv L T) (hb : Below B w w') (hB : hi ≤ B) : OwnTy w' lo hi x n cx y m cy z p cz N nv kv L T :=
  h.touch (l := hi) (u := w.heap.size + hi) ⟨hb.os, hb.tape, hb.output, hb.size, fun k hk hd => hb.block k (by omega)⟩ (.inl (Nat.le_refl _))

theorem OwnN.nds {w : World} {lo n c : Nat} {a : Option Addr} {N : List Nd} {nv kv : List Value} (h : OwnN w lo (.slice a n c) N nv kv) (hn : N.length = n) (hs : n ≤ 1048576) (ok : ∀ x ∈ N, okN x ∧ x.text.size ≤ 1048576) : Nds w a n c N := by
  refine ⟨hn, hs, fun x hx => (ok x hx).2, fun j hj => ?_⟩
  have hj' : j < nv.length := by rw [h.len]; exact hj
  have hjk : j < kv.length := by rw [h.lenk]; exact hj
  have xx := ndC_at N nv kv j hj hj' hjk
  have x0 := xx 0 (by decide)
  have x1 := xx 1 (by decide)
  have x2 := xx 2 (by decide)
  have x3 := xx 3 (by decide)
  have x4 := xx 4 (by decide)
  simp only [nd5, Nat.add_zero, List.getElem?_cons_zero, List.getElem?_cons_succ] at x0 x1 x2 x3 x4
  obtain ⟨g, ha⟩ : ∃ g, a = some ⟨g, 0, none⟩ := by
    rcases h.own.2 with ⟨_, h0⟩ | ⟨g, cap, cur, hv, _⟩
    · omega
    · simp only [Value.slice.injEq] at hv; exact ⟨g, hv.1⟩
  subst ha
  subst hn
  have hl := ndC_len N nv kv h.len h.lenk
  have cell : ∀ i, i < 5 → w.cell? ⟨g, 0 + j * 5 + i, none⟩ = (ndC N nv kv)[j * 5 + i]? := fun i hi => by
    rw [Nat.zero_add]; exact h.own.cellAt (g := g) (n := N.length) (j * 5 + i) (by omega)
  obtain ⟨an, cn, hu⟩ := owns_form (h.names j hj hj')
  obtain ⟨ak, ck, huk⟩ := owns_form (h.kids j hj hjk)
  have hN := h.names j hj hj'
  have hK := h.kids j hj hjk
  rw [hu] at x3 hN
  rw [huk] at x4 hK
  have hok := ok _ (List.getElem_mem hj)
  refine ⟨g, 0, rfl, (h.own.lt g rfl).2, an, _, cn, ak, _, ck, (cell 0 (by omega)).trans x0, (cell 1 (by omega)).trans x1, (cell 2 (by omega)).trans x2, (cell 3 (by omega)).trans x3, (cell 4 (by omega)).trans x4, Strs.of_owns hN (fun i hi => ?_), ints_of_owns hK rfl hok.1.2.1⟩
  rw [nth_eq _ i hi]
  exact hok.1.2.2 _ (List.getElem_mem hi)

theorem sts_of_owns {w : World} {lo n c : Nat} {a : Option Addr} {L : List St} (h : w.ownsRow lo 51 4 (.slice a n c) n (stmC L)) (hl : L.length = n) (hn : n ≤ 1048576) (ok : ∀ s ∈ L, s.name.size ≤ 1048576) : Sts w a n c L := by
  refine ⟨hl, hn, ok, fun j hj => ?_⟩
  have xx := stmC_at L j hj
  have x0 := xx 0 (by decide)
  have x1 := xx 1 (by decide)
  have x2 := xx 2 (by decide)
  have x3 := xx 3 (by decide)
  simp only [Nat.add_zero, List.getElem?_cons_zero, List.getElem?_cons_succ] at x0 x1 x2 x3
  obtain ⟨x, c', e, hx⟩ := owns_form2 h
  cases e
  obtain ⟨g, rfl, hg, hc⟩ := hx (by omega)
  refine ⟨g, 0, rfl, (h.lt g rfl).2, ?_, ?_, ?_, ?_⟩
  · rw [Nat.zero_add]; exact hc _ _ x0
  · rw [Nat.zero_add]; exact hc _ _ x1
  · rw [Nat.zero_add]; exact hc _ _ x2
  · rw [Nat.zero_add]; exact hc _ _ x3

theorem OwnTy.mem {w : World} {lo hi n cx m cy p cz : Nat} {x y z : Option Addr} {N : List Nd} {nv kv : List Value} {L : List St} {T : List Int} (h : OwnTy w lo hi x n cx y m cy z p cz N nv kv L T) (ok : okTP N L T) : Nds w x n cx N ∧ Sts w y m cy L ∧ Ints w z p cz T := by
  have e1 := h.nn
  have e2 := h.ns
  have e3 := h.nt
  exact ⟨h.nd.nds e1 (by have := ok.1.1; omega) (fun x hx => ⟨(ok.1.2 x hx).1, (ok.1.2 x hx).2.1⟩), sts_of_owns h.st e2 (by have := ok.2.1.1; omega) ok.2.1.2, ints_of_owns h.ty e3 (by have := ok.2.2; omega)⟩

theorem mdK_bound (N : List Nd) (h : N.length ≤ 65535) (ok : ∀ x ∈ N, x.names.length + x.kids.length ≤ 65535) : mdK 1 N N.length ≤ 8589934592 := by
  have hs : ∀ L : List Nd, (∀ x ∈ L, x.names.length + x.kids.length ≤ 65535) → (L.map nlen).sum ≤ 65535 * L.length := by
    intro L
    induction L with
    | nil => intro _; simp
    | cons x L ih =>
      intro hL
      have h1 := ih (fun y hy => hL y (List.mem_cons_of_mem _ hy))
      have h2 := hL x (List.mem_cons_self ..)
      simp only [List.map_cons, List.sum_cons, List.length_cons, nlen]
      omega
  have := hs N ok
  rw [mdK, List.take_length]
  have : 65535 * N.length ≤ 65535 * 65535 := Nat.mul_le_mul_left _ h
  omega

theorem rowTouchY {w w' : World} {b lo hi : Nat} {cs : Array Value} {t : TypeId} (h : Row w b cs t) (T : Touch lo hi w w') (hd : b < lo ∨ hi ≤ b) : Row w' b cs t := ⟨(T.block b h.lt hd).trans h.out⟩

theorem own_lowY {w : World} {base base' : Nat} {e : TypeId} {size : Nat} {v : Value} {n : Nat} {xs xs' : List Value} (h : w.ownsRow base e size v n xs) (h' : ∀ q, v.ownBlock = some q → base' ≤ q) : w.ownsRow base' e size v n xs := by
  refine ⟨h.1, ?_⟩
  rcases h.2 with h2 | ⟨g, cap, cur, hv, h3, h4⟩
  · exact .inl h2
  · exact .inr ⟨g, cap, cur, hv, h' g (by rw [hv]; rfl), h4⟩

end Go.Proofs.YtcehablmloleaaaGreatDoor

namespace Go.Proofs.YtcehablmloleaaaGreatDoor
open Go.RowKit
set_option linter.unusedVariables false

/-- the mark behind a policy -/
def mkP (N : List Nd) (m : Nat) : Int := (mdK 1 N N.length : Nat) + 4 * (m : Int)

theorem rowP2 {w : World} {b : Nat} {v0 v1 : Value} {t : TypeId} (R : Row w b #[v0, v1] t) : w.cell? ⟨b, 0, none⟩ = some v0 ∧ w.cell? ⟨b, 1, none⟩ = some v1 := ⟨R.cell 0, R.cell 1⟩

set_option maxRecDepth 100000 in
set_option maxHeartbeats 3200000 in
theorem markPolicy_own (lo hi n cx m cy p cz : Nat) (x y z : Option Addr) (N : List Nd) (nv kv : List Value) (L : List St) (T : List Int) (w : World) (h : OwnTy w lo hi x n cx y m cy z p cz N nv kv L T) (ok : okTP N L T) :
    Calls Tryz.prog 9 #[.agg #[.slice x n cx, .slice y m cy], .int .i64 1] w fun e w' => e = .returned (.int .i64 (mkP N m)) ∧ OwnTy w' lo hi x n cx y m cy z p cz (mdl 1 N) nv kv (marksT (mdK 1 N N.length) m) T ∧ Touch lo hi w w' := by
  have hb := mdK_bound N ok.1.1 (fun x hx => (ok.1.2 x hx).2.2)
  have hm : m ≤ 65535 := by rw [← h.ns]; exact ok.2.1.1
  have hp : p ≤ 65535 := by rw [← h.nt]; exact ok.2.2
  have R0 := Row.new w #[.slice x n cx, .slice y m cy] 25
  have B0 := (Below.refl w.heap.size w).alloc (Nat.le_refl _) (.cells #[.slice x n cx, .slice y m cy] 25)
  have h0 := h.below B0 h.top
  have Hok := hide ok
  have Htop := h.top
  have Hnn := hide h.nn
  have HMK := hide (show mkP N m = ((mdK 1 N N.length : Nat) : Int) + 4 * (m : Int) from rfl)
  have HH := hide h
  clear h ok
  go_enter Tryz.func9, Tryz.ntmps9
  go_wp2_with fail
  refine (markNodeS_own lo hi x n cx N nv kv 1 _ h0.nd h0.inN h0.top (unhide Hnn) (fun x hx => ((unhide Hok).1.2 x hx).1) (by omega)).mono ?_
  rintro e w2 ⟨rfl, ON2, T2, KN2⟩
  have OS2 := owns_blocksN (w' := w2) h0.st (fun q hq => KN2 q (h0.st.lt q hq).2 (own_ne_ownN h0.st h0.nd.own (by decide) q hq) (fun j hj => own_ne_ownN h0.st (h0.nd.names j (by rw [← h0.nd.len]; exact hj) hj) (by decide) q hq) (fun j hj => own_ne_ownN h0.st (h0.nd.kids j (by rw [← h0.nd.lenk]; exact hj) hj) (by decide) q hq))
  have OT2 := owns_blocksN (w' := w2) h0.ty (fun q hq => KN2 q (h0.ty.lt q hq).2 (own_ne_ownN h0.ty h0.nd.own (by decide) q hq) (fun j hj => own_ne_ownN h0.ty (h0.nd.names j (by rw [← h0.nd.len]; exact hj) hj) (by decide) q hq) (fun j hj => h0.apart q hq j hj))
  have R2 := rowTouchY R0 T2 (.inr (by omega))
  obtain ⟨q0, q1⟩ := rowP2 R2
  generalize hMM : mdK 1 N N.length = MM at hb HMK ⊢
  have HMM := hide hMM
  clear hMM
  dsimp only
  go_wp2_with fail
  obtain ⟨l3, u3, OS3, hu3, hlu3, hsep3⟩ := owns_tightN OS2 (unhide HH).inS
  have hz2 := T2.size
  have hz0 := B0.size
  have hu3w : u3 ≤ w2.heap.size := by rcases hlu3 with e | e <;> omega
  refine (markStmtS_own l3 u3 y m cy L _ w2 OS3 hu3 hu3w (unhide HH).ns (by omega) (by omega)).mono ?_
  rintro e w3 ⟨rfl, OS4, T3⟩
  rw [Int.toNat_natCast] at OS4
  have R3 : Row w3 w.heap.size _ 25 := rowTouchY R2 T3 (.inr (by rcases hlu3 with e | e <;> omega))
  obtain ⟨r0, r1⟩ := rowP2 R3
  have OT3 := owns_blocksN (w' := w3) OT2 (fun q hq => T3.block q (OT2.lt q hq).2 (hsep3 q (fun e => own_ne_ownN OT2 OS2 (by decide) q hq e)))
  have ON3 := ON2.upto (w' := w3) (fun q hq => T3.block q (ON2.lts.1 q hq).2 (hsep3 q (fun e => own_ne_ownN OS2 ON2.own (by decide) q e hq))) (fun j hj q hq => T3.block q (ON2.lts.2.1 j hj q hq).2 (hsep3 q (fun e => own_ne_ownN OS2 (ON2.names j (by rw [← ON2.len]; exact hj) hj) (by decide) q e hq))) (fun j hj q hq => T3.block q (ON2.lts.2.2 j hj q hq).2 (hsep3 q (fun e => own_ne_ownN OS2 (ON2.kids j (by rw [← ON2.lenk]; exact hj) hj) (by decide) q e hq)))
  clear q0 q1
  have z2 := T2.size
  have z3 := T3.size
  have z0 := B0.size
  dsimp only
  go_wp2_with fail
  go_ret
  have OS3' : w3.ownsRow lo 51 4 (.slice y m cy) m (stmC (marksT MM m)) := own_lowY (xs' := []) OS4 (fun q hq => (OS2.lt q hq).1)
  refine ⟨by rw [unhide HMK]; rfl, ⟨ON3, ?_, OT3, (unhide HH).apart, (unhide HH).inN, (unhide HH).inS, (unhide HH).inT, by omega, by rw [mdl_len]; exact unhide Hnn, marksT_len _ _, (unhide HH).nt⟩, ?_⟩
  · rw [unhide HMM]
    exact OS3'
  · exact ((Touch.of_below B0 (Nat.le_refl _)).trans T2).trans (T3.wide hlu3)

set_option maxRecDepth 100000 in
set_option maxHeartbeats 3200000 in
theorem heldPolicy_own (lo hi n cx m cy p cz : Nat) (x y z : Option Addr) (N : List Nd) (nv kv : List Value) (L : List St) (T Z : List Int) (w : World) (h : OwnTy w lo hi x n cx y m cy z p cz (mdl 1 N) nv kv (marksT (mdK 1 N N.length) m) Z) (ok : okTP N L T) (hm : m ≤ 65535) (hp : p ≤ 65535) :
    Calls Tryz.prog 11 #[.agg #[.slice x n cx, .slice y m cy], .int .i64 1] w fun e w' => e = .returned (.int .i64 (mkP N m)) ∧ Below w.heap.size w w' := by
  have hb := mdK_bound N ok.1.1 (fun x hx => (ok.1.2 x hx).2.2)
  have R0 := Row.new w #[.slice x n cx, .slice y m cy] 25
  have B0 := (Below.refl w.heap.size w).alloc (Nat.le_refl _) (.cells #[.slice x n cx, .slice y m cy] 25)
  have h0 := h.below B0 h.top
  have HMK := hide (show mkP N m = ((mdK 1 N N.length : Nat) : Int) + 4 * (m : Int) from rfl)
  have hnp : N.length = n := by have := h.nn; rwa [mdl_len] at this
  have Hnp := hide hnp
  have Hok := hide ok
  clear hnp ok
  go_enter Tryz.func11, Tryz.ntmps11
  go_wp2_with fail
  refine (heldNodeS_own lo x n cx N nv kv 1 _ h0.nd (unhide Hnp) (fun x hx => ((unhide Hok).1.2 x hx).1) (by omega)).mono ?_
  rintro e w2 ⟨rfl, hb2⟩
  have R2 := R0.after hb2 (Nat.le_refl _)
  obtain ⟨q0, q1⟩ := rowP2 R2
  have OS2 := owns_blocksN (w' := w2) h0.st (fun q hq => hb2.block q (h0.st.lt q hq).2)
  generalize hMM : mdK 1 N N.length = MM at hb HMK OS2
  rw [hMM] at *
  have hn1 : ¬ (((MM : Nat) : Int) < 0) := by omega
  have hn2 : ¬ (((MM : Nat) : Int) + 4 * (m : Int) < 0) := by omega
  dsimp only
  go_wp2_with fail
  refine (heldStmtS_own lo y m cy _ w2 (by rw [Int.toNat_natCast]; exact OS2) (by omega) (by omega)).mono ?_
  rintro e w3 ⟨rfl, hb3⟩
  have R3 := R2.after hb3 (Nat.le_refl _)
  clear q0 q1
  obtain ⟨r0, r1⟩ := rowP2 R3
  dsimp only
  go_wp2_with fail
  go_ret
  exact ⟨by rw [unhide HMK]; rfl, (B0.trans (hb2.mono B0.size)).trans (hb3.mono (by have := B0.size; have := hb2.size; omega))⟩

/-- the places are marked, too -/
theorem markPlaces_own (lo hi n cx m cy p cz : Nat) (x y z : Option Addr) (N : List Nd) (nv kv : List Value) (L : List St) (T : List Int) (k : Int) (w : World) (h : OwnTy w lo hi x n cx y m cy z p cz N nv kv L T) (hp : p ≤ 65535) (hk : 0 ≤ k) (hkb : k ≤ 8591000000) :
    Calls Tryz.prog 10 #[.slice z p cz, .int .i64 k] w fun e w' => e = .returned (.int .i64 (k + (p : Int))) ∧ OwnTy w' lo hi x n cx y m cy z p cz N nv kv L (marksZ k.toNat p) ∧ Touch lo hi w w' := by
  obtain ⟨l4, u4, OT4, hu4, hlu4, hsep4⟩ := owns_tightN h.ty h.inT
  refine (markIntS_own l4 u4 z p cz T _ w OT4 hu4 h.nt (by omega) (by omega)).mono ?_
  rintro e w4 ⟨rfl, OT5, T4⟩
  refine ⟨rfl, ⟨?_, ?_, ?_, h.apart, h.inN, h.inS, h.inT, Nat.le_trans h.top T4.size, h.nn, h.ns, marksZ_len _ _⟩, T4.wide hlu4⟩
  · exact h.nd.upto (fun q hq => T4.block q (h.nd.lts.1 q hq).2 (hsep4 q (fun e => own_ne_ownN h.ty h.nd.own (by decide) q e hq))) (fun j hj q hq => T4.block q (h.nd.lts.2.1 j hj q hq).2 (hsep4 q (fun e => own_ne_ownN h.ty (h.nd.names j (by rw [← h.nd.len]; exact hj) hj) (by decide) q e hq))) (fun j hj q hq => T4.block q (h.nd.lts.2.2 j hj q hq).2 (hsep4 q (fun e => h.apart q e j hj hq)))
  · exact owns_blocksN h.st (fun q hq => T4.block q (h.st.lt q hq).2 (hsep4 q (fun e => own_ne_ownN h.st h.ty (by decide) q hq e)))
  · exact own_lowY (xs' := []) OT5 (fun q hq => (h.ty.lt q hq).1)

theorem heldPlaces_own (lo hi n cx m cy p cz : Nat) (x y z : Option Addr) (N : List Nd) (nv kv : List Value) (L : List St) (k : Int) (w : World) (h : OwnTy w lo hi x n cx y m cy z p cz N nv kv L (marksZ k.toNat p)) (hp : p ≤ 65535) (hk : 0 ≤ k) (hkb : k ≤ 8591000000) :
    Calls Tryz.prog 12 #[.slice z p cz, .int .i64 k] w fun e w' => e = .returned (.int .i64 (k + (p : Int))) ∧ Below w.heap.size w w' :=
  heldIntS_any z p cz _ w (ints_of_owns h.ty (marksZ_len _ _) (by omega)) hk (by omega)

end Go.Proofs.YtcehablmloleaaaGreatDoor

namespace Go.Proofs.YtcehablmloleaaaGreatDoor
open Go.RowKit
set_option linter.unusedVariables false

set_option maxHeartbeats 800000 in
theorem eqIntS_same (a a' : Option Addr) (n c c' : Nat) (L : List Int) (w : World) (h : Ints w a n c L) (h' : Ints w a' n c' L) :
    Calls Tryz.prog 7 #[.slice a n c, .slice a' n c'] w fun e w' => e = .returned (.bool true) ∧ Below w.heap.size w w' := by
  have hn := h.small
  have Hl := hide h.len
  go_enter Tryz.func7, Tryz.ntmps7
  go_wp2
  go_loopw [5] (fun i wr => ∃ k : Nat, k ≤ n ∧ i = .int .i64 k ∧ Below w.heap.size w wr) (fun i _ => n - (intOf i).toNat)
  case atStart => exact ⟨0, Nat.zero_le _, rfl, Below.refl _ _⟩
  case round =>
    obtain ⟨k, hk, rfl, hb⟩ := hrel
    by_cases hlt : k < n
    · have hkl : k < L.length := by rw [unhide Hl]; exact hlt
      obtain ⟨b, off, rfl, _, hc⟩ := (h.below hb (Nat.le_refl _)).cells k hkl
      obtain ⟨b', off', rfl, _, hc'⟩ := (h'.below hb (Nat.le_refl _)).cells k hkl
      have i3 : (k : Int) < (n : Int) := by omega
      generalize L[k] = x at hc hc'
      go_wp2
      go_quiet (fail)
      go_wp2
      go_roundw
      case rel => exact ⟨k + 1, by omega, by go_num, hb.trans ((below_drewM wr _).mono hb.size)⟩
      case measure => simp [intOf]; omega
    · go_wp2
      go_ret
      exact ⟨rfl, hb⟩

set_option maxRecDepth 100000 in
set_option maxHeartbeats 1600000 in
theorem eqNode_same (x : Nd) (an an' : Option Addr) (nn cn cn' : Nat) (ak ak' : Option Addr) (nk ck ck' : Nat) (w : World)
    (h1 : Strs w an nn cn x.names) (h1' : Strs w an' nn cn' x.names) (h2 : Ints w ak nk ck x.kids) (h2' : Ints w ak' nk ck' x.kids) :
    Calls Tryz.prog 41 #[.agg #[.int .i64 x.op, .int .i64 x.num, .string x.text, .slice an nn cn, .slice ak nk ck], .agg #[.int .i64 x.op, .int .i64 x.num, .string x.text, .slice an' nn cn', .slice ak' nk ck']] w fun e w' => e = .returned (.bool true) ∧ Below w.heap.size w w' := by
  have B0 := ((Below.refl w.heap.size w).alloc (Nat.le_refl _) (.cells #[.int .i64 x.op, .int .i64 x.num, .string x.text, .slice an nn cn, .slice ak nk ck] 91)).alloc (by simp) (.cells #[.int .i64 x.op, .int .i64 x.num, .string x.text, .slice an' nn cn', .slice ak' nk ck'] 91)
  have R0 := (Row.new w #[.int .i64 x.op, .int .i64 x.num, .string x.text, .slice an nn cn, .slice ak nk ck] 91).alloc (.cells #[.int .i64 x.op, .int .i64 x.num, .string x.text, .slice an' nn cn', .slice ak' nk ck'] 91)
  have R1 := Row.new (w.alloc (.cells #[.int .i64 x.op, .int .i64 x.num, .string x.text, .slice an nn cn, .slice ak nk ck] 91)) #[.int .i64 x.op, .int .i64 x.num, .string x.text, .slice an' nn cn', .slice ak' nk ck'] 91
  simp only [World.size_alloc] at R1
  go_enter Tryz.func41, Tryz.ntmps41
  go_wp2_with fail
  refine (eqStringS_same _ _ _ _ _ _ _ (h1.below B0 (Nat.le_refl _)) (h1'.below B0 (Nat.le_refl _))).mono ?_
  rintro e w1 ⟨rfl, hb1⟩
  have B1 := B0.trans (hb1.mono (by simp; omega))
  have q0 := (R0.after hb1 (Nat.le_refl _)).cell 4
  have q1 := (R1.after hb1 (Nat.le_refl _)).cell 4
  have z1 := hb1.size
  simp at q0 q1 z1
  clear R0 R1 B0 hb1
  go_wp2_with fail
  refine (eqIntS_same _ _ _ _ _ _ _ (h2.below B1 (Nat.le_refl _)) (h2'.below B1 (Nat.le_refl _))).mono ?_
  rintro e w2 ⟨rfl, hb2⟩
  go_wp2_with fail
  go_ret
  exact ⟨rfl, B1.trans (hb2.mono (by omega))⟩

set_option maxRecDepth 100000 in
set_option maxHeartbeats 1600000 in
theorem eqNodeS_same (a a' : Option Addr) (n c c' : Nat) (N : List Nd) (w : World) (h : Nds w a n c N) (h' : Nds w a' n c' N) :
    Calls Tryz.prog 21 #[.slice a n c, .slice a' n c'] w fun e w' => e = .returned (.bool true) ∧ Below w.heap.size w w' := by
  have hn := h.small
  have Hl := hide h.len
  go_enter Tryz.func21, Tryz.ntmps21
  go_wp2_with fail
  go_loopw [5] (fun i wr => ∃ k : Nat, k ≤ n ∧ i = .int .i64 k ∧ Below w.heap.size w wr) (fun i _ => n - (intOf i).toNat)
  case atStart => exact ⟨0, Nat.zero_le _, rfl, Below.refl _ _⟩
  case round =>
    obtain ⟨k, hk, rfl, hb⟩ := hrel
    by_cases hlt : k < n
    · have hkl : k < N.length := by rw [unhide Hl]; exact hlt
      obtain ⟨b, off, rfl, hbl, an, nn, cn, ak, nk, ck, c0, c1, c2, c3, c4, hN, hK⟩ := (h.below hb (Nat.le_refl _)).cells k hkl
      obtain ⟨b', off', rfl, hbl', an', nn', cn', ak', nk', ck', d0, d1, d2, d3, d4, hN', hK'⟩ := (h'.below hb (Nat.le_refl _)).cells k hkl
      have i3 : (k : Int) < (n : Int) := by omega
      generalize N[k] = x at c0 c1 c2 c3 c4 hN hK d0 d1 d2 d3 d4 hN' hK'
      obtain rfl : nn = nn' := by rw [hN.len, hN'.len]
      obtain rfl : nk = nk' := by rw [← hK.len, ← hK'.len]
      have Hlt := hide hlt
      clear hlt h h'
      go_wp2_with fail
      have D1 : Below wr.heap.size wr wr.drew := (Below.refl _ _).drew
      have q1 : wr.drew.cell? ⟨b, off + k * 5, none⟩ = some (.int .i64 x.op) ∧ wr.drew.cell? ⟨b, off + k * 5 + 1, none⟩ = some (.int .i64 x.num) ∧ wr.drew.cell? ⟨b, off + k * 5 + 2, none⟩ = some (.string x.text) ∧ wr.drew.cell? ⟨b, off + k * 5 + 3, none⟩ = some (.slice an nn cn) ∧ wr.drew.cell? ⟨b, off + k * 5 + 4, none⟩ = some (.slice ak nk ck) ∧ wr.drew.cell? ⟨b', off' + k * 5, none⟩ = some (.int .i64 x.op) ∧ wr.drew.cell? ⟨b', off' + k * 5 + 1, none⟩ = some (.int .i64 x.num) ∧ wr.drew.cell? ⟨b', off' + k * 5 + 2, none⟩ = some (.string x.text) ∧ wr.drew.cell? ⟨b', off' + k * 5 + 3, none⟩ = some (.slice an' nn cn') ∧ wr.drew.cell? ⟨b', off' + k * 5 + 4, none⟩ = some (.slice ak' nk ck') := ⟨c0, c1, c2, c3, c4, d0, d1, d2, d3, d4⟩
      go_region_held3 (fun w' => w'.cell? ⟨b, off + k * 5, none⟩ = some (.int .i64 x.op) ∧ w'.cell? ⟨b, off + k * 5 + 1, none⟩ = some (.int .i64 x.num) ∧ w'.cell? ⟨b, off + k * 5 + 2, none⟩ = some (.string x.text) ∧ w'.cell? ⟨b, off + k * 5 + 3, none⟩ = some (.slice an nn cn) ∧ w'.cell? ⟨b, off + k * 5 + 4, none⟩ = some (.slice ak nk ck) ∧ w'.cell? ⟨b', off' + k * 5, none⟩ = some (.int .i64 x.op) ∧ w'.cell? ⟨b', off' + k * 5 + 1, none⟩ = some (.int .i64 x.num) ∧ w'.cell? ⟨b', off' + k * 5 + 2, none⟩ = some (.string x.text) ∧ w'.cell? ⟨b', off' + k * 5 + 3, none⟩ = some (.slice an' nn cn') ∧ w'.cell? ⟨b', off' + k * 5 + 4, none⟩ = some (.slice ak' nk ck')) (first | assumption | go_keep)
        (first
          | (go_at_call 41; refine (eqNode_same x _ _ _ _ _ _ _ _ _ _ _ (hN.below D1 (Nat.le_refl _)) (hN'.below D1 (Nat.le_refl _)) (hK.below D1 (Nat.le_refl _)) (hK'.below D1 (Nat.le_refl _))).mono ?_; rintro e w2 ⟨rfl, hb2⟩; have E2 := D1.trans (hb2.mono D1.size); obtain ⟨ec, _⟩ := bcell E2; have q2 : w2.cell? ⟨b, off + k * 5, none⟩ = some (.int .i64 x.op) ∧ w2.cell? ⟨b, off + k * 5 + 1, none⟩ = some (.int .i64 x.num) ∧ w2.cell? ⟨b, off + k * 5 + 2, none⟩ = some (.string x.text) ∧ w2.cell? ⟨b, off + k * 5 + 3, none⟩ = some (.slice an nn cn) ∧ w2.cell? ⟨b, off + k * 5 + 4, none⟩ = some (.slice ak nk ck) ∧ w2.cell? ⟨b', off' + k * 5, none⟩ = some (.int .i64 x.op) ∧ w2.cell? ⟨b', off' + k * 5 + 1, none⟩ = some (.int .i64 x.num) ∧ w2.cell? ⟨b', off' + k * 5 + 2, none⟩ = some (.string x.text) ∧ w2.cell? ⟨b', off' + k * 5 + 3, none⟩ = some (.slice an' nn cn') ∧ w2.cell? ⟨b', off' + k * 5 + 4, none⟩ = some (.slice ak' nk ck') := ⟨(ec _ _ hbl).trans c0, (ec _ _ hbl).trans c1, (ec _ _ hbl).trans c2, (ec _ _ hbl).trans c3, (ec _ _ hbl).trans c4, (ec _ _ hbl').trans d0, (ec _ _ hbl').trans d1, (ec _ _ hbl').trans d2, (ec _ _ hbl').trans d3, (ec _ _ hbl').trans d4⟩))
      go_wp2_with fail
      go_roundw
      case rel => exact ⟨k + 1, unhide Hlt, by go_num, hb.trans (E2.mono hb.size)⟩
      case measure => have := unhide Hlt; simp [intOf]; omega
    · have i3 : ¬ ((k : Int) < (n : Int)) := by omega
      go_wp2_with fail
      go_ret
      exact ⟨rfl, hb⟩

set_option maxHeartbeats 800000 in
theorem eqStmt_same (s : St) (w : World) :
    Calls Tryz.prog 42 #[.agg #[.int .i64 s.kind, .string s.name, .int .i64 s.cond, .int .i64 s.grant], .agg #[.int .i64 s.kind, .string s.name, .int .i64 s.cond, .int .i64 s.grant]] w fun e w' => e = .returned (.bool true) ∧ Below w.heap.size w w' := by
  go_enter Tryz.func42, Tryz.ntmps42
  go_wp2
  go_ret
  exact ⟨rfl, ((Below.refl w.heap.size w).alloc (Nat.le_refl _) _).alloc (by simp) _⟩

set_option maxRecDepth 100000 in
set_option maxHeartbeats 1600000 in
theorem eqStmtS_same (a a' : Option Addr) (n c c' : Nat) (N : List St) (w : World) (h : Sts w a n c N) (h' : Sts w a' n c' N) :
    Calls Tryz.prog 22 #[.slice a n c, .slice a' n c'] w fun e w' => e = .returned (.bool true) ∧ Below w.heap.size w w' := by
  have hn := h.small
  have Hl := hide h.len
  go_enter Tryz.func22, Tryz.ntmps22
  go_wp2_with fail
  go_loopw [5] (fun i wr => ∃ k : Nat, k ≤ n ∧ i = .int .i64 k ∧ Below w.heap.size w wr) (fun i _ => n - (intOf i).toNat)
  case atStart => exact ⟨0, Nat.zero_le _, rfl, Below.refl _ _⟩
  case round =>
    obtain ⟨k, hk, rfl, hb⟩ := hrel
    by_cases hlt : k < n
    · have hkl : k < N.length := by rw [unhide Hl]; exact hlt
      obtain ⟨b, off, rfl, hbl, c0, c1, c2, c3⟩ := (h.below hb (Nat.le_refl _)).cells k hkl
      obtain ⟨b', off', rfl, hbl', d0, d1, d2, d3⟩ := (h'.below hb (Nat.le_refl _)).cells k hkl
      have i3 : (k : Int) < (n : Int) := by omega
      generalize N[k] = x at c0 c1 c2 c3 d0 d1 d2 d3
      have Hlt := hide hlt
      clear hlt h h'
      go_wp2_with fail
      have D1 : Below wr.heap.size wr wr.drew := (Below.refl _ _).drew
      have q1 : wr.drew.cell? ⟨b, off + k * 4, none⟩ = some (.int .i64 x.kind) ∧ wr.drew.cell? ⟨b, off + k * 4 + 1, none⟩ = some (.string x.name) ∧ wr.drew.cell? ⟨b, off + k * 4 + 2, none⟩ = some (.int .i64 x.cond) ∧ wr.drew.cell? ⟨b, off + k * 4 + 3, none⟩ = some (.int .i64 x.grant) ∧ wr.drew.cell? ⟨b', off' + k * 4, none⟩ = some (.int .i64 x.kind) ∧ wr.drew.cell? ⟨b', off' + k * 4 + 1, none⟩ = some (.string x.name) ∧ wr.drew.cell? ⟨b', off' + k * 4 + 2, none⟩ = some (.int .i64 x.cond) ∧ wr.drew.cell? ⟨b', off' + k * 4 + 3, none⟩ = some (.int .i64 x.grant) := ⟨c0, c1, c2, c3, d0, d1, d2, d3⟩
      go_region_held3 (fun w' => w'.cell? ⟨b, off + k * 4, none⟩ = some (.int .i64 x.kind) ∧ w'.cell? ⟨b, off + k * 4 + 1, none⟩ = some (.string x.name) ∧ w'.cell? ⟨b, off + k * 4 + 2, none⟩ = some (.int .i64 x.cond) ∧ w'.cell? ⟨b, off + k * 4 + 3, none⟩ = some (.int .i64 x.grant) ∧ w'.cell? ⟨b', off' + k * 4, none⟩ = some (.int .i64 x.kind) ∧ w'.cell? ⟨b', off' + k * 4 + 1, none⟩ = some (.string x.name) ∧ w'.cell? ⟨b', off' + k * 4 + 2, none⟩ = some (.int .i64 x.cond) ∧ w'.cell? ⟨b', off' + k * 4 + 3, none⟩ = some (.int .i64 x.grant)) (first | assumption | go_keep)
        (first
          | (go_at_call 42; refine (eqStmt_same x _).mono ?_; rintro e w2 ⟨rfl, hb2⟩; have E2 := D1.trans (hb2.mono D1.size); obtain ⟨ec, _⟩ := bcell E2; have q2 : w2.cell? ⟨b, off + k * 4, none⟩ = some (.int .i64 x.kind) ∧ w2.cell? ⟨b, off + k * 4 + 1, none⟩ = some (.string x.name) ∧ w2.cell? ⟨b, off + k * 4 + 2, none⟩ = some (.int .i64 x.cond) ∧ w2.cell? ⟨b, off + k * 4 + 3, none⟩ = some (.int .i64 x.grant) ∧ w2.cell? ⟨b', off' + k * 4, none⟩ = some (.int .i64 x.kind) ∧ w2.cell? ⟨b', off' + k * 4 + 1, none⟩ = some (.string x.name) ∧ w2.cell? ⟨b', off' + k * 4 + 2, none⟩ = some (.int .i64 x.cond) ∧ w2.cell? ⟨b', off' + k * 4 + 3, none⟩ = some (.int .i64 x.grant) := ⟨(ec _ _ hbl).trans c0, (ec _ _ hbl).trans c1, (ec _ _ hbl).trans c2, (ec _ _ hbl).trans c3, (ec _ _ hbl').trans d0, (ec _ _ hbl').trans d1, (ec _ _ hbl').trans d2, (ec _ _ hbl').trans d3⟩))
      go_wp2_with fail
      go_roundw
      case rel => exact ⟨k + 1, unhide Hlt, by go_num, hb.trans (E2.mono hb.size)⟩
      case measure => have := unhide Hlt; simp [intOf]; omega
    · have i3 : ¬ ((k : Int) < (n : Int)) := by omega
      go_wp2_with fail
      go_ret
      exact ⟨rfl, hb⟩

set_option maxHeartbeats 1600000 in
theorem eqPolicy_same (a a' b b' : Option Addr) (n c c' m d d' : Nat) (N : List Nd) (L : List St) (w : World) (h1 : Nds w a n c N) (h1' : Nds w a' n c' N) (h2 : Sts w b m d L) (h2' : Sts w b' m d' L) :
    Calls Tryz.prog 6 #[.agg #[.slice a n c, .slice b m d], .agg #[.slice a' n c', .slice b' m d']] w fun e w' => e = .returned (.bool true) ∧ Below w.heap.size w w' := by
  have B0 := ((Below.refl w.heap.size w).alloc (Nat.le_refl _) (.cells #[.slice a n c, .slice b m d] 25)).alloc (by simp) (.cells #[.slice a' n c', .slice b' m d'] 25)
  have R0 := (Row.new w #[.slice a n c, .slice b m d] 25).alloc (.cells #[.slice a' n c', .slice b' m d'] 25)
  have R1 := Row.new (w.alloc (.cells #[.slice a n c, .slice b m d] 25)) #[.slice a' n c', .slice b' m d'] 25
  simp only [World.size_alloc] at R1
  go_enter Tryz.func6, Tryz.ntmps6
  go_wp2_with fail
  refine (eqNodeS_same _ _ _ _ _ _ _ (h1.below B0 (Nat.le_refl _)) (h1'.below B0 (Nat.le_refl _))).mono ?_
  rintro e w1 ⟨rfl, hb1⟩
  have B1 := B0.trans (hb1.mono (by simp; omega))
  have q0 := (R0.after hb1 (Nat.le_refl _)).cell 1
  have q1 := (R1.after hb1 (Nat.le_refl _)).cell 1
  have z1 := hb1.size
  simp at q0 q1 z1
  clear R0 R1 B0 hb1
  go_wp2_with fail
  refine (eqStmtS_same _ _ _ _ _ _ _ (h2.below B1 (Nat.le_refl _)) (h2'.below B1 (Nat.le_refl _))).mono ?_
  rintro e w2 ⟨rfl, hb2⟩
  go_wp2_with fail
  go_ret
  exact ⟨rfl, B1.trans (hb2.mono (by omega))⟩

end Go.Proofs.YtcehablmloleaaaGreatDoor

namespace Go.Proofs.YtcehablmloleaaaGreatDoor
open Go.RowKit
set_option linter.unusedVariables false
variable {aS aB aT : Addr}

/-- what a reader answers -/
def rdV (aS aB aT : Addr) : One → Value
  | .bad c => .tuple #[.agg #[.int .i64 0, .int .i64 0, .string ⟨#[]⟩, .int .i64 0], .int .i64 0, causeV aS aB aT c]
  | .tok k m s w => .tuple #[.agg #[.int .i64 k, .int .i64 m, .string (ofL s), .int .i64 0], .int .i64 (w : Int), .nilIface]

/-- the four cells behind a drawn order -/
theorem put4_drew {W : World} {b : Nat} {u0 u1 u2 u3 : Value} {t : TypeId} (h : Row W b #[u0, u1, u2, u3] t) (v0 v1 v2 v3 : Value) :
    ((((W.setCell ⟨b, 0, none⟩ v0).setCell ⟨b, 1, none⟩ v1).setCell ⟨b, 2, none⟩ v2).setCell ⟨b, 3, none⟩ v3).drew.cell? ⟨b, 0, none⟩ = some v0 ∧ ((((W.setCell ⟨b, 0, none⟩ v0).setCell ⟨b, 1, none⟩ v1).setCell ⟨b, 2, none⟩ v2).setCell ⟨b, 3, none⟩ v3).drew.cell? ⟨b, 1, none⟩ = some v1 ∧
    ((((W.setCell ⟨b, 0, none⟩ v0).setCell ⟨b, 1, none⟩ v1).setCell ⟨b, 2, none⟩ v2).setCell ⟨b, 3, none⟩ v3).drew.cell? ⟨b, 2, none⟩ = some v2 ∧ ((((W.setCell ⟨b, 0, none⟩ v0).setCell ⟨b, 1, none⟩ v1).setCell ⟨b, 2, none⟩ v2).setCell ⟨b, 3, none⟩ v3).drew.cell? ⟨b, 3, none⟩ = some v3 := by
  have R : Row ((((W.setCell ⟨b, 0, none⟩ v0).setCell ⟨b, 1, none⟩ v1).setCell ⟨b, 2, none⟩ v2).setCell ⟨b, 3, none⟩ v3).drew b #[v0, v1, v2, v3] t := ⟨(put4_row h v0 v1 v2 v3).out⟩
  obtain ⟨g0, g1, g2, g3, _⟩ := row4 R
  exact ⟨g0, g1, g2, g3⟩

/-- nothing, at a bad token -/
theorem rd_bad3 (aS aB aT : Addr) : rdV aS aB aT (.bad 3) = .tuple #[.agg #[.int .i64 0, .int .i64 0, .string ⟨#[]⟩, .int .i64 0], .int .i64 0, .iface 207 (.pointer (some aT))] := rfl

theorem rd_bad2 (aS aB aT : Addr) : rdV aS aB aT (.bad 2) = .tuple #[.agg #[.int .i64 0, .int .i64 0, .string ⟨#[]⟩, .int .i64 0], .int .i64 0, .iface 207 (.pointer (some aB))] := rfl

set_option maxHeartbeats 1600000 in
theorem readWord_any (r : ByteArray) (w : World) (hs : r.size ≤ 1048576) (S : Snt w aS aB aT) :
    Calls Tryz.prog 76 #[.string r] w fun e w' => e = .returned (rdV aS aB aT (oneWord (toL r))) ∧ Below w.heap.size w w' := by
  have hrl := runL_le wdB (toL r)
  rw [toL_size] at hrl
  have R0 := Row.new w #[.int .i64 0, .int .i64 0, .string ⟨#[]⟩, .int .i64 0] 42
  have B0 := (Below.refl w.heap.size w).alloc (Nat.le_refl _) (.cells #[.int .i64 0, .int .i64 0, .string ⟨#[]⟩, .int .i64 0] 42)
  have hg := (S.below B0 (Nat.le_refl _)).gT
  have hbig := S.big
  have n1 : w.heap.size ≠ 5 := by omega
  have n2 : 5 ≠ w.heap.size := by omega
  go_enter Tryz.func76, Tryz.ntmps76
  go_wp2_with fail
  generalize w.alloc (.cells #[.int .i64 0, .int .i64 0, .string ⟨#[]⟩, .int .i64 0] 42) = W at R0 B0 hg ⊢
  refine (runOf_wd r _ (by unfold maxLen; omega)).mono ?_
  rintro e w1 ⟨rfl, hw⟩
  rw [hw]
  clear hw
  obtain ⟨d0, d1, d2, d3, df⟩ := row4 R0
  by_cases h32 : 32 < runL wdB (toL r)
  · have i32 : (32 : Int) < (runL wdB (toL r) : Int) := by omega
    go_wp2_with fail
    go_region
    go_wp2_with fail
    have BF := put4_below (b := w.heap.size) B0 (Nat.le_refl _) (.int .i64 0) (.int .i64 0) (.string ⟨#[]⟩) (.int .i64 0)
    obtain ⟨g0, g1, g2, g3⟩ := put4_drew R0 (.int .i64 0) (.int .i64 0) (.string ⟨#[]⟩) (.int .i64 0)
    refine bodyPost_ret (res_tok3 Tryz.results76 rfl g0 g1 g2 g3) rfl ⟨?_, BF.drew⟩
    rw [oneWord, if_pos h32, rd_bad3]
    rfl
  · have i32 : ¬ ((32 : Int) < (runL wdB (toL r) : Int)) := by omega
    have irl : (runL wdB (toL r) : Int) ≤ (r.size : Int) := by omega
    have Ho := hide (show oneWord (toL r) = .tok (if isWd ((toL r).take (runL wdB (toL r))) then 4 else 3) 0 ((toL r).take (runL wdB (toL r))) (runL wdB (toL r)) by rw [oneWord, if_neg h32])
    have Hx := hide (show toL (r.extract 0 (runL wdB (toL r))) = (toL r).take (runL wdB (toL r)) by rw [toL_extract, List.drop_zero, Nat.sub_zero])
    go_wp2_with fail
    generalize r.extract 0 (runL wdB (toL r)) = x at Hx ⊢
    refine (isWord_any x _).mono ?_
    rintro e w1 ⟨rfl, hw⟩
    rw [hw]
    clear hw
    cases hw : isWd (toL x)
    · have Hw := hide hw
      clear hw
      go_wp2_with fail
      have BF := put4_below (b := w.heap.size) B0 (Nat.le_refl _) (.int .i64 3) (.int .i64 0) (.string x) (.int .i64 0)
      obtain ⟨g0, g1, g2, g3, _⟩ := row4 (put4_row R0 (.int .i64 3) (.int .i64 0) (.string x) (.int .i64 0))
      simp only [put4] at g0 g1 g2 g3
      refine bodyPost_ret (res_tok3 Tryz.results76 rfl g0 g1 g2 g3) rfl ⟨?_, BF⟩
      rw [unhide Ho, ← unhide Hx, unhide Hw]
      simp only [rdV, ofL_toL]
      rfl
    · have Hw := hide hw
      clear hw
      go_wp2_with fail
      have BF := put4_below (b := w.heap.size) B0 (Nat.le_refl _) (.int .i64 4) (.int .i64 0) (.string x) (.int .i64 0)
      obtain ⟨g0, g1, g2, g3, _⟩ := row4 (put4_row R0 (.int .i64 4) (.int .i64 0) (.string x) (.int .i64 0))
      simp only [put4] at g0 g1 g2 g3
      refine bodyPost_ret (res_tok3 Tryz.results76 rfl g0 g1 g2 g3) rfl ⟨?_, BF⟩
      rw [unhide Ho, ← unhide Hx, unhide Hw]
      simp only [rdV, ofL_toL]
      rfl

end Go.Proofs.YtcehablmloleaaaGreatDoor

namespace Go.Proofs.YtcehablmloleaaaGreatDoor
open Go.RowKit
set_option linter.unusedVariables false
variable {aS aB aT : Addr}

theorem at_toL {y : ByteArray} {n : Nat} (h : n < y.size) : (toL y)[n]? = some y[n] := by
  have h' : n < (toL y).length := by rw [toL_size]; exact h
  rw [List.getElem?_eq_getElem h']; rfl

set_option maxHeartbeats 1600000 in
theorem readQuoted_any (r : ByteArray) (w : World) (hs : r.size ≤ 1048576) (h0 : 0 < r.size) (S : Snt w aS aB aT) :
    Calls Tryz.prog 77 #[.string r] w fun e w' => e = .returned (rdV aS aB aT (oneText ((toL r).drop 1))) ∧ Below w.heap.size w w' := by
  have R0 := Row.new w #[.int .i64 0, .int .i64 0, .string ⟨#[]⟩, .int .i64 0] 42
  have B0 := (Below.refl w.heap.size w).alloc (Nat.le_refl _) (.cells #[.int .i64 0, .int .i64 0, .string ⟨#[]⟩, .int .i64 0] 42)
  have hg := (S.below B0 (Nat.le_refl _)).gT
  have hbig := S.big
  have n1 : w.heap.size ≠ 5 := by omega
  have n2 : 5 ≠ w.heap.size := by omega
  have i0 : (1 : Int) ≤ (r.size : Int) := by omega
  have Hy := hide (toL_rest r 1)
  have hys : (r.extract 1 r.size).size = r.size - 1 := by rw [ByteArray.size_extract]; omega
  go_enter Tryz.func77, Tryz.ntmps77
  go_wp2_with fail
  generalize w.alloc (.cells #[.int .i64 0, .int .i64 0, .string ⟨#[]⟩, .int .i64 0] 42) = W at R0 B0 hg ⊢
  generalize r.extract 1 r.size = y at Hy hys ⊢
  have hrl := runL_le nmB (toL y)
  rw [toL_size] at hrl
  refine (runOf_nm y _ (by unfold maxLen; omega)).mono ?_
  rintro e w1 ⟨rfl, hw⟩
  rw [hw]
  clear hw
  obtain ⟨d0, d1, d2, d3, df⟩ := row4 R0
  have HO := hide (show oneText ((toL r).drop 1) = if 32 < runL nmB (toL y) ∨ (toL y)[runL nmB (toL y)]? ≠ some 34 then .bad 3 else .tok 2 0 ((toL y).take (runL nmB (toL y))) (runL nmB (toL y) + 2) by rw [← unhide Hy]; rfl)
  have Hx := hide (show toL (y.extract 0 (runL nmB (toL y))) = (toL y).take (runL nmB (toL y)) by rw [toL_extract, List.drop_zero, Nat.sub_zero])
  generalize runL nmB (toL y) = n at hrl HO Hx ⊢
  by_cases h32 : 32 < n
  · have i32 : (32 : Int) < (n : Int) := by omega
    have HO := hide ((unhide HO).trans (if_pos (.inl h32)))
    go_wp2_with fail
    go_region
    go_wp2_with fail
    have BF := put4_below (b := w.heap.size) B0 (Nat.le_refl _) (.int .i64 0) (.int .i64 0) (.string ⟨#[]⟩) (.int .i64 0)
    obtain ⟨g0, g1, g2, g3⟩ := put4_drew R0 (.int .i64 0) (.int .i64 0) (.string ⟨#[]⟩) (.int .i64 0)
    exact bodyPost_ret (res_tok3 Tryz.results77 rfl g0 g1 g2 g3) rfl ⟨by rw [unhide HO, rd_bad3]; rfl, BF.drew⟩
  have i32 : ¬ ((32 : Int) < (n : Int)) := by omega
  by_cases hn : n = y.size
  · have e : (toL y)[n]? ≠ some 34 := by rw [List.getElem?_eq_none (by rw [toL_size]; omega)]; simp
    have HO := hide ((unhide HO).trans (if_pos (.inr e)))
    clear e
    have eb : ((n : Int) == ((r.size - 1 : Nat) : Int)) = true := beq_iff_eq.2 (by omega)
    have eb2 : ((n : Int) == (y.size : Int)) = true := beq_iff_eq.2 (by omega)
    go_wp2_with fail
    go_region
    go_wp2_with fail
    have BF := put4_below (b := w.heap.size) B0 (Nat.le_refl _) (.int .i64 0) (.int .i64 0) (.string ⟨#[]⟩) (.int .i64 0)
    obtain ⟨g0, g1, g2, g3⟩ := put4_drew R0 (.int .i64 0) (.int .i64 0) (.string ⟨#[]⟩) (.int .i64 0)
    exact bodyPost_ret (res_tok3 Tryz.results77 rfl g0 g1 g2 g3) rfl ⟨by rw [unhide HO, rd_bad3]; rfl, BF.drew⟩
  have hlt : n < y.size := by omega
  have ilt : (n : Int) < (y.size : Int) := by omega
  have ilt2 : (n : Int) < ((r.size - 1 : Nat) : Int) := by omega
  have eb : ((n : Int) == ((r.size - 1 : Nat) : Int)) = false := beq_eq_false_iff_ne.2 (by omega)
  have eb2 : ((n : Int) == (y.size : Int)) = false := beq_eq_false_iff_ne.2 (by omega)
  have ea := at_toL hlt
  by_cases h34 : (y[n].toNat : Int) = 34
  · have HB : y[n] = 34 := UInt8.toNat_inj.1 (by have : (34 : UInt8).toNat = 34 := rfl; omega)
    have e : ¬ (32 < n ∨ (toL y)[n]? ≠ some 34) := by rw [ea, HB]; simp; omega
    have HO := hide ((unhide HO).trans (if_neg e))
    clear e
    clear ea HB
    have e34 : ((y[n].toNat : Int) == 34) = true := beq_iff_eq.2 h34
    go_wp2_with fail
    generalize y.extract 0 n = x at Hx ⊢
    have BF := put4_below (b := w.heap.size) B0 (Nat.le_refl _) (.int .i64 2) (.int .i64 0) (.string x) (.int .i64 0)
    obtain ⟨g0, g1, g2, g3, _⟩ := row4 (put4_row R0 (.int .i64 2) (.int .i64 0) (.string x) (.int .i64 0))
    simp only [put4] at g0 g1 g2 g3
    refine bodyPost_ret (res_tok3 Tryz.results77 rfl g0 g1 g2 g3) rfl ⟨?_, BF⟩
    rw [unhide HO, ← unhide Hx]
    simp only [rdV, ofL_toL]
    rw [Int.natCast_add]
    rfl
  · have e : (toL y)[n]? ≠ some 34 := by rw [ea]; intro k; exact h34 (by rw [Option.some.inj k]; rfl)
    have HO := hide ((unhide HO).trans (if_pos (.inr e)))
    clear ea e
    have e34 := beq_eq_false_iff_ne.2 h34
    have e34b : ((y[n].toNat : Int) != 34) = true := bne_iff_ne.2 h34
    go_wp2_with fail
    go_region
    go_wp2_with fail
    have BF := put4_below (b := w.heap.size) B0 (Nat.le_refl _) (.int .i64 0) (.int .i64 0) (.string ⟨#[]⟩) (.int .i64 0)
    obtain ⟨g0, g1, g2, g3⟩ := put4_drew R0 (.int .i64 0) (.int .i64 0) (.string ⟨#[]⟩) (.int .i64 0)
    exact bodyPost_ret (res_tok3 Tryz.results77 rfl g0 g1 g2 g3) rfl ⟨by rw [unhide HO, rd_bad3]; rfl, BF.drew⟩

theorem ix_none {l : List UInt8} {c : UInt8} (h : Lib.indexByte l c < 0) : l.contains c = false := by
  have h1 : Lib.indexByte l c = -1 := by have := Lib.indexByte_ge l c; omega
  rw [← Bool.not_eq_true, List.contains_iff_mem]
  intro hm
  obtain ⟨i, hi, e⟩ := List.getElem_of_mem hm
  exact Lib.indexByte_none h1 i (by rw [List.getElem?_eq_getElem hi, e])

theorem ix_some {l : List UInt8} {c : UInt8} (h : ¬ Lib.indexByte l c < 0) : l.contains c = true := by
  obtain ⟨o, ho⟩ := Int.eq_ofNat_of_zero_le (a := Lib.indexByte l c) (by omega)
  have := (Lib.indexByte_some ho).1
  rw [List.contains_iff_mem]
  exact List.mem_of_getElem? this

theorem toU8 (c : UInt8) : (c.toNat : Int).toNat.toUInt8 = c := by simp

/-- the world in which a reader works -/
theorem rd_start (w : World) (S : Snt w aS aB aT) : ∃ W, w.alloc (.cells #[.int .i64 0, .int .i64 0, .string ⟨#[]⟩, .int .i64 0] 42) = W ∧ Row W w.heap.size #[.int .i64 0, .int .i64 0, .string ⟨#[]⟩, .int .i64 0] 42 ∧ Below w.heap.size w W ∧ Snt W aS aB aT := by
  have B0 := (Below.refl w.heap.size w).alloc (Nat.le_refl _) (.cells #[.int .i64 0, .int .i64 0, .string ⟨#[]⟩, .int .i64 0] 42)
  exact ⟨_, rfl, Row.new w _ _, B0, S.below B0 (Nat.le_refl _)⟩

theorem sg_hit {x : ByteArray} {l y : List UInt8} (hx : toL x = l.take 2) (h : (x.toList == y) = true) (hy : y ∈ signs2) : signs2.contains (l.take 2) = true ∧ 2 ≤ l.length := by
  rw [beq_iff_eq, ByteArray.toList_eq] at h
  have e : l.take 2 = y := hx.symm.trans h
  rw [e, List.contains_iff_mem]
  refine ⟨hy, ?_⟩
  have h2 : ∀ z ∈ signs2, z.length = 2 := by decide
  have := h2 _ hy
  rw [← e, List.length_take] at this
  omega

theorem sg_miss {x : ByteArray} {l : List UInt8} (hx : toL x = l.take 2) (h : ∀ y ∈ signs2, (x.toList == y) = false) : signs2.contains (l.take 2) = false := by
  rw [← Bool.not_eq_true, List.contains_iff_mem]
  intro hm
  have := h _ hm
  rw [beq_eq_false_iff_ne, ByteArray.toList_eq] at this
  exact this hx

set_option maxHeartbeats 3200000 in
theorem readSign_any (r : ByteArray) (w : World) (hs : r.size ≤ 1048576) (h0 : 0 < r.size) (S : Snt w aS aB aT) :
    Calls Tryz.prog 78 #[.string r] w fun e w' => e = .returned (rdV aS aB aT (oneSign r[0] (toL r))) ∧ Below w.heap.size w w' := by
  obtain ⟨W, hW, R0, B0, SW⟩ := rd_start w S
  have hg := SW.gB
  have hbig := S.big
  have n1 : w.heap.size ≠ 4 := by omega
  have n2 : 4 ≠ w.heap.size := by omega
  have i0 : (1 : Int) ≤ (r.size : Int) := by omega
  have im1 : 0 ≤ min (2 : Int) (r.size : Int) := by omega
  have im2 : min (2 : Int) (r.size : Int) ≤ (r.size : Int) := by omega
  have Hx := hide (show toL (r.extract 0 (min 2 (r.size : Int)).toNat) = (toL r).take 2 by
    rw [toL_extract, List.drop_zero, Nat.sub_zero]
    rcases Nat.lt_or_ge r.size 2 with h | h
    · rw [show (min (2 : Int) (r.size : Int)).toNat = r.size by omega, List.take_of_length_le (by rw [toL_size]; exact Nat.le_refl _), List.take_of_length_le (by rw [toL_size]; omega)]
    · rw [show (min (2 : Int) (r.size : Int)).toNat = 2 by omega])
  have H2 := hide (show toL (r.extract 0 2) = (toL r).take 2 by rw [toL_extract, List.drop_zero])
  have H1 := hide (show toL (r.extract 0 1) = [r[0]] by
    have h := drop_cons r 0 h0
    rw [List.drop_zero] at h
    rw [toL_extract, List.drop_zero, h]; rfl)
  obtain ⟨d0, d1, d2, d3, df⟩ := row4 R0
  rcases Bool.eq_false_or_eq_true ((r.extract 0 (min 2 (r.size : Int)).toNat).toList == [61, 62]) with h0 | h0
  · have Hh := hide (sg_hit (unhide Hx) h0 (by decide))
    have i2 : (2 : Int) ≤ (r.size : Int) := by have := (unhide Hh).2; rw [toL_size] at this; omega
    go_enter Tryz.func78, Tryz.ntmps78
    go_wp2_with fail
    generalize r.extract 0 2 = x2 at H2 ⊢
    have BF := put4_below (b := w.heap.size) B0 (Nat.le_refl _) (.int .i64 5) (.int .i64 0) (.string x2) (.int .i64 0)
    obtain ⟨g0, g1, g2, g3, _⟩ := row4 (put4_row R0 (.int .i64 5) (.int .i64 0) (.string x2) (.int .i64 0))
    simp only [put4] at g0 g1 g2 g3
    refine bodyPost_ret (res_tok3 Tryz.results78 rfl g0 g1 g2 g3) rfl ⟨?_, BF⟩
    rw [oneSign, if_pos (unhide Hh).1, ← unhide H2]
    simp only [rdV, ofL_toL]
    rfl
  rcases Bool.eq_false_or_eq_true ((r.extract 0 (min 2 (r.size : Int)).toNat).toList == [61, 61]) with h1 | h1
  · have Hh := hide (sg_hit (unhide Hx) h1 (by decide))
    have i2 : (2 : Int) ≤ (r.size : Int) := by have := (unhide Hh).2; rw [toL_size] at this; omega
    go_enter Tryz.func78, Tryz.ntmps78
    go_wp2_with fail
    generalize r.extract 0 2 = x2 at H2 ⊢
    have BF := put4_below (b := w.heap.size) B0 (Nat.le_refl _) (.int .i64 5) (.int .i64 0) (.string x2) (.int .i64 0)
    obtain ⟨g0, g1, g2, g3, _⟩ := row4 (put4_row R0 (.int .i64 5) (.int .i64 0) (.string x2) (.int .i64 0))
    simp only [put4] at g0 g1 g2 g3
    refine bodyPost_ret (res_tok3 Tryz.results78 rfl g0 g1 g2 g3) rfl ⟨?_, BF⟩
    rw [oneSign, if_pos (unhide Hh).1, ← unhide H2]
    simp only [rdV, ofL_toL]
    rfl
  rcases Bool.eq_false_or_eq_true ((r.extract 0 (min 2 (r.size : Int)).toNat).toList == [33, 61]) with h2 | h2
  · have Hh := hide (sg_hit (unhide Hx) h2 (by decide))
    have i2 : (2 : Int) ≤ (r.size : Int) := by have := (unhide Hh).2; rw [toL_size] at this; omega
    go_enter Tryz.func78, Tryz.ntmps78
    go_wp2_with fail
    generalize r.extract 0 2 = x2 at H2 ⊢
    have BF := put4_below (b := w.heap.size) B0 (Nat.le_refl _) (.int .i64 5) (.int .i64 0) (.string x2) (.int .i64 0)
    obtain ⟨g0, g1, g2, g3, _⟩ := row4 (put4_row R0 (.int .i64 5) (.int .i64 0) (.string x2) (.int .i64 0))
    simp only [put4] at g0 g1 g2 g3
    refine bodyPost_ret (res_tok3 Tryz.results78 rfl g0 g1 g2 g3) rfl ⟨?_, BF⟩
    rw [oneSign, if_pos (unhide Hh).1, ← unhide H2]
    simp only [rdV, ofL_toL]
    rfl
  rcases Bool.eq_false_or_eq_true ((r.extract 0 (min 2 (r.size : Int)).toNat).toList == [60, 61]) with h3 | h3
  · have Hh := hide (sg_hit (unhide Hx) h3 (by decide))
    have i2 : (2 : Int) ≤ (r.size : Int) := by have := (unhide Hh).2; rw [toL_size] at this; omega
    go_enter Tryz.func78, Tryz.ntmps78
    go_wp2_with fail
    generalize r.extract 0 2 = x2 at H2 ⊢
    have BF := put4_below (b := w.heap.size) B0 (Nat.le_refl _) (.int .i64 5) (.int .i64 0) (.string x2) (.int .i64 0)
    obtain ⟨g0, g1, g2, g3, _⟩ := row4 (put4_row R0 (.int .i64 5) (.int .i64 0) (.string x2) (.int .i64 0))
    simp only [put4] at g0 g1 g2 g3
    refine bodyPost_ret (res_tok3 Tryz.results78 rfl g0 g1 g2 g3) rfl ⟨?_, BF⟩
    rw [oneSign, if_pos (unhide Hh).1, ← unhide H2]
    simp only [rdV, ofL_toL]
    rfl
  have Hm := hide (sg_miss (unhide Hx) (by
    intro y hy
    simp only [signs2, List.mem_cons, List.not_mem_nil, or_false] at hy
    rcases hy with rfl | rfl | rfl | rfl <;> assumption))
  go_enter Tryz.func78, Tryz.ntmps78
  go_wp2_with fail
  clear hW
  refine (Tryz.strings_IndexByte _ _ _).mono ?_
  rintro e w1 ⟨rfl, hw⟩
  rw [hw, toU8]
  clear hw
  rw [show (⟨#[60, 43, 45, 42, 47, 37, 124, 38, 92, 40, 41, 123, 125, 44, 59, 61]⟩ : ByteArray).data.toList = signs1 from rfl]
  by_cases hi : Lib.indexByte signs1 r[0] < 0
  · have Hi := hide (ix_none hi)
    go_wp2_with fail
    go_region
    go_wp2_with fail
    have BF := put4_below (b := w.heap.size) B0 (Nat.le_refl _) (.int .i64 0) (.int .i64 0) (.string ⟨#[]⟩) (.int .i64 0)
    obtain ⟨g0, g1, g2, g3⟩ := put4_drew R0 (.int .i64 0) (.int .i64 0) (.string ⟨#[]⟩) (.int .i64 0)
    refine bodyPost_ret (res_tok3 Tryz.results78 rfl g0 g1 g2 g3) rfl ⟨?_, BF.drew⟩
    rw [oneSign, if_neg (by rw [unhide Hm]; decide), if_neg (by rw [unhide Hi]; decide), rd_bad2]
    rfl
  · have Hi := hide (ix_some hi)
    go_wp2_with fail
    generalize r.extract 0 1 = x1 at H1 ⊢
    have BF := put4_below (b := w.heap.size) B0 (Nat.le_refl _) (.int .i64 5) (.int .i64 0) (.string x1) (.int .i64 0)
    obtain ⟨g0, g1, g2, g3, _⟩ := row4 (put4_row R0 (.int .i64 5) (.int .i64 0) (.string x1) (.int .i64 0))
    simp only [put4] at g0 g1 g2 g3
    refine bodyPost_ret (res_tok3 Tryz.results78 rfl g0 g1 g2 g3) rfl ⟨?_, BF⟩
    rw [oneSign, if_neg (by rw [unhide Hm]; decide), if_pos (unhide Hi), ← unhide H1]
    simp only [rdV, ofL_toL]
    rfl

end Go.Proofs.YtcehablmloleaaaGreatDoor

namespace Go.Proofs.YtcehablmloleaaaGreatDoor
open Go.RowKit
set_option linter.unusedVariables false
variable {aS aB aT : Addr}

theorem parse_digits (M : Nat) (hM : 10000000000000000000 ≤ M) : ∀ (d : List UInt8) (acc : Nat), d.all dgB = true → (acc + 1) * 10 ^ d.length ≤ 10000000000000000000 → ∃ u, Lib.parseUintM M acc d = .ok u ∧ (u : Int) = (acc : Int) * 10 ^ d.length + lvV d
  | [], acc, _, _ => ⟨acc, rfl, by simp [lvV]⟩
  | c :: r, acc, h, hb => by
    rw [List.all_cons, Bool.and_eq_true] at h
    obtain ⟨h1, h2⟩ := (dgB_iff c).1 h.1
    have hp : 1 ≤ 10 ^ r.length := Nat.one_le_pow _ _ (by decide)
    rw [List.length_cons, Nat.pow_succ] at hb
    have hb2 : (acc + 1) * 10 ≤ 10000000000000000000 := by
      refine Nat.le_trans ?_ hb
      rw [Nat.mul_comm (10 ^ r.length) 10, ← Nat.mul_assoc]
      exact Nat.le_mul_of_pos_right _ (by omega)
    obtain ⟨u, e1, e2⟩ := parse_digits M hM r (acc * 10 + (c.toNat - 48)) h.2 (by
      refine Nat.le_trans ?_ hb
      rw [Nat.mul_comm (10 ^ r.length) 10, ← Nat.mul_assoc]
      exact Nat.mul_le_mul_right _ (by omega))
    refine ⟨u, ?_, ?_⟩
    · rw [Lib.parseUintM, if_pos (by omega), if_neg (by omega), if_neg (by omega)]
      exact e1
    · rw [e2, lvV_cons, List.length_cons, Int.pow_succ, ← Int.add_assoc]
      congr 1
      rw [Int.natCast_add, Int.natCast_mul, Int.natCast_sub (by omega), Int.add_mul, Int.mul_comm (10 ^ r.length) 10, ← Int.mul_assoc]
      rfl

theorem parse_int {d : List UInt8} (h0 : d ≠ []) (h19 : d.length ≤ 19) (h : d.all dgB = true) : Lib.parseIntB 64 d = if 9223372036854775807 < lvV d then .range else .ok (lvV d) := by
  obtain ⟨u, e1, e2⟩ := parse_digits (2 ^ 64 - 1) (by decide) d 0 h (by
    have : 10 ^ d.length ≤ 10 ^ 19 := Nat.pow_le_pow_right (by decide) h19
    have e : 10 ^ 19 = 10000000000000000000 := rfl
    omega)
  simp only [Int.natCast_zero, Int.zero_mul, Int.zero_add] at e2
  cases d with
  | nil => exact absurd rfl h0
  | cons c r =>
    have hc := (dgB_iff c).1 (by rw [List.all_cons, Bool.and_eq_true] at h; exact h.1)
    have n1 : ¬ c.toNat = 43 := by omega
    have n2 : ¬ c.toNat = 45 := by omega
    have e3 : Lib.parseUintB 64 (c :: r) = .ok u := by rw [Lib.parseUintB, if_neg (by simp)]; exact e1
    rw [Lib.parseIntB]
    simp only [n1, n2, or_self, if_false, e3]
    by_cases hu : 9223372036854775807 < lvV (c :: r)
    · rw [if_pos hu, if_pos ⟨not_false, by show 9223372036854775808 ≤ u; omega⟩]
    · rw [if_neg hu, if_neg (fun k => by have : 9223372036854775808 ≤ u := k.2; omega), if_neg (fun k => k.1), e2]

set_option maxHeartbeats 3200000 in
theorem readNumber_any (r : ByteArray) (w : World) (hs : r.size ≤ 1048576) (h0 : 1 ≤ runL dgB (toL r)) (S : Snt w aS aB aT) :
    Calls Tryz.prog 74 #[.string r] w fun e w' => e = .returned (rdV aS aB aT (oneNum (toL r))) ∧ Below w.heap.size w w' := by
  obtain ⟨W, hW, R0, B0, SW⟩ := rd_start w S
  have hg := SW.gT
  have hbig := S.big
  have n1 : w.heap.size ≠ 5 := by omega
  have n2 : 5 ≠ w.heap.size := by omega
  have hrl := runL_le dgB (toL r)
  rw [toL_size] at hrl
  obtain ⟨d0, d1, d2, d3, df⟩ := row4 R0
  have Hx := hide (show toL (r.extract 0 (runL dgB (toL r))) = (toL r).take (runL dgB (toL r)) by rw [toL_extract, List.drop_zero, Nat.sub_zero])
  have HA := hide (runL_all dgB (toL r))
  have HO := hide (show oneNum (toL r) = if 19 < runL dgB (toL r) ∨ follows (toL r) (runL dgB (toL r)) = true ∨ 9223372036854775807 < lvV ((toL r).take (runL dgB (toL r))) then .bad 3 else .tok 1 (lvV ((toL r).take (runL dgB (toL r)))) [] (runL dgB (toL r)) from rfl)
  have hxs : (r.extract 0 (runL dgB (toL r))).size = runL dgB (toL r) := by rw [ByteArray.size_extract]; omega
  go_enter Tryz.func74, Tryz.ntmps74
  go_wp2_with fail
  clear hW
  refine (runOf_dg r _ (by unfold maxLen; omega)).mono ?_
  rintro e w1 ⟨rfl, hw⟩
  rw [hw]
  clear hw
  generalize runL dgB (toL r) = n at h0 hrl HO Hx HA hxs ⊢
  have irl : (n : Int) ≤ (r.size : Int) := by omega
  by_cases h19 : 19 < n
  · have i19 : (19 : Int) < (n : Int) := by omega
    have HO := hide ((unhide HO).trans (if_pos (.inl h19)))
    go_wp2_with fail
    go_region
    go_wp2_with fail
    have BF := put4_below (b := w.heap.size) B0 (Nat.le_refl _) (.int .i64 0) (.int .i64 0) (.string ⟨#[]⟩) (.int .i64 0)
    obtain ⟨g0, g1, g2, g3⟩ := put4_drew R0 (.int .i64 0) (.int .i64 0) (.string ⟨#[]⟩) (.int .i64 0)
    exact bodyPost_ret (res_tok3 Tryz.results74 rfl g0 g1 g2 g3) rfl ⟨by rw [unhide HO, rd_bad3]; rfl, BF.drew⟩
  have i19 : ¬ ((19 : Int) < (n : Int)) := by omega
  by_cases hlt : n < r.size
  · have ilt : (n : Int) < (r.size : Int) := by omega
    have hf : follows (toL r) n = (ltB r[n] || decide (r[n] = 95)) := by
      have := follows_at (s := r) (j := 0) hlt (Nat.zero_le _)
      rwa [List.drop_zero, Nat.sub_zero] at this
    cases hL : ltI (r[n].toNat : Int)
    · by_cases h95 : (r[n].toNat : Int) = 95
      · have e : follows (toL r) n = true := by rw [hf]; simp [ltB, byte95 h95]
        have HO := hide ((unhide HO).trans (if_pos (.inr (.inl e))))
        clear e hf hL
        go_wp2_with (go_at_call 75; refine (isLetter_any _ _).mono ?_; rintro e w' ⟨rfl, hw⟩; rw [show ltI 95 = false from by decide, hw]; clear hw)
        go_region
        go_wp2_with fail
        have BF := put4_below (b := w.heap.size) B0 (Nat.le_refl _) (.int .i64 0) (.int .i64 0) (.string ⟨#[]⟩) (.int .i64 0)
        obtain ⟨g0, g1, g2, g3⟩ := put4_drew R0 (.int .i64 0) (.int .i64 0) (.string ⟨#[]⟩) (.int .i64 0)
        exact bodyPost_ret (res_tok3 Tryz.results74 rfl g0 g1 g2 g3) rfl ⟨by rw [unhide HO, rd_bad3]; rfl, BF.drew⟩
      · have e : follows (toL r) n = false := by rw [hf]; simp [ltB, hL, byte95n h95]
        have e95 := beq_eq_false_iff_ne.2 h95
        have Hf := hide e
        have HL := hide hL
        clear e hf hL
        go_wp2_with (go_at_call 75; refine (isLetter_any _ _).mono ?_; rintro e w' ⟨rfl, hw⟩; rw [unhide HL, hw]; clear hw)
        generalize r.extract 0 n = x at Hx hxs ⊢
        have hne : toL x ≠ [] := fun k => by have := congrArg List.length k; rw [toL_size, List.length_nil] at this; omega
        have hpi := parse_int (d := toL x) hne (by rw [toL_size]; omega) (by rw [unhide Hx]; exact unhide HA)
        rw [unhide Hx] at hpi
        clear d0 d1 d2 d3 df hne hg
        by_cases hmx : 9223372036854775807 < lvV ((toL r).take n)
        · have HO := hide ((unhide HO).trans (if_pos (.inr (.inr hmx))))
          rw [if_pos hmx] at hpi
          obtain ⟨tp, p, hvar⟩ := SW.gR
          have hP := Tryz.strconv_ParseInt_10_at64_range_var x (by omega) (by rw [show x.data.toList = (toL r).take n from unhide Hx]; exact hpi) tp p W hvar
          clear hvar hpi hmx
          refine hP.mono ?_
          rintro e w2 ⟨N, rfl, _, _, hb2⟩
          clear hP
          have R2 := R0.after hb2 (Nat.le_refl _)
          have B2 := B0.trans (hb2.mono B0.size)
          have hg := (SW.below hb2 (Nat.le_refl _)).gT
          clear hb2
          obtain ⟨d0, d1, d2, d3, df⟩ := row4 R2
          go_wp2_with fail
          go_region
          go_wp2_with fail
          have BF := put4_below (b := w.heap.size) B2 (Nat.le_refl _) (.int .i64 0) (.int .i64 0) (.string ⟨#[]⟩) (.int .i64 0)
          obtain ⟨g0, g1, g2, g3⟩ := put4_drew R2 (.int .i64 0) (.int .i64 0) (.string ⟨#[]⟩) (.int .i64 0)
          exact bodyPost_ret (res_tok3 Tryz.results74 rfl g0 g1 g2 g3) rfl ⟨by rw [unhide HO, rd_bad3]; rfl, BF.drew⟩
        · have e : ¬ (19 < n ∨ follows (toL r) n = true ∨ 9223372036854775807 < lvV ((toL r).take n)) := by
            rintro (k | k | k)
            · exact h19 k
            · rw [unhide Hf] at k; cases k
            · exact hmx k
          have HO := hide ((unhide HO).trans (if_neg e))
          rw [if_neg hmx] at hpi
          have hP := Tryz.strconv_ParseInt_10_at64_ok x (by omega) _ (by rw [show x.data.toList = (toL r).take n from unhide Hx]; exact hpi) W
          clear hpi hmx e
          refine hP.mono ?_
          rintro e w2 ⟨rfl, hw⟩
          clear hP
          have hb2 : Below W.heap.size W w2 := by
            rcases hw with rfl | ⟨t, rfl⟩
            · exact Below.refl _ _
            · exact Lib.bytesWorld_below W _ t
          clear hw
          generalize lvV ((toL r).take n) = v at HO ⊢
          have R2 := R0.after hb2 (Nat.le_refl _)
          have B2 := B0.trans (hb2.mono B0.size)
          clear hb2
          obtain ⟨d0, d1, d2, d3, df⟩ := row4 R2
          go_wp2_with fail
          have BF := put4_below (b := w.heap.size) B2 (Nat.le_refl _) (.int .i64 1) (.int .i64 v) (.string ⟨#[]⟩) (.int .i64 0)
          obtain ⟨g0, g1, g2, g3, _⟩ := row4 (put4_row R2 (.int .i64 1) (.int .i64 v) (.string ⟨#[]⟩) (.int .i64 0))
          simp only [put4] at g0 g1 g2 g3
          refine bodyPost_ret (res_tok3 Tryz.results74 rfl g0 g1 g2 g3) rfl ⟨?_, BF⟩
          rw [unhide HO]
          rfl
    · have e : follows (toL r) n = true := by rw [hf]; simp [ltB, hL]
      have HO := hide ((unhide HO).trans (if_pos (.inr (.inl e))))
      have HL := hide hL
      clear e hf hL
      go_wp2_with (go_at_call 75; refine (isLetter_any _ _).mono ?_; rintro e w' ⟨rfl, hw⟩; rw [unhide HL, hw]; clear hw)
      go_region
      go_wp2_with fail
      have BF := put4_below (b := w.heap.size) B0 (Nat.le_refl _) (.int .i64 0) (.int .i64 0) (.string ⟨#[]⟩) (.int .i64 0)
      obtain ⟨g0, g1, g2, g3⟩ := put4_drew R0 (.int .i64 0) (.int .i64 0) (.string ⟨#[]⟩) (.int .i64 0)
      exact bodyPost_ret (res_tok3 Tryz.results74 rfl g0 g1 g2 g3) rfl ⟨by rw [unhide HO, rd_bad3]; rfl, BF.drew⟩
  · have ilt : ¬ ((n : Int) < (r.size : Int)) := by omega
    have Hf := hide (show follows (toL r) n = false by have := follows_end (s := r) (j := 0) (k := n) (by omega); rwa [List.drop_zero, Nat.sub_zero] at this)
    go_wp2_with fail
    generalize r.extract 0 n = x at Hx hxs ⊢
    have hne : toL x ≠ [] := fun k => by have := congrArg List.length k; rw [toL_size, List.length_nil] at this; omega
    have hpi := parse_int (d := toL x) hne (by rw [toL_size]; omega) (by rw [unhide Hx]; exact unhide HA)
    rw [unhide Hx] at hpi
    clear d0 d1 d2 d3 df hne hg
    by_cases hmx : 9223372036854775807 < lvV ((toL r).take n)
    · have HO := hide ((unhide HO).trans (if_pos (.inr (.inr hmx))))
      rw [if_pos hmx] at hpi
      obtain ⟨tp, p, hvar⟩ := SW.gR
      have hP := Tryz.strconv_ParseInt_10_at64_range_var x (by omega) (by rw [show x.data.toList = (toL r).take n from unhide Hx]; exact hpi) tp p W hvar
      clear hvar hpi hmx
      refine hP.mono ?_
      rintro e w2 ⟨N, rfl, _, _, hb2⟩
      clear hP
      have R2 := R0.after hb2 (Nat.le_refl _)
      have B2 := B0.trans (hb2.mono B0.size)
      have hg := (SW.below hb2 (Nat.le_refl _)).gT
      clear hb2
      obtain ⟨d0, d1, d2, d3, df⟩ := row4 R2
      go_wp2_with fail
      go_region
      go_wp2_with fail
      have BF := put4_below (b := w.heap.size) B2 (Nat.le_refl _) (.int .i64 0) (.int .i64 0) (.string ⟨#[]⟩) (.int .i64 0)
      obtain ⟨g0, g1, g2, g3⟩ := put4_drew R2 (.int .i64 0) (.int .i64 0) (.string ⟨#[]⟩) (.int .i64 0)
      exact bodyPost_ret (res_tok3 Tryz.results74 rfl g0 g1 g2 g3) rfl ⟨by rw [unhide HO, rd_bad3]; rfl, BF.drew⟩
    · have e : ¬ (19 < n ∨ follows (toL r) n = true ∨ 9223372036854775807 < lvV ((toL r).take n)) := by
        rintro (k | k | k)
        · exact h19 k
        · rw [unhide Hf] at k; cases k
        · exact hmx k
      have HO := hide ((unhide HO).trans (if_neg e))
      rw [if_neg hmx] at hpi
      have hP := Tryz.strconv_ParseInt_10_at64_ok x (by omega) _ (by rw [show x.data.toList = (toL r).take n from unhide Hx]; exact hpi) W
      clear hpi hmx e
      refine hP.mono ?_
      rintro e w2 ⟨rfl, hw⟩
      clear hP
      have hb2 : Below W.heap.size W w2 := by
        rcases hw with rfl | ⟨t, rfl⟩
        · exact Below.refl _ _
        · exact Lib.bytesWorld_below W _ t
      clear hw
      generalize lvV ((toL r).take n) = v at HO ⊢
      have R2 := R0.after hb2 (Nat.le_refl _)
      have B2 := B0.trans (hb2.mono B0.size)
      clear hb2
      obtain ⟨d0, d1, d2, d3, df⟩ := row4 R2
      go_wp2_with fail
      have BF := put4_below (b := w.heap.size) B2 (Nat.le_refl _) (.int .i64 1) (.int .i64 v) (.string ⟨#[]⟩) (.int .i64 0)
      obtain ⟨g0, g1, g2, g3, _⟩ := row4 (put4_row R2 (.int .i64 1) (.int .i64 v) (.string ⟨#[]⟩) (.int .i64 0))
      simp only [put4] at g0 g1 g2 g3
      refine bodyPost_ret (res_tok3 Tryz.results74 rfl g0 g1 g2 g3) rfl ⟨?_, BF⟩
      rw [unhide HO]
      rfl

end Go.Proofs.YtcehablmloleaaaGreatDoor

namespace Go.Proofs.YtcehablmloleaaaGreatDoor
open Go.RowKit
set_option linter.unusedVariables false
variable {aS aB aT : Addr}

/-- a text that is not empty, as its first byte and the rest -/
theorem toL_cons {r : ByteArray} (h0 : 0 < r.size) : toL r = r[0] :: (toL r).drop 1 := by
  have h := drop_cons r 0 h0
  rwa [List.drop_zero] at h

theorem oneF_at {r : ByteArray} (h0 : 0 < r.size) : oneF (toL r) = if ltI (r[0].toNat : Int) then oneWord (toL r) else if dgI (r[0].toNat : Int) then oneNum (toL r) else if r[0] = 34 then oneText ((toL r).drop 1) else oneSign r[0] (toL r) := by
  have h := toL_cons h0
  generalize (toL r).drop 1 = q at h ⊢
  rw [h]
  rfl

theorem rdV_form (aS aB aT : Addr) (o : One) : ∃ (k m : Int) (x : ByteArray) (n : Int) (ev : Value), rdV aS aB aT o = .tuple #[.agg #[.int .i64 k, .int .i64 m, .string x, .int .i64 0], .int .i64 n, ev] := by
  cases o with
  | bad c => exact ⟨_, _, _, _, _, rfl⟩
  | tok k m s w => exact ⟨_, _, _, _, _, rfl⟩

set_option maxRecDepth 100000 in
set_option maxHeartbeats 3200000 in
theorem readToken_any (r : ByteArray) (w : World) (hs : r.size ≤ 1048576) (h0 : 0 < r.size) (S : Snt w aS aB aT) :
    Calls Tryz.prog 60 #[.string r] w fun e w' => e = .returned (rdV aS aB aT (oneF (toL r))) ∧ Below w.heap.size w w' := by
  have i0 : (0 : Int) < (r.size : Int) := by omega
  obtain ⟨W, hW, R0, B0, SW⟩ := rd_start w S
  obtain ⟨d0, d1, d2, d3, df⟩ := row4 R0
  cases hd : dgI (r[0].toNat : Int)
  · cases hl : ltI (r[0].toNat : Int)
    · have Hd := hide hd
      have Hl := hide hl
      clear hd hl
      by_cases h34 : (r[0].toNat : Int) = 34
      · have H34 := hide (show r[0] = 34 from UInt8.toNat_inj.1 (by have : (34 : UInt8).toNat = 34 := rfl; omega))
        have HG := hide (show oneF (toL r) = oneText ((toL r).drop 1) by rw [oneF_at h0]; rw [unhide Hl, unhide Hd, if_neg (by decide), if_neg (by decide), if_pos (unhide H34)])
        go_enter Tryz.func60, Tryz.ntmps60
        go_wp2_with (first | (go_at_call 73; refine (isDigit_any _ _).mono ?_; rintro e w' ⟨rfl, hw⟩; rw [show dgI 34 = false from by decide, hw]; clear hw) | (go_at_call 75; refine (isLetter_any _ _).mono ?_; rintro e w' ⟨rfl, hw⟩; rw [show ltI 34 = false from by decide, hw]; clear hw))
        clear hW
        refine (readQuoted_any r _ hs h0 SW).mono ?_
        rintro e w2 ⟨rfl, hb2⟩
        obtain ⟨k, m, x, n, ev, hrd⟩ := rdV_form aS aB aT (oneText ((toL r).drop 1))
        rw [hrd]
        have Hrd := hide hrd
        clear hrd
        have R2 := R0.after hb2 (Nat.le_refl _)
        have B2 := B0.trans (hb2.mono B0.size)
        clear hb2 d0 d1 d2 d3 df R0 B0
        obtain ⟨d0, d1, d2, d3, df⟩ := row4 R2
        go_wp2_with fail
        have BF := put4_below (b := w.heap.size) B2 (Nat.le_refl _) (.int .i64 k) (.int .i64 m) (.string x) (.int .i64 0)
        obtain ⟨g0, g1, g2, g3, _⟩ := row4 (put4_row R2 (.int .i64 k) (.int .i64 m) (.string x) (.int .i64 0))
        simp only [put4] at g0 g1 g2 g3
        refine bodyPost_ret (res_tok3 Tryz.results60 rfl g0 g1 g2 g3) rfl ⟨?_, BF⟩
        rw [unhide HG, unhide Hrd]
        rfl
      · have e34 := beq_eq_false_iff_ne.2 h34
        have H34 := hide (show ¬ r[0] = 34 from fun e => h34 (by rw [e]; rfl))
        have HG := hide (show oneF (toL r) = oneSign r[0] (toL r) by rw [oneF_at h0]; rw [unhide Hl, unhide Hd, if_neg (by decide), if_neg (by decide), if_neg (unhide H34)])
        go_enter Tryz.func60, Tryz.ntmps60
        go_wp2_with (first | (go_at_call 73; refine (isDigit_any _ _).mono ?_; rintro e w' ⟨rfl, hw⟩; rw [unhide Hd, hw]; clear hw) | (go_at_call 75; refine (isLetter_any _ _).mono ?_; rintro e w' ⟨rfl, hw⟩; rw [unhide Hl, hw]; clear hw))
        clear hW
        refine (readSign_any r _ hs h0 SW).mono ?_
        rintro e w2 ⟨rfl, hb2⟩
        obtain ⟨k, m, x, n, ev, hrd⟩ := rdV_form aS aB aT (oneSign r[0] (toL r))
        rw [hrd]
        have Hrd := hide hrd
        clear hrd
        have R2 := R0.after hb2 (Nat.le_refl _)
        have B2 := B0.trans (hb2.mono B0.size)
        clear hb2 d0 d1 d2 d3 df R0 B0
        obtain ⟨d0, d1, d2, d3, df⟩ := row4 R2
        go_wp2_with fail
        have BF := put4_below (b := w.heap.size) B2 (Nat.le_refl _) (.int .i64 k) (.int .i64 m) (.string x) (.int .i64 0)
        obtain ⟨g0, g1, g2, g3, _⟩ := row4 (put4_row R2 (.int .i64 k) (.int .i64 m) (.string x) (.int .i64 0))
        simp only [put4] at g0 g1 g2 g3
        refine bodyPost_ret (res_tok3 Tryz.results60 rfl g0 g1 g2 g3) rfl ⟨?_, BF⟩
        rw [unhide HG, unhide Hrd]
        rfl
    · have Hd := hide hd
      have Hl := hide hl
      clear hd hl
      have HG := hide (show oneF (toL r) = oneWord (toL r) by rw [oneF_at h0]; rw [unhide Hl, if_pos rfl])
      go_enter Tryz.func60, Tryz.ntmps60
      go_wp2_with (first | (go_at_call 73; refine (isDigit_any _ _).mono ?_; rintro e w' ⟨rfl, hw⟩; rw [unhide Hd, hw]; clear hw) | (go_at_call 75; refine (isLetter_any _ _).mono ?_; rintro e w' ⟨rfl, hw⟩; rw [unhide Hl, hw]; clear hw))
      clear hW
      refine (readWord_any r _ hs SW).mono ?_
      rintro e w2 ⟨rfl, hb2⟩
      obtain ⟨k, m, x, n, ev, hrd⟩ := rdV_form aS aB aT (oneWord (toL r))
      rw [hrd]
      have Hrd := hide hrd
      clear hrd
      have R2 := R0.after hb2 (Nat.le_refl _)
      have B2 := B0.trans (hb2.mono B0.size)
      clear hb2 d0 d1 d2 d3 df R0 B0
      obtain ⟨d0, d1, d2, d3, df⟩ := row4 R2
      go_wp2_with fail
      have BF := put4_below (b := w.heap.size) B2 (Nat.le_refl _) (.int .i64 k) (.int .i64 m) (.string x) (.int .i64 0)
      obtain ⟨g0, g1, g2, g3, _⟩ := row4 (put4_row R2 (.int .i64 k) (.int .i64 m) (.string x) (.int .i64 0))
      simp only [put4] at g0 g1 g2 g3
      refine bodyPost_ret (res_tok3 Tryz.results60 rfl g0 g1 g2 g3) rfl ⟨?_, BF⟩
      rw [unhide HG, unhide Hrd]
      rfl
  · have Hl := hide (show ltI (r[0].toNat : Int) = false by
      rw [dgI, decide_eq_true_eq] at hd
      rw [ltI, decide_eq_false_iff_not]; omega)
    have hr1 : 1 ≤ runL dgB (toL r) := by rw [toL_cons h0]; exact runL_pos hd
    have Hd := hide hd
    clear hd
    have HG := hide (show oneF (toL r) = oneNum (toL r) by rw [oneF_at h0]; rw [unhide Hl, unhide Hd, if_neg (by decide), if_pos rfl])
    go_enter Tryz.func60, Tryz.ntmps60
    go_wp2_with (first | (go_at_call 73; refine (isDigit_any _ _).mono ?_; rintro e w' ⟨rfl, hw⟩; rw [unhide Hd, hw]; clear hw) | (go_at_call 75; refine (isLetter_any _ _).mono ?_; rintro e w' ⟨rfl, hw⟩; rw [unhide Hl, hw]; clear hw))
    clear hW
    refine (readNumber_any r _ hs hr1 SW).mono ?_
    rintro e w2 ⟨rfl, hb2⟩
    obtain ⟨k, m, x, n, ev, hrd⟩ := rdV_form aS aB aT (oneNum (toL r))
    rw [hrd]
    have Hrd := hide hrd
    clear hrd
    have R2 := R0.after hb2 (Nat.le_refl _)
    have B2 := B0.trans (hb2.mono B0.size)
    clear hb2 d0 d1 d2 d3 df R0 B0
    obtain ⟨d0, d1, d2, d3, df⟩ := row4 R2
    go_wp2_with fail
    have BF := put4_below (b := w.heap.size) B2 (Nat.le_refl _) (.int .i64 k) (.int .i64 m) (.string x) (.int .i64 0)
    obtain ⟨g0, g1, g2, g3, _⟩ := row4 (put4_row R2 (.int .i64 k) (.int .i64 m) (.string x) (.int .i64 0))
    simp only [put4] at g0 g1 g2 g3
    refine bodyPost_ret (res_tok3 Tryz.results60 rfl g0 g1 g2 g3) rfl ⟨?_, BF⟩
    rw [unhide HG, unhide Hrd]
    rfl

end Go.Proofs.YtcehablmloleaaaGreatDoor

namespace Go.Proofs.YtcehablmloleaaaGreatDoor
open Go.RowKit
set_option linter.unusedVariables false
variable {aS aB aT : Addr}

/-- what scan answers -/
def IsAns (aS aB aT : Addr) (w : World) (R : Res) (e : Ending) (w' : World) : Prop :=
  (R.code = 0 ∧ R.at_ = 0 ∧ ∃ x c, e = .returned (.tuple #[.slice x R.toks.length c, .nilIface]) ∧ w'.ownsRow w.heap.size 42 4 (.slice x R.toks.length c) R.toks.length (tokC R.toks) ∧ okT R.toks ∧ Below w.heap.size w w') ∨
  (R.toks = [] ∧ 1 ≤ R.code ∧ R.code ≤ 3 ∧ ∃ b, e = .returned (.tuple #[.slice none 0 0, .iface 83 (.pointer (some ⟨b, 0, none⟩))]) ∧ Row w' b #[.int .i64 (R.at_ : Int), causeV aS aB aT R.code] 88 ∧ Below w.heap.size w w')

set_option maxRecDepth 100000 in
set_option maxHeartbeats 6400000 in
theorem scan_any (t : ByteArray) (w : World) (ht : t.size ≤ 1048576) (S : Snt w aS aB aT) :
    Calls Tryz.prog 34 #[.string t] w fun e w' => IsAns aS aB aT w (scanR t) e w' := by
  by_cases h4 : 4000 < t.size
  · have i4 : (4000 : Int) < (t.size : Int) := by omega
    have HR := hide (show scanR t = ⟨[], 1, 0⟩ by rw [scanR, if_pos h4])
    have hg := S.gS
    go_enter Tryz.func34, Tryz.ntmps34
    go_wp2_with fail
    go_step3
    go_wp2_with fail
    refine (faultAt_any _ _ _ _).mono ?_
    rintro e w1 ⟨rfl, R1, B1⟩
    go_wp2_with fail
    rw [Exit.noGoto_ret]
    go_ret2
    rw [unhide HR]
    exact .inr ⟨rfl, by show (1 : Int) ≤ 1; omega, by show (1 : Int) ≤ 3; omega, w.heap.size, rfl, R1, B1⟩
  · have i4 : ¬ ((4000 : Int) < (t.size : Int)) := by omega
    have HR := hide (show scanF t.size (t.size + 1) (toL t) [] = scanR t by rw [scanR, if_neg h4])
    obtain ⟨i, hi, hz0, hz1, hz2⟩ := info_parts infoT
    go_enter Tryz.func34, Tryz.ntmps34
    go_wp2_with fail
    go_step3
    go_wp2_with fail
    go_step3
    go_wp2_with fail
    go_loopw [4, 5] (fun v a wr => ∃ (k f : Nat) (T : List Tok), a = .int .i64 k ∧ k ≤ t.size ∧ t.size - k < f ∧ T.length ≤ k ∧ okT T ∧ scanF t.size f ((toL t).drop k) T = scanR t ∧ wr.ownsRow w.heap.size 42 4 v T.length (tokC T) ∧ Below w.heap.size w wr) (fun _ a _ => t.size - (intOf a).toNat)
    case atStart => exact ⟨0, t.size + 1, [], rfl, Nat.zero_le _, by omega, by simp, okT_nil, by rw [List.drop_zero]; exact unhide HR, World.ownsRow_nil _ _ _ _, Below.refl _ _⟩
    case round =>
      obtain ⟨k, f, T, rfl, hk, hf, hT, hok, hsc, hown, B1⟩ := hrel
      have Hsc := hide hsc
      have Hok := hide hok
      clear hsc hok
      by_cases hlt : k < t.size
      case neg =>
        have e : (toL t).drop k = [] := List.drop_of_length_le (by rw [toL_size]; omega)
        have hfin : scanR t = ⟨T, 0, 0⟩ := by rw [← unhide Hsc, e, scanF_nil]
        have Hfin := hide hfin
        have ilt : ¬ ((k : Int) < (t.size : Int)) := by omega
        clear hfin e
        obtain ⟨x, cx, hv⟩ := ownsT_form hown
        subst hv
        go_wp2_with fail
        go_ret2
        rw [unhide Hfin]
        exact .inl ⟨rfl, rfl, x, cx, rfl, hown, unhide Hok, B1⟩
      have ilt : (k : Int) < (t.size : Int) := by omega
      by_cases h1 : (t[k].toNat : Int) = 32
      · have Hf := hide (blk_at t k hlt (.inl h1))
        go_wp2_with fail
        go_roundw
        case rel => exact ⟨k + 1, f, T, by go_num, by omega, by omega, by omega, unhide Hok, by rw [← unhide Hsc]; exact scanF_blk' _ _ (unhide Hf).symm _, hown, B1⟩
        case measure => simp [intOf]; omega
      have e1 := beq_eq_false_iff_ne.2 h1
      by_cases h3 : (t[k].toNat : Int) = 9
      · have Hf := hide (blk_at t k hlt (.inr (.inr h3)))
        go_wp2_with fail
        go_roundw
        case rel => exact ⟨k + 1, f, T, by go_num, by omega, by omega, by omega, unhide Hok, by rw [← unhide Hsc]; exact scanF_blk' _ _ (unhide Hf).symm _, hown, B1⟩
        case measure => simp [intOf]; omega
      have e3 := beq_eq_false_iff_ne.2 h3
      by_cases h2 : (t[k].toNat : Int) = 10
      · have Hf := hide (blk_at t k hlt (.inr (.inl h2)))
        go_wp2_with fail
        go_roundw
        case rel => exact ⟨k + 1, f, T, by go_num, by omega, by omega, by omega, unhide Hok, by rw [← unhide Hsc]; exact scanF_blk' _ _ (unhide Hf).symm _, hown, B1⟩
        case measure => simp [intOf]; omega
      have e2 := beq_eq_false_iff_ne.2 h2
      by_cases h5 : (t[k].toNat : Int) = 35
      · have Hf := hide (blk_hash t k hlt h5)
        go_wp2_with fail
        go_loop [5] (fun a => ∃ q : Nat, k ≤ q ∧ q < t.size ∧ a = .int .i64 q ∧ blk true ((toL t).drop k) = blk true ((toL t).drop q)) (fun a => t.size - (intOf a).toNat)
        case atStart => exact ⟨k, Nat.le_refl _, hlt, rfl, rfl⟩
        case round =>
          obtain ⟨q, hkq, hq, rfl, hi⟩ := hrel
          have Hq := hide hi
          clear hi
          have iq : (q : Int) < (t.size : Int) := by omega
          by_cases h10 : (t[q].toNat : Int) = 10
          · have Hn := hide (blk_nl t q hq h10)
            have hne : q ≠ k := fun e => by subst e; omega
            have e10 : ((t[q].toNat : Int) != 10) = false := by rw [h10]; rfl
            go_wp2_with fail
            go_roundw
            case rel => exact ⟨q, f, T, rfl, by omega, by omega, by omega, unhide Hok, by rw [← unhide Hsc]; exact scanF_blk' _ _ (by rw [unhide Hf, unhide Hq, unhide Hn]) _, hown, B1⟩
            case measure => simp [intOf]; omega
          · have Hn := hide (blk_in t q hq h10)
            have e10 : ((t[q].toNat : Int) != 10) = true := bne_iff_ne.2 h10
            by_cases hl : q + 1 = t.size
            · have el : ((q : Int) + 1 == (t.size : Int)) = true := beq_iff_eq.2 (by omega)
              have Hfin := hide (show scanR t = ⟨T, 0, 0⟩ by
                rw [← unhide Hsc, ← scanF_nil (n := t.size) (f := f)]
                exact scanF_blk' _ _ (by rw [unhide Hf, unhide Hq, unhide Hn, blk_end true t (q + 1) (by omega)]; rfl) _)
              obtain ⟨x, cx, hv⟩ := ownsT_form hown
              subst hv
              go_wp2_with fail
              go_ret2
              rw [unhide Hfin]
              exact .inl ⟨rfl, rfl, x, cx, rfl, hown, unhide Hok, B1⟩
            · have el : ((q : Int) + 1 == (t.size : Int)) = false := beq_eq_false_iff_ne.2 (by omega)
              go_wp2_with fail
              go_round
              case rel => exact ⟨q + 1, by omega, by omega, by go_num, by rw [unhide Hq, unhide Hn]⟩
              case measure => simp [intOf]; omega
      have e5 := beq_eq_false_iff_ne.2 h5
      have Hbk := hide (blk_other t k hlt h1 h2 h3 h5)
      go_wp2_with fail
      have Hr := hide (toL_rest t k)
      have hrs : (t.extract k t.size).size = t.size - k := by rw [ByteArray.size_extract]; omega
      have S1 := S.below B1 (Nat.le_refl _)
      generalize t.extract k t.size = r at Hr hrs ⊢
      refine (readToken_any r _ (by omega) (by omega) S1).mono ?_
      rintro e w2 ⟨rfl, hb2⟩
      rw [unhide Hr]
      have hd := drop_cons t k hlt
      have hlen : ((toL t).drop (k + 1)).length + 1 = t.size - k := by rw [List.length_drop, toL_size]; omega
      cases ho : oneF ((toL t).drop k) with
      | bad c =>
        obtain ⟨f', rfl⟩ : ∃ f', f = f' + 1 := ⟨f - 1, by omega⟩
        have hbad : scanR t = ⟨[], c, k⟩ := by
          rw [← unhide Hsc, hd, scanF_bad (by rw [← hd]; exact unhide Hbk) (by rw [← hd]; exact ho)]
          congr 1
          rw [hlen]; omega
        have hc : c = 2 ∨ c = 3 := oneF_code (by rw [← hd]; exact ho)
        have Hbad := hide hbad
        obtain ⟨ac, hac⟩ := causeV_iface aS aB aT c
        have Hac := hide hac
        have B2 := B1.trans (hb2.mono B1.size)
        have z2 := B2.size
        rw [show rdV aS aB aT (.bad c) = .tuple #[.agg #[.int .i64 0, .int .i64 0, .string ⟨#[]⟩, .int .i64 0], .int .i64 0, .iface 207 (.pointer (some ac))] by rw [← hac]; rfl]
        have B3 := B2.alloc z2 (.cells #[.int .i64 0, .int .i64 0, .string ⟨#[]⟩, .int .i64 0] 42)
        clear hbad hd hlen ho hown hac hb2 S1
        go_wp2_with fail
        generalize w2.alloc (.cells #[.int .i64 0, .int .i64 0, .string ⟨#[]⟩, .int .i64 0] 42) = W3 at B3 ⊢
        refine (faultAt_any _ _ _ _).mono ?_
        rintro e w4 ⟨rfl, R4, B4⟩
        have BF := B3.trans (B4.mono B3.size)
        go_wp2_with fail
        go_ret2
        rw [unhide Hbad]
        exact .inr ⟨rfl, by show 1 ≤ c; omega, by show c ≤ 3; omega, W3.heap.size, rfl, by rw [unhide Hac]; exact R4, BF⟩
      | tok kd m tx wd =>
        obtain ⟨hw1, hw2, hw3⟩ : 1 ≤ wd ∧ wd ≤ ((toL t).drop k).length ∧ tx.length ≤ wd := by have := oneF_ok ((toL t).drop k); rw [ho] at this; exact this
        rw [List.length_drop, toL_size] at hw2
        obtain ⟨f', rfl⟩ : ∃ f', f = f' + 1 := ⟨f - 1, by omega⟩
        have Hsc2 := hide (show scanF t.size f' ((toL t).drop (k + wd)) (T ++ [⟨kd, m, ofL tx, k⟩]) = scanR t by
          rw [← unhide Hsc, hd, scanF_tok (by rw [← hd]; exact unhide Hbk) (by rw [← hd]; exact ho), ← hd, List.drop_drop, show t.size - (((toL t).drop (k + 1)).length + 1) = k by omega])
        have hok2 : okT (T ++ [⟨kd, m, ofL tx, k⟩]) := okT_snoc (unhide Hok) (by show (ofL tx).size ≤ _; rw [ofL_size]; unfold maxLen; omega)
        have Hok2 := hide hok2
        have B2 := B1.trans (hb2.mono B1.size)
        have hown1 := ownsT_below hown hb2
        have z2 := B2.size
        rw [show rdV aS aB aT (.tok kd m tx wd) = .tuple #[.agg #[.int .i64 kd, .int .i64 m, .string (ofL tx), .int .i64 0], .int .i64 (wd : Int), .nilIface] from rfl]
        clear hd hlen ho hok2 Hsc Hbk Hok hown hb2 S1 B1
        have B3 := (B2.alloc z2 (.cells #[.int .i64 kd, .int .i64 m, .string (ofL tx), .int .i64 k] 42)).alloc (by simp; omega) (.cells #[.int .i64 kd, .int .i64 m, .string (ofL tx), .int .i64 k] 42)
        have hown2 := (hown1.alloc (.cells #[.int .i64 kd, .int .i64 m, .string (ofL tx), .int .i64 k] 42)).alloc (.cells #[.int .i64 kd, .int .i64 m, .string (ofL tx), .int .i64 k] 42)
        have RV := Row.new (w2.alloc (.cells #[.int .i64 kd, .int .i64 m, .string (ofL tx), .int .i64 k] 42)) #[.int .i64 kd, .int .i64 m, .string (ofL tx), .int .i64 k] 42
        simp only [World.size_alloc] at RV
        go_wp2_with (at_builtin; refine wpList_append_own _ rfl _ _ 37 rfl w.heap.size 42 i (.agg #[.int .i64 0, .int .i64 0, .string ByteArray.empty, .int .i64 0]) 4 40 Tryz.underlying37 hi hz0 hz1 hz2 rfl (by decide) _ _ _ rfl hown2 ⟨w2.heap.size + 1, 0, none⟩ 1 1 (tok4 ⟨kd, m, ofL tx, k⟩) rfl rfl ?c1 ?c2 ?c3 ?c4 ?c5 ?_)
        case c1 => exact tok_cells (x := ⟨kd, m, ofL tx, k⟩) RV
        case c2 => exact tok_one _
        case c3 => unfold maxLen; omega
        case c4 => omega
        case c5 => simp; omega
        intro v' w3 hown' hgrow _
        have B4 : Below w.heap.size w w3 := B3.grown hgrow (by simp; omega) (fun q hq => (hown2.lt q hq).1)
        clear hgrow hown1 hown2 RV B2 B3
        go_wp2_with fail
        go_roundw
        case rel => exact ⟨k + wd, f', T ++ [⟨kd, m, ofL tx, k⟩], by go_num, by omega, by omega, by simp; omega, unhide Hok2, unhide Hsc2, by rw [tokC_snoc, List.length_append]; exact hown', B4⟩
        case measure => simp [intOf]; omega

end Go.Proofs.YtcehablmloleaaaGreatDoor

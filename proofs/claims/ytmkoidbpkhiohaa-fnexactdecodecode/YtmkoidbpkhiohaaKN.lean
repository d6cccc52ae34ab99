/-
  Codes of the call's own: marked and asked, whole; bytes copied. Own work.
-/
import Derived.Test.YtmkoidbpkhiohaaKM
import Derived.Test.YtmkoidbpkhiohaaEW0
namespace Go.Proofs.Ytmkoidbpkhiohaa
open Go.RowKit
set_option linter.unusedVariables false

/-- a row of the call's own: what marking it may touch -/
theorem owns_tight {w : World} {lo hi n c : Nat} {a : Option Addr} {e : TypeId} {size : Nat} {xs : List Value} (h : w.ownsRow lo e size (.slice a n c) n xs) (hb : ∀ q, (Value.slice a n c).ownBlock = some q → q < hi) :
    ∃ l u, w.ownsRow l e size (.slice a n c) n xs ∧ (∀ q, (Value.slice a n c).ownBlock = some q → q < u) ∧ ((l = 0 ∧ u = 0) ∨ (lo ≤ l ∧ u ≤ hi)) ∧ ∀ q, (Value.slice a n c).ownBlock ≠ some q → q < l ∨ u ≤ q := by
  rcases h.2 with ⟨hv, h0⟩ | ⟨g, cap, cur, hv, hlo, hg, h4⟩
  · refine ⟨0, 0, ⟨h.1, .inl ⟨hv, h0⟩⟩, fun q hq => ?_, .inl ⟨rfl, rfl⟩, fun q _ => .inr (Nat.zero_le _)⟩
    rw [hv] at hq; cases hq
  · have hb' := hb g (by rw [hv]; rfl)
    refine ⟨g, g + 1, ⟨h.1, .inr ⟨g, cap, cur, hv, Nat.le_refl _, hg, h4⟩⟩, fun q hq => ?_, .inr ⟨hlo, hb'⟩, fun q hq => ?_⟩
    · rw [hv] at hq
      have : g = q := by simpa [Value.ownBlock] using hq
      omega
    · have : g ≠ q := fun e => hq (by rw [hv, ← e]; rfl)
      omega

/-- a code of the call's own, in the blocks lo .. hi - 1 -/
structure OwnC (w : World) (lo hi : Nat) (x : Option Addr) (n cx : Nat) (y : Option Addr) (m cy : Nat) (P : List Vl) (nv : List Value) (I : List Is1) : Prop where
  pool : OwnP w lo (.slice x n cx) P nv
  ins : w.ownsRow lo 45 2 (.slice y m cy) m (inC I)
  apart : ∀ q, (Value.slice y m cy).ownBlock = some q → (Value.slice x n cx).ownBlock ≠ some q ∧ ∀ j, (hj : j < nv.length) → nv[j].ownBlock ≠ some q
  inP : InP (.slice x n cx) nv hi
  inI : ∀ q, (Value.slice y m cy).ownBlock = some q → q < hi
  top : hi ≤ w.heap.size
  np : P.length = n
  ni : I.length = m

theorem OwnC.touch {w w' : World} {lo hi l u n cx m cy : Nat} {x y : Option Addr} {P : List Vl} {nv : List Value} {I : List Is1} (h : OwnC w lo hi x n cx y m cy P nv I) (T : Touch l u w w') (hd : hi ≤ l ∨ u ≤ lo) : OwnC w' lo hi x n cx y m cy P nv I := by
  have hk : ∀ q, lo ≤ q → q < hi → w'.heap[q]? = w.heap[q]? := fun q h1 h2 => T.block q (Nat.lt_of_lt_of_le h2 h.top) (by omega)
  refine ⟨⟨h.pool.len, owns_blocks h.pool.own (fun q hq => hk q (h.pool.lts.1 q hq).1 (h.inP.1 q hq)), fun j hj hj' => owns_blocks (h.pool.names j hj hj') (fun q hq => hk q (h.pool.lts.2 j hj' q hq).1 (h.inP.2 j hj' q hq)), h.pool.apart, h.pool.far⟩, owns_blocks h.ins (fun q hq => hk q (h.ins.lt q hq).1 (h.inI q hq)), h.apart, h.inP, h.inI, Nat.le_trans h.top T.size, h.np, h.ni⟩

theorem OwnC.below {w w' : World} {lo hi B n cx m cy : Nat} {x y : Option Addr} {P : List Vl} {nv : List Value} {I : List Is1} (h : OwnC w lo hi x n cx y m cy P nv I) (hb : Below B w w') (hB : hi ≤ B) : OwnC w' lo hi x n cx y m cy P nv I :=
  h.touch (l := hi) (u := w.heap.size + hi) ⟨hb.os, hb.tape, hb.output, hb.size, fun k hk hd => hb.block k (by omega)⟩ (.inl (Nat.le_refl _))

theorem OwnC.of {w w' : World} {o : Option Cd} {e : Ending} (h : DcAns w o e w') : ∃ x cx y cy nv, e = .returned (.tuple #[.agg #[.slice x (o.getD ⟨[], 0, []⟩).pool.length cx, .int .i64 (o.getD ⟨[], 0, []⟩).slots, .slice y (o.getD ⟨[], 0, []⟩).ins.length cy], .bool o.isSome]) ∧ OwnC w' w.heap.size w'.heap.size x (o.getD ⟨[], 0, []⟩).pool.length cx y (o.getD ⟨[], 0, []⟩).ins.length cy (o.getD ⟨[], 0, []⟩).pool nv (o.getD ⟨[], 0, []⟩).ins ∧ Below w.heap.size w w' := by
  obtain ⟨x, cx, y, cy, nv, he, hp, hi, ha, hb⟩ := h
  exact ⟨x, cx, y, cy, nv, he, ⟨hp, hi, ha, ⟨fun q hq => (hp.lts.1 q hq).2, fun j hj q hq => (hp.lts.2 j hj q hq).2⟩, fun q hq => (hi.lt q hq).2, Nat.le_refl _, rfl, rfl⟩, hb⟩

theorem OwnC.vls {w : World} {lo hi n cx m cy : Nat} {x y : Option Addr} {P : List Vl} {nv : List Value} {I : List Is1} (h : OwnC w lo hi x n cx y m cy P nv I) (ok : okC ⟨P, 0, I⟩) : Vls w x n cx P ∧ Iss w y m cy I :=
  ⟨h.pool.vls h.np (by rw [← h.np]; exact ok.1) ok.2.1, iss_of_owns h.ins h.ni (by rw [← h.ni]; exact ok.2.2)⟩

theorem mkK_bound (P : List Vl) (ok : ∀ x ∈ P, okV x) (h : P.length ≤ 65535) : mkK 1 P P.length ≤ 20000000 := by
  have hs : ∀ L : List Vl, (∀ x ∈ L, okV x) → (L.map fun x => x.names.length).sum ≤ 255 * L.length := by
    intro L
    induction L with
    | nil => intro _; simp
    | cons x L ih =>
      intro hL
      have h1 := ih (fun y hy => hL y (List.mem_cons_of_mem _ hy))
      have h2 := (hL x (List.mem_cons_self ..)).2.1
      simp only [List.map_cons, List.sum_cons, List.length_cons]
      omega
  have := hs P ok
  rw [mkK, List.take_length]
  omega

/-- the mark behind a code -/
def mkC (P : List Vl) (m : Nat) : Int := (mkK 1 P P.length : Nat) + 2 * (m : Int)

set_option maxRecDepth 100000 in
set_option maxHeartbeats 1600000 in
theorem markCode_own (lo hi n cx m cy : Nat) (x y : Option Addr) (s : Int) (P : List Vl) (nv : List Value) (I : List Is1) (w : World) (h : OwnC w lo hi x n cx y m cy P nv I) (ok : okC ⟨P, 0, I⟩) :
    Calls Try.prog 10 #[.agg #[.slice x n cx, .int .i64 s, .slice y m cy], .int .i64 1] w fun e w' => e = .returned (.int .i64 (mkC P m)) ∧ OwnC w' lo hi x n cx y m cy (mpl 1 P) nv (marksI (mkK 1 P P.length) m) ∧ Touch lo hi w w' := by
  have hb := mkK_bound P ok.2.1 ok.1
  have hm : m ≤ 65535 := by rw [← h.ni]; exact ok.2.2
  have R0 := Row.new w #[.slice x n cx, .int .i64 s, .slice y m cy] 26
  have B0 := (Below.refl w.heap.size w).alloc (Nat.le_refl _) (.cells #[.slice x n cx, .int .i64 s, .slice y m cy] 26)
  have h0 := h.below B0 h.top
  have Hok := hide ok.2.1
  have Htop := h.top
  have Hnp := hide h.np
  have HMK := hide (show mkC P m = ((mkK 1 P P.length : Nat) : Int) + 2 * (m : Int) from rfl)
  go_enter Try.func10, Try.ntmps10
  go_wp2_with fail
  refine (markValueS_own lo hi x n cx P nv 1 _ h0.pool h0.inP h0.top (unhide Hnp) (unhide Hok) (by omega)).mono ?_
  rintro e w2 ⟨rfl, OP2, T2, KP2⟩
  have OI2 := owns_blocks (w' := w2) h0.ins (fun q hq => KP2 q (h0.ins.lt q hq).2 (h0.apart q hq).1 (h0.apart q hq).2)
  have R2 := R0.touch' T2 (.inr (by omega))
  obtain ⟨q0, q1, q2⟩ := rowC R2
  generalize hMM : mkK 1 P P.length = MM at hb HMK ⊢
  have HMM := hide hMM
  clear hMM
  go_wp2_with fail
  obtain ⟨l, u, OI3, hu3, hlu, hsep⟩ := owns_tight OI2 h.inI
  refine (markInsS_own l u y m cy I _ w2 OI3 hu3 h.ni (by omega) (by omega)).mono ?_
  rintro e w3 ⟨rfl, OI4, T4⟩
  rw [Int.toNat_natCast] at OI4
  go_wp2_with fail
  go_ret
  refine ⟨by rw [unhide HMK]; rfl, ⟨OP2.upto (fun q hq => ?_) (fun j hj q hq => ?_), ?_, h.apart, h.inP, h.inI, ?_, by rw [mpl_len]; exact h.np, marksI_len _ _⟩, ?_⟩
  · refine T4.block q (OP2.lts.1 q hq).2 (hsep q (fun e => (h.apart q e).1 hq))
  · refine T4.block q (OP2.lts.2 j hj q hq).2 (hsep q (fun e => (h.apart q e).2 j hj hq))
  · rw [unhide HMM]
    refine ⟨OI4.1, ?_⟩
    rcases OI4.2 with h2 | ⟨g2, cap2, cur2, hv2, h3, h4⟩
    · exact .inl h2
    · exact .inr ⟨g2, cap2, cur2, hv2, (h.ins.lt g2 (by rw [hv2]; rfl)).1, h4⟩
  · have z1 := B0.size
    have z2 := T2.size
    have z3 := T4.size
    omega
  · exact ((Touch.of_below B0 (Nat.le_refl _)).trans T2).trans (T4.wide hlu)

set_option maxRecDepth 100000 in
set_option maxHeartbeats 1600000 in
theorem heldCode_own (lo hi n cx m cy : Nat) (x y : Option Addr) (s : Int) (P : List Vl) (nv : List Value) (w : World) (h : OwnC w lo hi x n cx y m cy (mpl 1 P) nv (marksI (mkK 1 P P.length) m)) (ok : ∀ x ∈ P, okV x) (hp : P.length ≤ 65535) (hm : m ≤ 65535) :
    Calls Try.prog 11 #[.agg #[.slice x n cx, .int .i64 s, .slice y m cy], .int .i64 1] w fun e w' => e = .returned (.int .i64 (mkC P m)) ∧ Below w.heap.size w w' := by
  have hb := mkK_bound P ok hp
  have R0 := Row.new w #[.slice x n cx, .int .i64 s, .slice y m cy] 26
  have B0 := (Below.refl w.heap.size w).alloc (Nat.le_refl _) (.cells #[.slice x n cx, .int .i64 s, .slice y m cy] 26)
  have h0 := h.below B0 h.top
  have HMK := hide (show mkC P m = ((mkK 1 P P.length : Nat) : Int) + 2 * (m : Int) from rfl)
  have hnp : P.length = n := by have := h.np; rwa [mpl_len] at this
  have Hnp := hide hnp
  clear hnp
  go_enter Try.func11, Try.ntmps11
  go_wp2_with fail
  refine (heldValueS_own lo x n cx P nv 1 _ h0.pool (unhide Hnp) (by omega)).mono ?_
  rintro e w2 ⟨rfl, hb2⟩
  have R2 := R0.after hb2 (Nat.le_refl _)
  obtain ⟨q0, q1, q2⟩ := rowC R2
  have OI2 := own_below' h0.ins hb2 (Nat.le_refl _)
  generalize hMM : mkK 1 P P.length = MM at hb HMK OI2
  rw [hMM] at *
  have hn1 : ¬ (((MM : Nat) : Int) < 0) := by omega
  have hn2 : ¬ (((MM : Nat) : Int) + 2 * (m : Int) < 0) := by omega
  go_wp2_with (go_at_call 23; refine (heldInsS_own lo y m cy _ w2 (by rw [Int.toNat_natCast]; exact OI2) (by omega) (by omega)).mono ?_; rintro e w3 ⟨rfl, hb3⟩)
  go_ret
  exact ⟨by rw [unhide HMK]; rfl, (B0.trans (hb2.mono B0.size)).trans (hb3.mono (by have := B0.size; have := hb2.size; omega))⟩

end Go.Proofs.Ytmkoidbpkhiohaa

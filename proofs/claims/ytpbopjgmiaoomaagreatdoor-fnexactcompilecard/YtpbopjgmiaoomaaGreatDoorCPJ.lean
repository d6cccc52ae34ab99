/-
  The model's Compile: the code so far. Own work.
-/
import Derived.Test.YtpbopjgmiaoomaaGreatDoorCPH
import Derived.Test.YtpbopjgmiaoomaaGreatDoorCPP
import Derived.Test.YtpbopjgmiaoomaaGreatDoorMXAC
import Derived.Test.YtpbopjgmiaoomaaGreatDoorMXAU
namespace Go.Proofs.YtpbopjgmiaoomaaGreatDoor
open Go.RowKit
set_option linter.unusedVariables false

/-- the code, as far as it is written -/
structure S2 (w : World) (B cB : Nat) (kN : Int) (s : Cs) (pv iv : Value) (nv : List Value) : Prop where
  row : Row w cB #[pv, .int .i64 kN, iv] 31
  pool : OwnP w B pv s.pool nv
  ins : w.ownsRow B 62 2 iv s.ins.length (insV s.ins)
  low : cB < B

theorem S2.below {w w' : World} {B cB : Nat} {kN : Int} {s : Cs} {pv iv : Value} {nv : List Value} (h : S2 w B cB kN s pv iv nv) (hb : Below w.heap.size w w') : S2 w' B cB kN s pv iv nv :=
  ⟨h.row.after hb (Nat.le_refl _), h.pool.blocks (fun k _ hk => hb.block k hk), ownsRow_below h.ins hb (Nat.le_refl _), h.low⟩

/-- what else lies there -/
def K2 (cB : Nat) (w w' : World) : Prop := ∀ b cs t, Row w b cs t → b ≠ cB → t ≠ 57 → t ≠ 62 → Row w' b cs t

theorem K2.trans {cB : Nat} {a b c : World} (h : K2 cB a b) (g : K2 cB b c) : K2 cB a c := fun k cs t R h0 h1 h2 => g k cs t (h k cs t R h0 h1 h2) h0 h1 h2

theorem K2.of_below {cB : Nat} {w w' : World} (h : Below w.heap.size w w') : K2 cB w w' := fun k cs t R _ _ _ => R.after h (Nat.le_refl _)

/-- one instruction more -/
theorem S2.newI {W W2 : World} {B cB : Nat} {kN : Int} {s : Cs} {pv iv iv' : Value} {nv : List Value} (h : S2 W B cB kN s pv iv nv) (o : Obj) (op arg : Int) (hg : (W.alloc o).grownBy W2 iv.ownBlock) (O2 : W2.ownsRow B 62 2 iv' (s.ins.length + 1) (insV s.ins ++ [.int .i64 op, .int .i64 arg])) :
    S2 (W2.setCell ⟨cB, 2, none⟩ iv') B cB kN ⟨s.pool, s.slots, s.ins ++ [⟨op, arg⟩]⟩ pv iv' nv ∧ K2 cB W (W2.setCell ⟨cB, 2, none⟩ iv') ∧ ∀ B0, B0 ≤ cB → B0 ≤ W.heap.size → Below B0 W (W2.setCell ⟨cB, 2, none⟩ iv') := by
  have C0 := (Below.refl W.heap.size W).alloc (Nat.le_refl _) o
  have h1 := h.below C0
  have R2 := rowGrown h1.row hg (fun e => own_ne_row h1.row h1.ins (by decide) e.symm)
  refine ⟨⟨R2.set 2 iv', (h1.pool.grown hg (fun q hq => ⟨fun e => own_ne_own h1.ins h1.pool.own (by decide) q hq e, fun j hj e => own_ne_own h1.ins (h1.pool.names j (by rw [← h1.pool.len]; exact hj) hj) (by decide) q hq e⟩)).set ⟨cB, 2, none⟩ iv' h.low, ?_, h.low⟩, fun b cs t R h0 hv hi => ?_, fun B0 hB h0 => ?_⟩
  · have := own_set3 O2 ⟨cB, 2, none⟩ iv' (fun q hq => by have := (O2.lt q hq).1; have := h.low; show q ≠ cB; omega)
    simpa [insV_snoc] using this
  · have R1 := R.after C0 (Nat.le_refl _)
    have RG := rowGrown R1 hg (fun e => own_ne_row R1 h1.ins hi e.symm)
    exact RG.setFar (p := ⟨cB, 2, none⟩) (by show b ≠ cB; exact h0) iv'
  · exact ((C0.mono h0).grown hg (Nat.le_trans h0 C0.size) (fun q hq => by have := (h1.ins.lt q hq).1; have := h.low; omega)).setCell (p := ⟨cB, 2, none⟩) hB iv'

/-- one value more -/
theorem S2.newV {W W7 : World} {B cB g7 c7 : Nat} {kN : Int} {s : Cs} {pv iv u : Value} {nv : List Value} {v : Vl} (h : S2 W B cB kN s pv iv nv) (o : Obj) (N2 : W.ownsRow B 9 1 u v.names.length (v.names.map Value.string))
    (hfr : ∀ q, u.ownBlock = some q → pv.ownBlock ≠ some q ∧ ∀ j, (hj : j < nv.length) → nv[j].ownBlock ≠ some q) (hg : (W.alloc o).grownBy W7 pv.ownBlock) (O7 : W7.ownsRow B 57 4 (.slice (some ⟨g7, 0, none⟩) (s.pool.length + 1) c7) (s.pool.length + 1) (vlC s.pool nv ++ vl4 v u)) (hat : pv.ownBlock = some g7 ∨ g7 = W.heap.size + 1) :
    S2 (W7.setCell ⟨cB, 0, none⟩ (.slice (some ⟨g7, 0, none⟩) (s.pool.length + 1) c7)) B cB kN ⟨s.pool ++ [v], s.slots, s.ins⟩ (.slice (some ⟨g7, 0, none⟩) (s.pool.length + 1) c7) iv (nv ++ [u]) ∧ K2 cB W (W7.setCell ⟨cB, 0, none⟩ (.slice (some ⟨g7, 0, none⟩) (s.pool.length + 1) c7)) ∧ ∀ B0, B0 ≤ cB → B0 ≤ W.heap.size → Below B0 W (W7.setCell ⟨cB, 0, none⟩ (.slice (some ⟨g7, 0, none⟩) (s.pool.length + 1) c7)) := by
  have C0 := (Below.refl W.heap.size W).alloc (Nat.le_refl _) o
  have h1 := h.below C0
  have N1 := ownsRow_below N2 C0 (Nat.le_refl _)
  have R2 := rowGrown h1.row hg (fun e => own_ne_row h1.row h1.pool.own (by decide) e.symm)
  have PP := h1.pool.snoc N1 (fun j hj q hq e => (hfr q e).2 j hj hq) (fun q hq => (hfr q hq).1) O7 hg (fun q hq => by
    have : g7 = q := by simpa [Value.ownBlock] using hq
    subst this
    exact hat.imp id (fun e => by rw [e]; simp))
  have OI : W7.ownsRow B 62 2 iv s.ins.length (insV s.ins) := owns_blocks h1.ins (fun q hq => hg.block q (h1.ins.lt q hq).2 (fun e => own_ne_own h1.ins h1.pool.own (by decide) q hq e.symm))
  refine ⟨⟨R2.set 0 _, PP.set ⟨cB, 0, none⟩ _ h.low, own_set3 OI ⟨cB, 0, none⟩ _ (fun q hq => by have := (OI.lt q hq).1; have := h.low; show q ≠ cB; omega), h.low⟩, fun b cs t R h0 hv hi => ?_, fun B0 hB h0 => ?_⟩
  · have R1 := R.after C0 (Nat.le_refl _)
    have RG := rowGrown R1 hg (fun e => own_ne_row R1 h1.pool.own hv e.symm)
    exact RG.setFar (p := ⟨cB, 0, none⟩) (by show b ≠ cB; exact h0) _
  · exact ((C0.mono h0).grown hg (Nat.le_trans h0 C0.size) (fun q hq => by have := (h1.pool.own.lt q hq).1; have := h.low; omega)).setCell (p := ⟨cB, 0, none⟩) hB _

open Classical in
theorem sameVl_iff (v u : Vl) : (sameVl v u = true → v = u) ∧ (sameVl v u = false → v ≠ u) := by
  unfold sameVl
  exact ⟨of_decide_eq_true, of_decide_eq_false⟩

/-- the first place so far -/
noncomputable def argAt (v : Vl) (P : List Vl) (k : Nat) : Int := match findV v (P.take k) 0 with
  | some i => (i : Int)
  | none => -1

open Classical in
theorem findV_snoc (v u : Vl) : ∀ (P : List Vl) (a : Nat), findV v (P ++ [u]) a = match findV v P a with
    | some i => some i
    | none => if u = v then some (a + P.length) else none
  | [], a => by simp [findV]
  | x :: P, a => by
    rw [List.cons_append, findV, findV]
    by_cases e : x = v
    · rw [if_pos e, if_pos e]
    · rw [if_neg e, if_neg e, findV_snoc v u P (a + 1)]
      cases findV v P (a + 1) with
      | some i => rfl
      | none => simp only [List.length_cons]; rw [show a + 1 + P.length = a + (P.length + 1) by omega]

theorem argAt_zero (v : Vl) (P : List Vl) : argAt v P 0 = -1 := rfl

theorem argAt_hit {v : Vl} {P : List Vl} {k : Nat} (h : k < P.length) (ha : 0 ≤ argAt v P k) : argAt v P (k + 1) = argAt v P k := by
  unfold argAt at *
  rw [List.take_succ_eq_append_getElem h, findV_snoc]
  cases hf : findV v (P.take k) 0 with
  | some i => rfl
  | none => rw [hf] at ha; dsimp only at ha; omega

theorem argAt_same {v : Vl} {P : List Vl} {k : Nat} (h : k < P.length) (ha : argAt v P k < 0) (he : P[k] = v) : argAt v P (k + 1) = k := by
  unfold argAt at *
  rw [List.take_succ_eq_append_getElem h, findV_snoc]
  cases hf : findV v (P.take k) 0 with
  | some i => rw [hf] at ha; dsimp only at ha; omega
  | none => dsimp only; rw [if_pos he, List.length_take, show min k P.length = k by omega]; simp

theorem argAt_other {v : Vl} {P : List Vl} {k : Nat} (h : k < P.length) (ha : argAt v P k < 0) (he : P[k] ≠ v) : argAt v P (k + 1) = argAt v P k := by
  unfold argAt at *
  rw [List.take_succ_eq_append_getElem h, findV_snoc]
  cases hf : findV v (P.take k) 0 with
  | some i => rfl
  | none => dsimp only; rw [if_neg he]

theorem argAt_range (v : Vl) (P : List Vl) (k : Nat) : -1 ≤ argAt v P k ∧ argAt v P k ≤ P.length := by
  unfold argAt
  cases hf : findV v (P.take k) 0 with
  | some i =>
    obtain ⟨_, h2, _⟩ := findV_some hf
    rw [List.length_take] at h2
    dsimp only
    omega
  | none => dsimp only; omega

/-- what is found at the end -/
theorem argAt_full (v : Vl) (P : List Vl) : (argAt v P P.length < 0 ∧ placeV P v = P.length ∧ poolW P v = P ++ [v]) ∨ (0 ≤ argAt v P P.length ∧ argAt v P P.length = placeV P v ∧ poolW P v = P) := by
  unfold argAt placeV poolW
  rw [List.take_length]
  cases hf : findV v P 0 with
  | some i => exact .inr ⟨by dsimp only; omega, rfl, rfl⟩
  | none => exact .inl ⟨by dsimp only; omega, rfl, rfl⟩

end Go.Proofs.YtpbopjgmiaoomaaGreatDoor

/-
  The program's stack of open trees. Own work.
-/
import Derived.Test.YtbdplgelkgngmaaGreatDoorVPH
namespace Go.Proofs.YtbdplgelkgngmaaGreatDoor
open Go.RowKit
set_option linter.unusedVariables false

def treesV (S : List (Nat × Nat)) : List Value := S.flatMap fun p => [.int .i64 p.1, .int .i64 p.2]

theorem treesV_len (S : List (Nat × Nat)) : (treesV S).length = S.length * 2 := by
  induction S with
  | nil => rfl
  | cons p S ih => rw [treesV, List.flatMap_cons, List.length_append, List.length_cons]; rw [treesV] at ih; rw [ih]; simp; omega

theorem treesV_at : ∀ (S : List (Nat × Nat)) (i : Nat) (h : i < S.length), (treesV S)[i * 2]? = some (.int .i64 (S[i].1 : Int)) ∧ (treesV S)[i * 2 + 1]? = some (.int .i64 (S[i].2 : Int))
  | [], i, h => absurd h (by simp)
  | p :: S, 0, h => ⟨rfl, rfl⟩
  | p :: S, i + 1, h => by
    have ih := treesV_at S i (by simpa using h)
    have e : treesV (p :: S) = .int .i64 p.1 :: .int .i64 p.2 :: treesV S := rfl
    rw [e, show (i + 1) * 2 = i * 2 + 1 + 1 by omega, List.getElem?_cons_succ, List.getElem?_cons_succ, show i * 2 + 1 + 1 + 1 = (i * 2 + 1) + 1 + 1 by omega, List.getElem?_cons_succ, List.getElem?_cons_succ]
    simpa using ih

theorem dep_snoc (l : List (Nat × Nat)) (p : Nat × Nat) : dep (l ++ [p]) = max (dep l) p.2 := by
  induction l with
  | nil => simp [dep]
  | cons q l ih => rw [List.cons_append, dep, dep, ih]; omega

/-- the run, by its last step -/
theorem runT_succ {K : List (List Int)} {k : Nat} {S : List (Nat × Nat)} {ks : List Int} (h : runT K k [] 0 = some S) (hk : K[k]? = some ks) : runT K (k + 1) [] 0 = stepT S k ks := by
  rw [runT_add K k 1 [] 0, h]
  show runT K 1 S (0 + k) = _
  rw [Nat.zero_add, runT, hk]
  dsimp only
  cases stepT S k ks <;> rfl

theorem runT_none {K : List (List Int)} {k n : Nat} (hk : k ≤ n) (h : runT K k [] 0 = none) : runT K n [] 0 = none := by
  have e : n = k + (n - k) := by omega
  rw [e, runT_add K k (n - k) [] 0, h]
  rfl

theorem stepT_short {S : List (Nat × Nat)} {i : Nat} {ks : List Int} (h : S.length < ks.length) : stepT S i ks = none := by rw [stepT, if_pos h]

/-- a kid that is not the open tree's top -/
theorem stepT_miss {S : List (Nat × Nat)} {i f j : Nat} {ks : List Int} (hf : f + ks.length = S.length) (hj : j < ks.length) (hS : f + j < S.length) (h : (S[f + j].1 : Int) ≠ ks[j]) : stepT S i ks = none := by
  have ef : S.length - ks.length = f := by omega
  rw [stepT, if_neg (by omega), if_pos]
  rw [ef]
  intro e
  apply h
  have h1 : (topsI (S.drop f))[j]? = some ks[j] := by rw [e]; exact List.getElem?_eq_getElem hj
  rw [topsI, List.getElem?_map, List.getElem?_drop, List.getElem?_eq_getElem hS] at h1
  simpa using h1

theorem stepT_deep {S : List (Nat × Nat)} {i f : Nat} {ks : List Int} (hf : f + ks.length = S.length) (hd : dep (S.drop f) = 64) : stepT S i ks = none := by
  have ef : S.length - ks.length = f := by omega
  rw [stepT, if_neg (by omega), ef]
  by_cases h : topsI (S.drop f) ≠ ks
  · rw [if_pos h]
  · rw [if_neg h, if_pos hd]

theorem stepT_ok {S : List (Nat × Nat)} {i f : Nat} {ks : List Int} (hf : f + ks.length = S.length) (ht : topsI (S.drop f) = ks) (hd : dep (S.drop f) ≠ 64) : stepT S i ks = some (S.take f ++ [(i, dep (S.drop f) + 1)]) := by
  have ef : S.length - ks.length = f := by omega
  rw [stepT, if_neg (by omega), ef, if_neg (by simp [ht]), if_neg hd]

/-- the kids so far are the tops -/
def sofar (S : List (Nat × Nat)) (f : Nat) (ks : List Int) (j : Nat) : Prop := topsI ((S.drop f).take j) = ks.take j

theorem sofar_zero (S : List (Nat × Nat)) (f : Nat) (ks : List Int) : sofar S f ks 0 := by simp [sofar, topsI]

theorem drop_take_succ (S : List (Nat × Nat)) (f j : Nat) (h : f + j < S.length) : (S.drop f).take (j + 1) = (S.drop f).take j ++ [S[f + j]] := by
  have hl : j < (S.drop f).length := by rw [List.length_drop]; omega
  rw [List.take_succ_eq_append_getElem hl, List.getElem_drop]

theorem sofar_succ {S : List (Nat × Nat)} {f j : Nat} {ks : List Int} (hj : j < ks.length) (hS : f + j < S.length) (h : sofar S f ks j) (e : (S[f + j].1 : Int) = ks[j]) : sofar S f ks (j + 1) := by
  rw [sofar, drop_take_succ S f j hS, List.take_succ_eq_append_getElem hj, ← e]
  rw [sofar] at h
  rw [← h]
  simp [topsI]

theorem sofar_all {S : List (Nat × Nat)} {f : Nat} {ks : List Int} (hf : f + ks.length = S.length) (h : sofar S f ks ks.length) : topsI (S.drop f) = ks := by
  rw [sofar, List.take_of_length_le (by rw [List.length_drop]; omega), List.take_of_length_le (Nat.le_refl _)] at h
  exact h

/-- a row that is owned, shorter -/
theorem ownsRow_short {w : World} {base : Nat} {e : TypeId} {size : Nat} {x : Option Addr} {n m c : Nat} {xs : List Value} (h : w.ownsRow base e size (.slice x n c) n xs) (hm : m ≤ n) : w.ownsRow base e size (.slice x m c) m (xs.take (m * size)) := by
  have hl : m * size ≤ n * size := Nat.mul_le_mul_right _ hm
  refine ⟨by rw [List.length_take, h.1]; omega, ?_⟩
  rcases h.2 with ⟨hv, hn⟩ | ⟨g, cap, cur, hv, h1, h2, h3, h4, h5, h6⟩
  · cases hv
    exact .inl ⟨by rw [show m = 0 by omega], by omega⟩
  · cases hv
    refine .inr ⟨g, c, cur, rfl, h1, h2, by omega, h4, h5, ?_⟩
    rw [← h6, List.take_take]
    congr 1
    omega

theorem ownsRow_below {w w' : World} {base : Nat} {e : TypeId} {size : Nat} {v : Value} {n B : Nat} {xs : List Value} (h : w.ownsRow base e size v n xs) (hb : Below B w w') (hB : w.heap.size ≤ B) : w'.ownsRow base e size v n xs := by
  refine ⟨h.1, ?_⟩
  rcases h.2 with hn | ⟨g, cap, cur, hv, h1, h2, h3⟩
  · exact .inl hn
  · exact .inr ⟨g, cap, cur, hv, h1, (hb.block g (Nat.lt_of_lt_of_le (Array.getElem?_eq_some_iff.1 h2).1 hB)).trans h2, h3⟩

theorem owns_form2 {w : World} {base e size n : Nat} {v : Value} {xs : List Value} (h : w.ownsRow base e size v n xs) : ∃ x c, v = .slice x n c ∧ (0 < n → ∃ g, x = some ⟨g, 0, none⟩ ∧ base ≤ g ∧ ∀ j u, xs[j]? = some u → w.cell? ⟨g, j, none⟩ = some u) := by
  rcases h.2 with ⟨rfl, rfl⟩ | ⟨g, cap, cur, rfl, hb, _⟩
  · exact ⟨_, _, rfl, fun h => absurd h (by omega)⟩
  · refine ⟨_, _, rfl, fun _ => ⟨g, rfl, hb, fun j u hu => ?_⟩⟩
    have := h.cells (g := g) rfl j u hu
    have hadd : (⟨g, 0, none⟩ : Addr).add j = ⟨g, j, none⟩ := by unfold Addr.add; split <;> simp_all
    rwa [hadd] at this

end Go.Proofs.YtbdplgelkgngmaaGreatDoor

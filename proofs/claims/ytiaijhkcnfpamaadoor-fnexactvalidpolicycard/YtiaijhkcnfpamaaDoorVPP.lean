/-
  Nodes in post-order: told by a stack, and by a walk. Own work.
-/
import Derived.Test.YtiaijhkcnfpamaaDoorHid
namespace Go.Proofs.YtiaijhkcnfpamaaDoor
open Go.RowKit
set_option linter.unusedVariables false

/-- the greatest depth -/
def dep : List (Nat × Nat) → Nat
  | [] => 0
  | p :: ps => max p.2 (dep ps)

theorem dep_le {ks : List (Nat × Nat)} {p : Nat × Nat} (h : p ∈ ks) : p.2 ≤ dep ks := by
  induction ks with
  | nil => cases h
  | cons q qs ih =>
    rw [dep]
    rcases List.mem_cons.1 h with e | e
    · subst e; omega
    · have := ih e; omega

def topsI (ks : List (Nat × Nat)) : List Int := ks.map fun p => (p.1 : Int)

/-- Trees side by side, in post-order: from a place on, each with its top and depth, up to a place (K: the kids of each node). -/
inductive Forest (K : List (List Int)) : Nat → List (Nat × Nat) → Nat → Prop
  | nil (a : Nat) : Forest K a [] a
  | cons {a t b : Nat} {ks fs : List (Nat × Nat)} (hk : Forest K a ks t) (ht : K[t]? = some (topsI ks)) (hf : Forest K (t + 1) fs b) : Forest K a ((t, dep ks + 1) :: fs) b

theorem Forest.le {K : List (List Int)} {a b : Nat} {fs : List (Nat × Nat)} (h : Forest K a fs b) : a ≤ b := by
  induction h with
  | nil a => exact Nat.le_refl _
  | cons hk ht hf i1 i2 => omega

theorem Forest.lt {K : List (List Int)} {a b : Nat} {fs : List (Nat × Nat)} (h : Forest K a fs b) : ∀ p ∈ fs, a ≤ p.1 ∧ p.1 < b := by
  induction h with
  | nil a => intro p hp; cases hp
  | cons hk ht hf i1 i2 =>
    intro p hp
    have h1 := hk.le
    have h2 := hf.le
    rcases List.mem_cons.1 hp with e | e
    · subst e; exact ⟨h1, by show _ < _; omega⟩
    · have := i2 p e; omega

theorem Forest.join {K : List (List Int)} {a b c : Nat} {fs gs : List (Nat × Nat)} (h : Forest K a fs b) (k : Forest K b gs c) : Forest K a (fs ++ gs) c := by
  induction h with
  | nil a => exact k
  | cons hk ht hf i1 i2 => exact .cons hk ht (i2 k)

theorem Forest.split {K : List (List Int)} : ∀ {fs gs : List (Nat × Nat)} {a c : Nat}, Forest K a (fs ++ gs) c → ∃ b, Forest K a fs b ∧ Forest K b gs c
  | [], gs, a, c, h => ⟨a, .nil a, h⟩
  | p :: fs, gs, a, c, h => by
    cases h with
    | cons hk ht hf =>
      obtain ⟨b, h1, h2⟩ := Forest.split hf
      exact ⟨b, .cons hk ht h1, h2⟩

/-- one node more on the stack -/
def stepT (S : List (Nat × Nat)) (i : Nat) (ks : List Int) : Option (List (Nat × Nat)) :=
  if S.length < ks.length then none
  else if topsI (S.drop (S.length - ks.length)) ≠ ks then none
  else if dep (S.drop (S.length - ks.length)) = 64 then none
  else some (S.take (S.length - ks.length) ++ [(i, dep (S.drop (S.length - ks.length)) + 1)])

/-- the stack behind so many nodes more -/
def runT (K : List (List Int)) : Nat → List (Nat × Nat) → Nat → Option (List (Nat × Nat))
  | 0, S, _ => some S
  | n + 1, S, i => match K[i]? with
    | none => none
    | some ks => match stepT S i ks with
      | none => none
      | some S' => runT K n S' (i + 1)

theorem runT_add (K : List (List Int)) : ∀ (m n : Nat) (S : List (Nat × Nat)) (i : Nat), runT K (m + n) S i = (runT K m S i).bind fun S' => runT K n S' (i + m)
  | 0, n, S, i => by simp [runT]
  | m + 1, n, S, i => by
    rw [show m + 1 + n = (m + n) + 1 by omega, runT, runT]
    cases K[i]? with
    | none => rfl
    | some ks =>
      dsimp only
      cases stepT S i ks with
      | none => rfl
      | some S' =>
        dsimp only
        rw [runT_add K m n S' (i + 1), show i + 1 + m = i + (m + 1) by omega]

theorem topsI_len (ks : List (Nat × Nat)) : (topsI ks).length = ks.length := by simp [topsI]

theorem stepT_hit (S ks : List (Nat × Nat)) (i : Nat) (h : dep ks + 1 ≤ 64) : stepT (S ++ ks) i (topsI ks) = some (S ++ [(i, dep ks + 1)]) := by
  have e : (S ++ ks).length - (topsI ks).length = S.length := by rw [topsI_len, List.length_append]; omega
  rw [stepT, if_neg (by rw [topsI_len, List.length_append]; omega), e, List.drop_left, if_neg (by simp), if_neg (by omega), List.take_left]

theorem stepT_of {S S' : List (Nat × Nat)} {i : Nat} {ks : List Int} (h : stepT S i ks = some S') : ∃ A B, S = A ++ B ∧ topsI B = ks ∧ dep B ≠ 64 ∧ S' = A ++ [(i, dep B + 1)] := by
  rw [stepT] at h
  split at h
  · cases h
  · split at h
    · cases h
    · split at h
      · cases h
      · rename_i h1 h2 h3
        rw [ne_eq, Decidable.not_not] at h2
        exact ⟨_, _, (List.take_append_drop (S.length - ks.length) S).symm, h2, h3, (Option.some.inj h).symm⟩

/-- trees that are not too deep are found on the stack -/
theorem runT_forest {K : List (List Int)} {a b : Nat} {fs : List (Nat × Nat)} (h : Forest K a fs b) : ∀ (S : List (Nat × Nat)), (∀ p ∈ fs, p.2 ≤ 64) → runT K (b - a) S a = some (S ++ fs) := by
  induction h with
  | nil a => intro S _; simp [runT]
  | @cons a t b ks fs hk ht hf i1 i2 =>
    intro S hd
    have h1 := hk.le
    have h2 := hf.le
    have hdk : dep ks + 1 ≤ 64 := hd _ (List.mem_cons_self ..)
    rw [show b - a = (t - a) + (1 + (b - (t + 1))) by omega, runT_add, i1 S (fun p hp => by have := dep_le hp; omega), Option.bind_some, show a + (t - a) = t by omega, runT_add]
    have e1 : runT K 1 (S ++ ks) t = some (S ++ [(t, dep ks + 1)]) := by
      rw [runT, ht]
      dsimp only
      rw [stepT_hit S ks t hdk]
      rfl
    rw [e1, Option.bind_some, i2 _ (fun p hp => hd p (List.mem_cons_of_mem _ hp)), List.append_assoc]
    rfl

/-- what lies on the stack are trees that are not too deep -/
theorem forest_runT {K : List (List Int)} : ∀ (n : Nat) {S S' : List (Nat × Nat)} {i : Nat}, Forest K 0 S i → (∀ p ∈ S, p.2 ≤ 64) → runT K n S i = some S' → Forest K 0 S' (i + n) ∧ ∀ p ∈ S', p.2 ≤ 64
  | 0, S, S', i, h, hd, hr => by
    rw [runT] at hr
    obtain rfl := Option.some.inj hr
    exact ⟨h, hd⟩
  | n + 1, S, S', i, h, hd, hr => by
    rw [runT] at hr
    cases hK : K[i]? with
    | none => rw [hK] at hr; cases hr
    | some ks =>
      rw [hK] at hr
      dsimp only at hr
      cases hs : stepT S i ks with
      | none => rw [hs] at hr; cases hr
      | some S1 =>
        rw [hs] at hr
        dsimp only at hr
        obtain ⟨A, B, rfl, hB, h64, rfl⟩ := stepT_of hs
        obtain ⟨m, f1, f2⟩ := h.split
        have f3 : Forest K 0 (A ++ [(i, dep B + 1)]) (i + 1) := f1.join (.cons f2 (by rw [hK, hB]) (.nil _))
        have hdB : dep B ≤ 64 := by
          have : ∀ (L : List (Nat × Nat)), (∀ p ∈ L, p.2 ≤ 64) → dep L ≤ 64 := by
            intro L
            induction L with
            | nil => intro _; simp [dep]
            | cons q qs ih =>
              intro hq
              have h1 := hq q (List.mem_cons_self ..)
              have h2 := ih (fun p hp => hq p (List.mem_cons_of_mem _ hp))
              rw [dep]; omega
          exact this B (fun p hp => hd p (List.mem_append_right _ hp))
        have hd1 : ∀ p ∈ A ++ [(i, dep B + 1)], p.2 ≤ 64 := fun p hp => by
          rcases List.mem_append.1 hp with k | k
          · exact hd p (List.mem_append_left _ k)
          · rw [List.mem_singleton.1 k]; show dep B + 1 ≤ 64; omega
        have := forest_runT n f3 hd1 hr
        rw [show i + (n + 1) = i + 1 + n by omega]
        exact this

end Go.Proofs.YtiaijhkcnfpamaaDoor

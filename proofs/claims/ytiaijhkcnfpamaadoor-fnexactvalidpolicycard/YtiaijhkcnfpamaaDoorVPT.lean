/-
  Plain facts on the model's look at a policy. Own work.
-/
import Derived.Test.YtiaijhkcnfpamaaDoorVPN
import Derived.Test.YtiaijhkcnfpamaaDoorVPO
namespace Go.Proofs.YtiaijhkcnfpamaaDoor
open Go.RowKit
set_option linter.unusedVariables false

def stAtS (L : List St) (j : Nat) (h : j < L.length) : Bool := stmtS (decide (j + 1 = L.length)) L[j]

theorem stmtsS_iff : ∀ (L : List St), stmtsS L = true ↔ ∀ j, (h : j < L.length) → stAtS L j h = true
  | [] => by simp [stmtsS]
  | s :: r => by
    rw [stmtsS, Bool.and_eq_true, stmtsS_iff r]
    have e : r.isEmpty = decide (0 + 1 = (s :: r).length) := by cases r <;> simp
    constructor
    · rintro ⟨h1, h2⟩ j hj
      cases j with
      | zero => rw [e] at h1; exact h1
      | succ j =>
        have := h2 j (by simpa using hj)
        rw [stAtS] at this ⊢
        simp only [List.getElem_cons_succ, List.length_cons] at this ⊢
        rw [show decide (j + 1 + 1 = r.length + 1) = decide (j + 1 = r.length) by rw [decide_eq_decide]; omega]
        exact this
    · intro h
      refine ⟨by rw [e]; exact h 0 (by simp), fun j hj => ?_⟩
      have := h (j + 1) (by simpa using hj)
      rw [stAtS] at this ⊢
      simp only [List.getElem_cons_succ, List.length_cons] at this
      rw [show decide (j + 1 + 1 = r.length + 1) = decide (j + 1 = r.length) by rw [decide_eq_decide]; omega] at this
      exact this

theorem roots_succ (L : List St) (k : Nat) (h : k < L.length) : (L.take (k + 1)).flatMap rootsOf = (L.take k).flatMap rootsOf ++ rootsOf L[k] := by
  rw [List.take_succ_eq_append_getElem h, List.flatMap_append]
  simp

theorem roots_len : ∀ (L : List St), (L.flatMap rootsOf).length ≤ 2 * L.length
  | [] => by simp
  | s :: r => by
    have := roots_len r
    have h1 : (rootsOf s).length ≤ 2 := by unfold rootsOf; split <;> split <;> simp
    rw [List.flatMap_cons, List.length_append, List.length_cons]
    omega

/-- the order that the walks over these tops give -/
def ordF (K : List (List Int)) (n : Nat) (rs : List Int) : List Int := rs.foldl (fun o r => walkF K n r o) []

theorem ordF_append (K : List (List Int)) (n : Nat) (rs qs : List Int) : ordF K n (rs ++ qs) = qs.foldl (fun o r => walkF K n r o) (ordF K n rs) := by rw [ordF, List.foldl_append, ordF]

theorem ordF_len {K : List (List Int)} {n : Nat} (hK : K.length = n) (h3 : ∀ ks ∈ K, ks.length ≤ 3) : ∀ (rs O : List Int), (rs.foldl (fun o r => walkF K n r o) O).length ≤ max O.length (4 * n) + rs.length
  | [], O => by simp; omega
  | r :: rs, O => by
    rw [List.foldl_cons]
    have h1 := ordF_len hK h3 rs (walkF K n r O)
    have h2 := walkF_len h3 n r O
    rw [hK] at h2
    rw [List.length_cons]
    omega

theorem kids_three {N : List Nd} (h : N.all fieldsB = true) : ∀ ks ∈ N.map Nd.kids, ks.length ≤ 3 := by
  intro ks hk
  obtain ⟨x, hx, rfl⟩ := List.mem_map.1 hk
  have := List.all_eq_true.1 h x hx
  rw [fieldsB_wf, Bool.and_eq_true] at this
  have h1 := of_decide_eq_true this.1
  unfold kidN at h1
  split at h1
  · omega
  · split at h1
    · omega
    · split at h1
      · omega
      · split at h1 <;> omega

theorem Forest.kids {K : List (List Int)} {a b : Nat} {fs : List (Nat × Nat)} (h : Forest K a fs b) : ∀ j, a ≤ j → j < b → ∃ ks, K[j]? = some (topsI ks) ∧ ∀ p ∈ ks, p.1 < j := by
  induction h with
  | nil a => intro j h1 h2; omega
  | cons hk ht hf i1 i2 =>
    rename_i a t b ks fs
    intro j h1 h2
    rcases Nat.lt_trichotomy j t with e | e | e
    · exact i1 j h1 e
    · subst e; exact ⟨ks, ht, fun p hp => (hk.lt p hp).2⟩
    · exact i2 j (by omega) h2

/-- where the walks give all nodes in order, all kids stand ahead -/
theorem kids_ahead {N : List Nd} {n : Nat} {rs : List Int} (hn : N.length = n) (hl : (ordF (N.map Nd.kids) n rs).length = n) (hg : good (ordF (N.map Nd.kids) n rs)) :
    (∀ t, (h : t < N.length) → ∀ y ∈ N[t].kids, 0 ≤ y ∧ y < (t : Int)) ∧ ∀ r ∈ rs, 0 ≤ r ∧ r < (n : Int) := by
  obtain ⟨fs, e1, hf⟩ := roots_good (K := N.map Nd.kids) (n := n) rs [] hg
  have hf' : Forest (N.map Nd.kids) 0 fs n := by
    have : (rs.foldl (fun o k => walkF (N.map Nd.kids) n k o) []).length = n := hl
    rw [this] at hf
    exact hf
  constructor
  · intro t h y hy
    obtain ⟨ks, h1, h2⟩ := hf'.kids t (Nat.zero_le _) (by omega)
    rw [List.getElem?_map, List.getElem?_eq_getElem h] at h1
    have h3 : N[t].kids = topsI ks := by simpa using h1
    rw [h3] at hy
    obtain ⟨p, hp, rfl⟩ := List.mem_map.1 hy
    have := h2 p hp
    omega
  · intro r hr
    rw [← e1] at hr
    obtain ⟨p, hp, rfl⟩ := List.mem_map.1 hr
    have := hf'.lt p hp
    omega

end Go.Proofs.YtiaijhkcnfpamaaDoor

/-
  The model's verifier, whole. Own work.
-/
import Derived.Test.YteefbljehlepjaaDoorYS0
namespace Go.Proofs.YteefbljehlepjaaDoor
open Go.RowKit Go.Lib
set_option linter.unusedVariables false

/-- what holds of each state that is known -/
def Sok (S : Nat) (s : Vs) : Prop := s.stack.length ≤ 100 ∧ s.slots.length = S ∧ (∀ x ∈ s.stack, 1 ≤ x) ∧ ∀ x ∈ s.slots, 0 ≤ x

theorem behindV_ok {PK : List Int} {S : Nat} {i : Is1} {s : Vs} (hpk : ∀ x ∈ PK, 1 ≤ x) (h0 : 1 ≤ i.op) (h1 : i.op ≤ 25) (hp : popV i.op ≤ s.stack.length) (ht : takesV i s = true) (hs : Sok S s) : (∀ x ∈ (behindV PK i s).stack, 1 ≤ x) ∧ ∀ x ∈ (behindV PK i s).slots, 0 ≤ x := by
  obtain ⟨_, _, h3, h4⟩ := hs
  have hn : 0 ≤ pushV PK i s := by
    have := takes_push PK i s.stack s.slots h0 h1 ht
    rw [show (⟨s.stack, s.slots⟩ : Vs) = s from rfl] at this
    rw [← this]
    exact takesM_nonneg PK i s.slots hpk h4
  unfold behindV
  split
  · rename_i e
    rw [e] at hp
    have hl : 1 ≤ s.stack.length := hp
    refine ⟨fun x hx => h3 x (List.mem_of_mem_take hx), fun x hx => ?_⟩
    rcases List.mem_or_eq_of_mem_set hx with h | h
    · exact h4 x h
    · subst h
      have := top_pos s.stack hl h3
      omega
  split
  · exact ⟨fun x hx => h3 x (List.mem_of_mem_take hx), h4⟩
  · refine ⟨fun x hx => ?_, h4⟩
    simp only [List.mem_append, List.mem_singleton] at hx
    rcases hx with h | h
    · exact h3 x (List.mem_of_mem_take h)
    · subst h; omega

theorem stepV_ok {PK : List Int} {S M k : Nat} {i : Is1} {s : Vs} (hpk : ∀ x ∈ PK, 1 ≤ x) (h0 : 1 ≤ i.op) (h1 : i.op ≤ 25) (hs : Sok S s) (h : (stepV PK S M k i s).1 = 0) : Sok S (stepV PK S M k i s).2 := by
  have hh := stepV_height h
  have hl : (stepV PK S M k i s).2.slots.length = S := by rw [stepV_slots]; exact hs.2.1
  unfold stepV at h hh hl ⊢
  split at h
  · cases h
  split at h
  · cases h
  split at h
  · cases h
  split at h
  · cases h
  split at h
  · cases h
  rename_i a1 a2 a3 a4 a5
  rw [if_neg a1, if_neg a2, if_neg a3, if_neg a4, if_neg a5] at hh hl ⊢
  have hb := behindV_ok (PK := PK) (i := i) hpk h0 h1 (by omega) (by simpa using a3) hs
  exact ⟨hh, hl, hb.1, hb.2⟩

/-- where it goes on lies behind, and only the first place may be the end -/
theorem next_tail {np S m k : Nat} {i : Is1} (h : rangeV np S m k i = true) (hk : k < m) (h0 : 0 ≤ i.arg) : (∀ x ∈ nextV k i, k < x) ∧ ∀ x ∈ (nextV k i).tail, x < m := by
  obtain ⟨op, arg⟩ := i
  simp only at h0
  unfold rangeV at h
  unfold nextV
  simp only at h ⊢
  by_cases e1 : op = 24 ∨ op = 25
  · rw [if_pos e1]; simp
  rw [if_neg e1]
  by_cases e2 : op = 22
  · subst e2
    simp at h ⊢
    omega
  rw [if_neg e2]
  by_cases e3 : op = 23
  · subst e3
    simp at h ⊢
    omega
  rw [if_neg e3]
  simp

/-- a place's three cells -/
def CellOk (w : World) (lo : Nat) (cs : Array Value) (j : Nat) : Option Vs → Prop
  | none => ∃ x1 n1 c1 x2 n2 c2, cs[j * 3]? = some (.bool false) ∧ cs[j * 3 + 1]? = some (.slice x1 n1 c1) ∧ cs[j * 3 + 2]? = some (.slice x2 n2 c2)
  | some s => ∃ x c y d, cs[j * 3]? = some (.bool true) ∧ cs[j * 3 + 1]? = some (.slice x s.stack.length c) ∧ cs[j * 3 + 2]? = some (.slice y s.slots.length d) ∧ Lt w x y s.stack.length c s.slots.length d s ∧ (∀ ad, x = some ad → lo ≤ ad.block) ∧ ∀ ad, y = some ad → lo ≤ ad.block

/-- the model's states from a place on -/
structure Ks (w : World) (lo sb m k : Nat) (K : List (Option Vs)) (cs : Array Value) : Prop where
  row : Row w sb cs 42
  size : cs.size = m * 3
  low : sb < lo
  loc : ∀ j, k ≤ j → j < m → CellOk w lo cs j (K.getD j none)

theorem Lt.far {w : World} {ta tb : Option Addr} {tn tc tm td lo : Nat} {s : Vs} (h : Lt w ta tb tn tc tm td s) (ha : ∀ ad, ta = some ad → lo ≤ ad.block) (hb : ∀ ad, tb = some ad → lo ≤ ad.block) (p : Addr) (v : Value) (hp : p.block < lo) : Lt (w.setCell p v) ta tb tn tc tm td s := ⟨h.st.far ha p v hp, h.sl.far hb p v hp, h.n1, h.n2⟩

theorem CellOk.below {w w' : World} {lo B j : Nat} {cs : Array Value} {o : Option Vs} (h : CellOk w lo cs j o) (hb : Below B w w') (hB : w.heap.size ≤ B) : CellOk w' lo cs j o := by
  cases o with
  | none => exact h
  | some s =>
    obtain ⟨x, c, y, d, h1, h2, h3, h4, h5⟩ := h
    exact ⟨x, c, y, d, h1, h2, h3, h4.below hb hB, h5⟩

theorem Ks.below {w w' : World} {lo sb m k B : Nat} {K : List (Option Vs)} {cs : Array Value} (h : Ks w lo sb m k K cs) (hb : Below B w w') (hB : w.heap.size ≤ B) : Ks w' lo sb m k K cs :=
  ⟨h.row.after hb hB, h.size, h.low, fun j h1 h2 => (h.loc j h1 h2).below hb hB⟩

def put3 (w : World) (b o : Nat) (x y z : Value) : World := ((w.setCell ⟨b, o, none⟩ x).setCell ⟨b, o + 1, none⟩ y).setCell ⟨b, o + 2, none⟩ z

theorem cells3 (cs : Array Value) (j i : Nat) (x y z : Value) (h : j * 3 + 3 ≤ cs.size) : (((cs.setIfInBounds (j * 3) x).setIfInBounds (j * 3 + 1) y).setIfInBounds (j * 3 + 2) z)[i]? = if i = j * 3 then some x else if i = j * 3 + 1 then some y else if i = j * 3 + 2 then some z else cs[i]? := by
  simp only [Array.getElem?_setIfInBounds, Array.size_setIfInBounds]
  by_cases h2 : j * 3 + 2 = i
  · subst h2; simp; omega
  · rw [if_neg h2]
    by_cases h1 : j * 3 + 1 = i
    · subst h1; simp; omega
    · rw [if_neg h1]
      by_cases h0 : j * 3 = i
      · subst h0; simp; omega
      · rw [if_neg h0, if_neg (fun e => h0 e.symm), if_neg (fun e => h1 e.symm), if_neg (fun e => h2 e.symm)]

/-- a place is laid anew -/
theorem Ks.put {w : World} {lo sb m k : Nat} {K : List (Option Vs)} {cs : Array Value} (h : Ks w lo sb m k K cs) (n : Nat) (hn : n < m) (x y z : Value) (K' : List (Option Vs)) (k' : Nat) (hk : k ≤ k') (hK : ∀ j, k' ≤ j → j < m → j ≠ n → K'.getD j none = K.getD j none)
    (hc : k' ≤ n → CellOk (put3 w sb (n * 3) x y z) lo (((cs.setIfInBounds (n * 3) x).setIfInBounds (n * 3 + 1) y).setIfInBounds (n * 3 + 2) z) n (K'.getD n none)) :
    Ks (put3 w sb (n * 3) x y z) lo sb m k' K' (((cs.setIfInBounds (n * 3) x).setIfInBounds (n * 3 + 1) y).setIfInBounds (n * 3 + 2) z) where
  row := ((h.row.set (n * 3) x).set (n * 3 + 1) y).set (n * 3 + 2) z
  size := by simp [h.size]
  low := h.low
  loc := fun j h1 h2 => by
    by_cases e : j = n
    · subst e; exact hc h1
    · rw [hK j h1 h2 e]
      have hs : n * 3 + 3 ≤ cs.size := by rw [h.size]; omega
      have c0 := cells3 cs n (j * 3) x y z hs
      have c1 := cells3 cs n (j * 3 + 1) x y z hs
      have c2 := cells3 cs n (j * 3 + 2) x y z hs
      rw [if_neg (by omega), if_neg (by omega), if_neg (by omega)] at c0 c1 c2
      have ho := h.loc j (by omega) h2
      cases hg : K.getD j none with
      | none =>
        rw [hg] at ho
        obtain ⟨x1, n1, d1, x2, n2, d2, a0, a1, a2⟩ := ho
        exact ⟨x1, n1, d1, x2, n2, d2, c0.trans a0, c1.trans a1, c2.trans a2⟩
      | some s =>
        rw [hg] at ho
        obtain ⟨x', c', y', d', a0, a1, a2, a3, a4, a5⟩ := ho
        exact ⟨x', c', y', d', c0.trans a0, c1.trans a1, c2.trans a2, ((a3.far a4 a5 _ _ h.low).far a4 a5 _ _ h.low).far a4 a5 _ _ h.low, a4, a5⟩

theorem Row.cells3 {w : World} {b : Nat} {cs : Array Value} {t : TypeId} (R : Row w b cs t) (j : Nat) (x y z : Value) (h0 : cs[j * 3]? = some x) (h1 : cs[j * 3 + 1]? = some y) (h2 : cs[j * 3 + 2]? = some z) : w.cell? ⟨b, j * 3, none⟩ = some x ∧ w.cell? ⟨b, j * 3 + 1, none⟩ = some y ∧ w.cell? ⟨b, j * 3 + 2, none⟩ = some z := ⟨(R.cell _).trans h0, (R.cell _).trans h1, (R.cell _).trans h2⟩


end Go.Proofs.YteefbljehlepjaaDoor

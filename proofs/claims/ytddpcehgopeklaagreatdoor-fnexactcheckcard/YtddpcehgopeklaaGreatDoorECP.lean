/-
  The statements of a written policy with their trees. Own work.
-/
import Derived.Test.YtddpcehgopeklaaGreatDoorECI
import Derived.Test.YtddpcehgopeklaaGreatDoorMXAZ
import Derived.Test.YtddpcehgopeklaaGreatDoorMXBJ
namespace Go.Proofs.YtddpcehgopeklaaGreatDoor
open Go.RowKit
set_option linter.unusedVariables false

theorem written_of_fit {w : World} : ∀ (e : Ex), e.fit w → e.written
  | .int .., _ => trivial
  | .text .., _ => trivial
  | .bool .., _ => trivial
  | .set .., _ => trivial
  | .name .., _ => trivial
  | .attr .., h => h
  | .lett .., h => h
  | .un _ _ k, h => ⟨h.1, written_of_fit k h.2⟩
  | .bin _ _ l r, h => ⟨h.1, written_of_fit l h.2.1, written_of_fit r h.2.2⟩
  | .ite _ c t e, h => ⟨written_of_fit c h.1, written_of_fit t h.2.1, written_of_fit e h.2.2⟩

theorem sok_of_fit {w : World} : ∀ (e : Ex), e.fit w → e.sok w
  | .int .., _ => trivial
  | .text .., _ => trivial
  | .bool .., _ => trivial
  | .set .., h => ⟨h.1, by have := h.1.len; have := h.2.1; omega⟩
  | .name .., _ => trivial
  | .attr .., h => trivial
  | .lett .., h => trivial
  | .un _ _ k, h => sok_of_fit k h.2
  | .bin _ _ l r, h => ⟨sok_of_fit l h.2.1, sok_of_fit r h.2.2⟩
  | .ite _ c t e, h => ⟨sok_of_fit c h.1, sok_of_fit t h.2.1, sok_of_fit e h.2.2⟩

/-- the tree at a place -/
def optE (Es : List Ex) (k : Int) : Option Ex := if k = -1 then none else Es[k.toNat]?

/-- the statements with their trees -/
def sxL (Es : List Ex) : Nat → List St → List Sx
  | _, [] => []
  | i, s :: L => ⟨i, s.kind, s.name, optE Es s.cond, optE Es s.grant⟩ :: sxL Es (i + 1) L

theorem optV_eq (Es : List Ex) (k : Int) : optV Es k = optX (optE Es k) := by
  unfold optV optE
  split
  · rfl
  · cases Es[k.toNat]? <;> rfl

theorem stC_eq (Es : List Ex) : ∀ (L : List St) (i : Nat), stC Es i L = sxC (sxL Es i L)
  | [], i => rfl
  | s :: L, i => by
    rw [stC, sxL, stC_eq Es L (i + 1), sxC, sxC, List.flatMap_cons]
    congr 1
    rw [stmV, sxV, optV_eq, optV_eq]

theorem sxL_len (Es : List Ex) : ∀ (L : List St) (i : Nat), (sxL Es i L).length = L.length
  | [], i => rfl
  | s :: L, i => by rw [sxL, List.length_cons, sxL_len Es L (i + 1), List.length_cons]

theorem cntO_at (Es : List Ex) (k : Int) : cntO (optE Es k) = cntP Es k := by
  unfold optE cntP
  split
  · rfl
  · cases Es[k.toNat]? <;> rfl

theorem cntX_eq (Es : List Ex) : ∀ (L : List St) (i : Nat), cntX (sxL Es i L) = cntL Es L
  | [], i => rfl
  | s :: L, i => by
    rw [sxL, cntX_cons, cntX_eq Es L (i + 1), cntO_at, cntO_at]
    simp [cntL]

theorem sxL_mem {Es : List Ex} : ∀ {L : List St} {i : Nat} {x : Sx}, x ∈ sxL Es i L → ∃ s ∈ L, x.cond = optE Es s.cond ∧ x.grant = optE Es s.grant ∧ x.kind = s.kind ∧ x.name = s.name
  | s :: L, i, x, h => by
    rw [sxL, List.mem_cons] at h
    rcases h with rfl | h
    · exact ⟨s, List.mem_cons_self .., rfl, rfl, rfl, rfl⟩
    · obtain ⟨s', h1, h2⟩ := sxL_mem h
      exact ⟨s', List.mem_cons_of_mem _ h1, h2⟩
  | [], _, _, h => by cases h

theorem optE_all {Es : List Ex} {P : Ex → Prop} (h : ∀ e ∈ Es, P e) (k : Int) : match optE Es k with | none => True | some e => P e := by
  unfold optE
  split
  · rename_i hn
    split at hn
    · trivial
    · trivial
  · rename_i e hn
    split at hn
    · cases hn
    · exact h e (List.mem_of_getElem? hn)

theorem okO_of {Es : List Ex} {w : World} (h : ∀ e ∈ Es, e.fit w) (k : Int) : okO (optE Es k) ∧ sokO w (optE Es k) := by
  have := optE_all h k
  cases ho : optE Es k with
  | none => exact ⟨trivial, trivial⟩
  | some e => rw [ho] at this; exact ⟨written_of_fit e this, sok_of_fit e this⟩

theorem cntL_askedI (Es : List Ex) : ∀ (L : List St), (∀ s ∈ L, cntP Es s.cond + cntP Es s.grant = ((askedOf s).map (cntP Es)).sum) → cntL Es L = ((L.flatMap askedOf).map (cntP Es)).sum
  | [], _ => rfl
  | s :: L, h => by
    have ih := cntL_askedI Es L (fun x hx => h x (List.mem_cons_of_mem _ hx))
    have h1 := h s (List.mem_cons_self ..)
    have e : cntL Es (s :: L) = cntP Es s.cond + cntP Es s.grant + cntL Es L := by simp [cntL]
    rw [e, h1, ih, List.flatMap_cons, List.map_append, List.sum_append]

theorem cntL_leI {N : List Nd} {L : List St} (h : wellI N L = true) {Es : List Ex} (hl : Es.length = N.length) (hE : ∀ j, (h : j < Es.length) → IsT N j Es[j]) : cntL Es L ≤ 4000 := by
  have W := wellP_of h
  have hn := W.n
  simp only [wellI, Bool.and_eq_true, decide_eq_true_eq] at h
  obtain ⟨⟨⟨h1, ⟨h2, h3⟩, h4⟩, h5⟩, h6⟩ := h
  obtain ⟨S, hr, ht⟩ : ∃ S, runT (N.map Nd.kids) N.length [] 0 = some S ∧ topsI S = L.flatMap askedOf := by
    rw [shapeI] at h6
    cases hq : runT (N.map Nd.kids) N.length [] 0 with
    | none => rw [hq] at h6; cases h6
    | some S => rw [hq] at h6; exact ⟨S, rfl, of_decide_eq_true h6⟩
  obtain ⟨hF, _⟩ := forest_runT N.length (.nil 0) (fun p hp => (by cases hp)) hr
  rw [Nat.zero_add] at hF
  have e1 : ∀ s ∈ L, cntP Es s.cond + cntP Es s.grant = ((askedOf s).map (cntP Es)).sum := fun s hs => by
    have c0 : cntP Es (-1) = 0 := rfl
    have gr : cntP Es s.grant = ((if s.grant ≠ -1 then [s.grant] else []).map (cntP Es)).sum := by
      by_cases g : s.grant = -1
      · rw [if_neg (fun k => k g), g]; rfl
      · rw [if_pos g]; simp
    rw [askedOf, List.map_append, List.sum_append, ← gr]
    congr 1
    by_cases k3 : s.kind = 3
    · rw [if_neg (fun k => k k3)]
      rcases W.stm s hs with q | q | q
      · omega
      · omega
      · rw [q.2]; rfl
    · rw [if_pos k3]; simp
  rw [cntL_askedI Es L e1, ← ht]
  have hlt : ∀ q ∈ S, q.1 < Es.length := fun q hq => by rw [hl]; exact (hF.lt q hq).2
  have key := forest_cnt hF (S.attach.map (fun q => Es[q.1.1]'(hlt q.1 q.2))) (by simp) (fun j h1 h2 => by
    have := hE (S[j]).1 (hlt _ (List.getElem_mem h1))
    simpa using this)
  have e2 : (topsI S).map (cntP Es) = (S.attach.map (fun q => Es[q.1.1]'(hlt q.1 q.2))).map Ex.cnt := by
    apply List.ext_getElem
    · simp [topsI]
    · intro j h1 h2
      have hj : j < S.length := by simpa [topsI] using h1
      have hq := hlt S[j] (List.getElem_mem hj)
      simp only [topsI, List.getElem_map, List.getElem_attach]
      exact cntP_at rfl (List.getElem?_eq_getElem hq)
  rw [e2]
  have e3 : ((S.attach.map (fun q => Es[q.1.1]'(hlt q.1 q.2))).map Ex.cnt).sum = cnts (S.attach.map (fun q => Es[q.1.1]'(hlt q.1 q.2))) := rfl
  rw [e3]
  omega

end Go.Proofs.YtddpcehgopeklaaGreatDoor

/-
  A sorted list of byte strings without repetitions. Own work.
-/
import Derived.Test.YtnahfogbemfngaaGreatDoorSorted
import Derived.Test.YtnahfogbemfngaaGreatDoorTL
import Derived.Lib.SlicesCompact
namespace Go.Proofs.YtnahfogbemfngaaGreatDoor
open Go.RowKit Go.Lib

theorem ofL_inj {x y : List UInt8} (h : ofL x = ofL y) : x = y := by rw [← toL_ofL x, h, toL_ofL]

theorem sl_ofL (x y : List UInt8) : sl (ofL x) (ofL y) = true ↔ x < y := by rw [sl_iff]; simp [ofL]

theorem le_ofL (x y : List UInt8) : x ≤ y ↔ sl (ofL y) (ofL x) = false := by
  rw [Bool.eq_false_iff, Ne, sl_ofL]
  exact List.not_lt.symm

theorem le_trans3 {x y z : ByteArray} (h : sl y x = false) (k : sl z y = false) : sl z x = false := by
  rw [Bool.eq_false_iff]
  intro hc
  rcases sl_cases y z with h1 | h1 | h1
  · rw [sl_trans h1 hc] at h; cases h
  · subst h1; rw [hc] at h; cases h
  · rw [h1] at k; cases k

theorem sort_rise (zs : List (List UInt8)) : (zs.mergeSort fun x y => decide (x ≤ y)).Pairwise fun x y => sl (ofL y) (ofL x) = false := by
  have := List.pairwise_mergeSort (le := fun x y : List UInt8 => decide (x ≤ y)) (fun a b c h k => by
    rw [decide_eq_true_eq, le_ofL] at h k ⊢
    exact le_trans3 h k) (fun a b => by
    rw [Bool.or_eq_true, decide_eq_true_eq, decide_eq_true_eq, le_ofL, le_ofL]
    cases h : sl (ofL b) (ofL a) with
    | false => exact .inl rfl
    | true => exact .inr (sl_asymm h)) zs
  exact this.imp fun {a b} h => by rwa [decide_eq_true_eq, le_ofL] at h

theorem compact_to (d : Array (List UInt8)) (hd : ∀ i j, i ≤ j → j < d.size → sl (ofL d[j]!) (ofL d[i]!) = false) :
    ∀ m, m ≤ d.size → risB ((compactUpTo d m).map ofL) = true ∧ ∀ x, x ∈ compactUpTo d m ↔ ∃ j, j < m ∧ d[j]! = x
  | 0, _ => ⟨rfl, fun x => ⟨fun h => by simp [compactUpTo] at h, fun ⟨j, hj, _⟩ => by omega⟩⟩
  | m + 1, hm => by
    obtain ⟨h1, h2⟩ := compact_to d hd m (by omega)
    rw [compactUpTo_succ]
    cases hk : keeps d m with
    | true =>
      rw [if_pos rfl]
      refine ⟨?_, fun x => ?_⟩
      · rw [risB, decide_eq_true_eq] at h1 ⊢
        rw [List.map_append, List.pairwise_append]
        refine ⟨h1, by simp, fun a ha b hb => ?_⟩
        simp only [List.map_cons, List.map_nil, List.mem_singleton] at hb
        subst hb
        obtain ⟨x, hx, rfl⟩ := List.mem_map.1 ha
        obtain ⟨j, hj, rfl⟩ := (h2 x).1 hx
        simp only [keeps, decide_eq_true_eq] at hk
        have hne : d[m]! ≠ d[m - 1]! := by
          rcases hk with hk | hk
          · omega
          · exact hk
        rcases sl_cases (ofL d[j]!) (ofL d[m]!) with h | h | h
        · exact h
        · exfalso
          have a1 := hd j (m - 1) (by omega) (by omega)
          rw [h] at a1
          have a2 := hd (m - 1) m (by omega) (by omega)
          exact hne (ofL_inj (sl_tri _ _ a2 a1))
        · have := hd j m (by omega) (by omega)
          rw [h] at this; cases this
      · rw [List.mem_append, h2, List.mem_singleton]
        constructor
        · rintro (⟨j, hj, e⟩ | e)
          · exact ⟨j, by omega, e⟩
          · exact ⟨m, by omega, e.symm⟩
        · rintro ⟨j, hj, e⟩
          by_cases hjm : j = m
          · subst hjm; exact .inr e.symm
          · exact .inl ⟨j, by omega, e⟩
    | false =>
      rw [if_neg (by simp), List.append_nil]
      refine ⟨h1, fun x => ?_⟩
      rw [h2]
      simp only [keeps, decide_eq_false_iff_not, not_or, Classical.not_not] at hk
      constructor
      · rintro ⟨j, hj, e⟩
        exact ⟨j, by omega, e⟩
      · rintro ⟨j, hj, e⟩
        by_cases hjm : j = m
        · subst hjm; exact ⟨j - 1, by omega, by rw [← hk.2]; exact e⟩
        · exact ⟨j, by omega, e⟩

/-- sorted, and of equal ones one -/
def sortL (ss : List ByteArray) : List (List UInt8) := Lib.compact ((ss.map toL).mergeSort fun x y => decide (x ≤ y))

theorem sortL_sorted (ss : List ByteArray) : IsSorted ss ((sortL ss).map ofL) := by
  unfold sortL Lib.compact
  generalize hz : ((ss.map toL).mergeSort fun x y => decide (x ≤ y)) = zs
  have hr := sort_rise (ss.map toL)
  rw [hz] at hr
  obtain ⟨h1, h2⟩ := compact_to zs.toArray (fun i j hij hj => by
    have hj' : j < zs.length := by simpa using hj
    have hi' : i < zs.length := by omega
    rw [getElem!_pos _ j hj, getElem!_pos _ i (by simpa using hi')]
    simp only [List.getElem_toArray]
    by_cases e : i = j
    · subst e; exact sl_irrefl _
    · exact List.pairwise_iff_getElem.1 hr i j hi' hj' (by omega)) zs.length (by simp)
  refine ⟨h1, fun x => ?_⟩
  rw [List.mem_map]
  have hm : ∀ y, y ∈ zs ↔ y ∈ ss.map toL := fun y => by rw [← hz, List.mem_mergeSort]
  constructor
  · rintro ⟨y, hy, rfl⟩
    obtain ⟨j, hj, e⟩ := (h2 y).1 hy
    rw [getElem!_pos _ j (by simpa using hj)] at e
    simp only [List.getElem_toArray] at e
    have : y ∈ zs := by rw [← e]; exact List.getElem_mem hj
    obtain ⟨s, hs, rfl⟩ := List.mem_map.1 ((hm y).1 this)
    rw [ofL_toL]; exact hs
  · intro hx
    have : toL x ∈ zs := (hm _).2 (List.mem_map.2 ⟨x, hx, rfl⟩)
    obtain ⟨j, hj, e⟩ := List.getElem_of_mem this
    refine ⟨toL x, (h2 _).2 ⟨j, hj, ?_⟩, ofL_toL x⟩
    rw [getElem!_pos _ j (by simpa using hj)]
    simpa using e

theorem enc_toL (ss : List ByteArray) : ((ss.map toL).map fun l => Value.string ⟨l.toArray⟩) = ss.map Value.string := by
  rw [List.map_map]
  apply List.map_congr_left
  intro s _
  cases s
  simp [toL]

theorem enc_ofL (ts : List (List UInt8)) : (ts.map ofL).map Value.string = ts.map fun l => Value.string ⟨l.toArray⟩ := by
  rw [List.map_map]; rfl

end Go.Proofs.YtnahfogbemfngaaGreatDoor

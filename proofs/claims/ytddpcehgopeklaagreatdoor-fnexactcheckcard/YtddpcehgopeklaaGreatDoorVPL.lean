/-
  Two slices of numbers: are they one? The program's whole look at a policy. Own work.
-/
import Derived.Test.YtddpcehgopeklaaGreatDoorMXAO
import Derived.Test.YtddpcehgopeklaaGreatDoorMXAQ
namespace Go.Proofs.YtddpcehgopeklaaGreatDoor
open Go.RowKit
set_option linter.unusedVariables false

theorem ints_of_row {w : World} {base : Nat} {x : Option Addr} {n c : Nat} {L : List Int} (h : w.ownsRow base 3 1 (.slice x n c) n (intsV L)) (hn : n ≤ 1048576) : Ints w x n c L := by
  have hl : L.length = n := by have := h.1; rw [intsV, List.length_map] at this; omega
  refine ⟨hl, hn, fun j hj => ?_⟩
  obtain ⟨x', c', hv, hc⟩ := owns_form2 h
  cases hv
  obtain ⟨g, rfl, _, hg⟩ := hc (by omega)
  refine ⟨g, 0, rfl, (h.lt g rfl).2, ?_⟩
  rw [Nat.zero_add]
  exact hg j _ (by rw [intsV, List.getElem?_map, List.getElem?_eq_getElem hj]; rfl)

end Go.Proofs.YtddpcehgopeklaaGreatDoor

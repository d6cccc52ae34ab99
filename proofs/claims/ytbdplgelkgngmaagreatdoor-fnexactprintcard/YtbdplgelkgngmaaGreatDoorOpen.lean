/-
  A slice of strings among the arguments: from the row's reading to 'Strs'. Own work.
-/
import Derived.Test.YtbdplgelkgngmaaGreatDoorMHA
import Derived.ProofKit
import Derived.SliceStrings
namespace Go.Proofs.YtbdplgelkgngmaaGreatDoor
open Go.ChangeShapes Go.WideShapes Go.RowKit

theorem lt_of_cell {w : World} {p : Addr} {v : Value} (h : w.cell? p = some v) : p.block < w.heap.size := by
  by_cases hb : p.block < w.heap.size
  · exact hb
  · have : w.heap[p.block]? = none := Array.getElem?_eq_none (by omega)
    simp [World.cell?, this] at h

theorem Strs.of_trod {H : Type} {enc : TypeId × Value → H} {P : Program} {w : World} {held : Bool} {t e : TypeId} {fuel : Nat} {x : DataW H × List MemPlace} {a : Option Addr} {n c : Nat}
    (ht : P.underlying t = some (.slice e)) (he : P.underlying e = some .string) (hc : P.cellsOf e = 1)
    (h : DataW.trod enc P w 0 (fun _ => true) held fuel t [.slice a n c] = some x) : ∃ ss, Strs w a n c ss := by
  rcases open_strings ht he hc h with ⟨hcs, _⟩ | ⟨ad, len, cap, ss, hcs, _, hl, hm, hz, _, hcell, hws⟩
  · simp only [List.cons.injEq, Value.slice.injEq, and_true] at hcs
    obtain ⟨rfl, rfl, rfl⟩ := hcs
    exact ⟨[], rfl, Nat.le_refl _, Nat.zero_le _, fun j hj => by omega, fun j hj => by omega⟩
  · simp only [List.cons.injEq, Value.slice.injEq, and_true] at hcs
    obtain ⟨rfl, rfl, rfl⟩ := hcs
    simp only [if_true] at hz
    have hlen : (ss.take n).length = n := by simp; omega
    have hnth : ∀ j, j < n → nth (ss.take n) j = ss.getD j ByteArray.empty := fun j hj => by
      rw [nth_eq _ j (by omega), List.getElem_take]
      simp [List.getD, show j < ss.length from by omega]
    refine ⟨ss.take n, hlen.symm, hl, hm, fun j hj => ?_, fun j hj => ?_⟩
    · rw [hnth j hj]
      apply hws
      simp [List.getD, show j < ss.length from by omega]
    · have hcj := hcell j (by omega)
      have hs := World.cell?_spot (hcell 0 (by omega))
      obtain ⟨b, off, spot⟩ := ad
      simp only [Addr.add, if_true] at hs
      subst hs
      have hadd : (⟨b, off, none⟩ : Addr).add j = ⟨b, off + j, none⟩ := by
        by_cases e : j = 0 <;> simp [Addr.add, e]
      rw [hadd] at hcj
      refine ⟨b, off, rfl, ?_, ?_⟩
      · exact lt_of_cell hcj
      · rw [hnth j hj, ← hcj]

end Go.Proofs.YtbdplgelkgngmaaGreatDoor

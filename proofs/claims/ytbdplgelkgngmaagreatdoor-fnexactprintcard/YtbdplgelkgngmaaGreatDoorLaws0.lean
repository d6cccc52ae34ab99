/-
  The walks over the laws' own helpers: szStringS, toStringS, eqStringS. Own work.
-/
import Derived.Test.YtbdplgelkgngmaaGreatDoorMHA
import Derived.RegionTactic
import Derived.ChangeAlike
import Derived.Deep.QuietTactic
import Derived.BigQuiet
import Derived.WalkSpells
import Derived.WalkLawsBesides
namespace Go.Proofs.YtbdplgelkgngmaaGreatDoor
open Go.RowKit

/-- All bytes of the names. -/
def tot (ss : List ByteArray) : Nat := (ss.map ByteArray.size).sum

theorem tot_take_succ (ss : List ByteArray) (k : Nat) (h : k < ss.length) : tot (ss.take (k + 1)) = tot (ss.take k) + (nth ss k).size := by
  rw [nth_eq ss k h, tot, tot, List.take_succ_eq_append_getElem h, List.map_append, List.sum_append]
  rfl

theorem tot_take_le (ss : List ByteArray) (k : Nat) : tot (ss.take k) ≤ tot ss := by
  have h : tot ss = tot (ss.take k) + tot (ss.drop k) := by
    conv => lhs; rw [← List.take_append_drop k ss]
    simp [tot, - List.take_append_drop]
  omega

theorem ret_int {k : IntKind} {a b : Int} (h : a = b) : Ending.returned (.int k a) = .returned (.int k b) := by rw [h]

theorem Strs.of_owns {w : World} {base e : Nat} {a : Option Addr} {n c : Nat} {ss : List ByteArray} (h : w.ownsRow base e 1 (.slice a n c) n (ss.map Value.string)) (hs : ∀ j, j < n → (nth ss j).size ≤ maxLen) :
    Strs w a n c ss := by
  have hlen : ss.length = n := by simpa using h.1
  have h' := h
  rcases h.2 with ⟨hv, h0⟩ | ⟨g, cap, cur, hv, hb, hg, hnc, hcm, hcs, htake⟩
  · simp only [Value.slice.injEq] at hv
    obtain ⟨rfl, rfl, rfl⟩ := hv
    exact ⟨hlen.symm, Nat.le_refl _, Nat.zero_le _, hs, fun j hj => by omega⟩
  · simp only [Value.slice.injEq, true_and] at hv
    obtain ⟨rfl, rfl⟩ := hv
    refine ⟨hlen.symm, hnc, hcm, hs, fun j hj => ⟨g, 0, rfl, ?_, ?_⟩⟩
    · exact (Array.getElem?_eq_some_iff.1 hg).1
    · have := h'.cellAt j (by omega)
      rw [Nat.zero_add, this, nth_eq ss j (by omega)]
      simp [hlen, hj]

/-- What toStringS has made after k rounds. -/
def half (ss : List ByteArray) (n k : Nat) : List ByteArray := (List.range n).map fun j => if j < k then nth ss j else ByteArray.empty

theorem half_zero (ss : List ByteArray) (n : Nat) : half ss n 0 = List.replicate n ByteArray.empty := by
  apply List.ext_getElem
  · simp [half]
  · intro i h1 h2; simp [half]

theorem half_full (ss : List ByteArray) (n : Nat) (h : n = ss.length) : half ss n n = ss := by
  apply List.ext_getElem
  · simp [half, h]
  · intro i h1 h2
    have : i < n := by omega
    simp [half, this, nth_eq ss i h2]

theorem half_set (ss : List ByteArray) (n k : Nat) : ((half ss n k).map Value.string).set k (.string (nth ss k)) = (half ss n (k + 1)).map Value.string := by
  apply List.ext_getElem
  · simp [half]
  · intro i h1 h2
    rw [List.getElem_set]
    simp only [half, List.getElem_map, List.getElem_range]
    by_cases e : k = i
    · subst e; simp
    · rw [if_neg e]
      by_cases h : i < k
      · rw [if_pos h, if_pos (by omega)]
      · rw [if_neg h, if_neg (by omega)]

theorem half_at (ss : List ByteArray) (n k : Nat) (h : k < n) : ((half ss n k).map Value.string)[k]? = some (.string ByteArray.empty) := by
  simp [half, h]

theorem infoS : (Tryz.prog.info? 9).map (fun i => (i.zero, i.size, i.bytes)) = some (some (.string ByteArray.empty), 1, 16) := by kernel_rfl

end Go.Proofs.YtbdplgelkgngmaaGreatDoor

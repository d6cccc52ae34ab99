/-
  What is kept of a list: plain facts. Own work.
-/
import Derived.Test.YtbdplgelkgngmaaGreatDoorMHA
import Derived.Test.YtbdplgelkgngmaaGreatDoorLaws0
import Derived.WalkSpells
import Derived.WalkLawsBesides
namespace Go.Proofs.YtbdplgelkgngmaaGreatDoor
open Go.RowKit

/-- are the two texts one? -/
def eqS (a b : ByteArray) : Bool := a.toList == b.toList

theorem eqS_iff (a b : ByteArray) : eqS a b = true ↔ a = b := by
  rw [eqS, beq_iff_eq, ByteArray.toList_eq, ByteArray.toList_eq]
  exact ⟨bytes_ext, fun h => by rw [h]⟩

/-- does the text stand in the list? -/
def hasB (ss : List ByteArray) (s : ByteArray) : Bool := ss.any fun x => eqS x s

theorem hasB_iff (ss : List ByteArray) (s : ByteArray) : hasB ss s = true ↔ s ∈ ss := by
  rw [hasB, List.any_eq_true]
  constructor
  · rintro ⟨x, hx, he⟩; rw [eqS_iff] at he; subst he; exact hx
  · intro h; exact ⟨s, h, (eqS_iff _ _).2 rfl⟩

theorem mem_nth (ss : List ByteArray) (s : ByteArray) : s ∈ ss ↔ ∃ j, j < ss.length ∧ nth ss j = s := by
  constructor
  · intro h
    obtain ⟨j, hj, rfl⟩ := List.getElem_of_mem h
    exact ⟨j, hj, nth_eq ss j hj⟩
  · rintro ⟨j, hj, rfl⟩
    rw [nth_eq ss j hj]; exact List.getElem_mem hj

theorem hasB_at (ss : List ByteArray) (s : ByteArray) (j : Nat) (hj : j < ss.length) (h : eqS (nth ss j) s = true) : hasB ss s = true := by
  rw [hasB_iff, mem_nth]; exact ⟨j, hj, (eqS_iff _ _).1 h⟩

theorem hasB_none (ss : List ByteArray) (s : ByteArray) (h : ∀ j, j < ss.length → eqS (nth ss j) s = false) : hasB ss s = false := by
  rw [Bool.eq_false_iff]; intro k; rw [hasB_iff, mem_nth] at k
  obtain ⟨j, hj, e⟩ := k
  have := h j hj
  rw [(eqS_iff _ _).2 e] at this; cases this

/-- What l1pick keeps. -/
def pick (ss tt : List ByteArray) (b : Bool) : List ByteArray := ss.filter fun s => hasB tt s == b

theorem take_succ_nth (ss : List ByteArray) (k : Nat) (h : k < ss.length) : ss.take (k + 1) = ss.take k ++ [nth ss k] := by
  rw [nth_eq ss k h, List.take_succ_eq_append_getElem h]

theorem pick_yes (ss tt : List ByteArray) (b : Bool) (k : Nat) (h : k < ss.length) (hv : (hasB tt (nth ss k) == b) = true) : pick (ss.take (k + 1)) tt b = pick (ss.take k) tt b ++ [nth ss k] := by
  rw [take_succ_nth ss k h, pick, pick, List.filter_append]
  simp [hv]

theorem pick_no (ss tt : List ByteArray) (b : Bool) (k : Nat) (h : k < ss.length) (hv : (hasB tt (nth ss k) == b) = false) : pick (ss.take (k + 1)) tt b = pick (ss.take k) tt b := by
  rw [take_succ_nth ss k h, pick, pick, List.filter_append]
  simp [hv]

theorem pick_len (ss tt : List ByteArray) (b : Bool) : (pick ss tt b).length ≤ ss.length := List.length_filter_le _ _

/-- The value owns its row: its form. -/
theorem owns_form {w : World} {base e n : Nat} {v : Value} {xs : List Value} (h : w.ownsRow base e 1 v n xs) : ∃ x c, v = .slice x n c := by
  rcases h.2 with ⟨rfl, rfl⟩ | ⟨g, cap, cur, rfl, _⟩
  · exact ⟨_, _, rfl⟩
  · exact ⟨_, _, rfl⟩

theorem sizes_pick (ss tt : List ByteArray) (b : Bool) (h : ∀ j, j < ss.length → (nth ss j).size ≤ maxLen) : ∀ j, j < (pick ss tt b).length → (nth (pick ss tt b) j).size ≤ maxLen := by
  intro j hj
  have hm : nth (pick ss tt b) j ∈ ss := by
    rw [nth_eq _ j hj]
    exact (List.mem_filter.1 (List.getElem_mem hj)).1
  obtain ⟨i, hi, e⟩ := (mem_nth _ _).1 hm
  rw [← e]; exact h i hi

end Go.Proofs.YtbdplgelkgngmaaGreatDoor

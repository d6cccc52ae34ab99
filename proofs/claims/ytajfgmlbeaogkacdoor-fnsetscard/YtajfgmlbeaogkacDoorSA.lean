/-
  The algebra of sets of names. Own work.
-/
import Derived.Test.YtajfgmlbeaogkacDoorUN
import Derived.Test.YtajfgmlbeaogkacDoorME0
import Derived.Test.YtajfgmlbeaogkacDoorMI0
import Derived.Test.YtajfgmlbeaogkacDoorWI0
import Derived.Test.YtajfgmlbeaogkacDoorMK
namespace Go.Proofs.YtajfgmlbeaogkacDoor
open Go.RowKit
set_option linter.unusedVariables false

theorem setB_parts {ss : List ByteArray} (h : setB ss = true) : ss.length ≤ 64 ∧ allB ss = true ∧ risB ss = true := by
  simp [setB] at h; exact h

theorem setB_of {ss : List ByteArray} (h1 : ss.length ≤ 64) (h2 : allB ss = true) (h3 : risB ss = true) : setB ss = true := by
  simp [setB, h1, h2, h3]

theorem mem_pick {ss tt : List ByteArray} {q : Bool} {x : ByteArray} : x ∈ pick ss tt q ↔ x ∈ ss ∧ hasB tt x = q := by
  unfold pick
  rw [List.mem_filter, beq_iff_eq]

theorem hasB_true {tt : List ByteArray} {x : ByteArray} : hasB tt x = true ↔ x ∈ tt := hasB_iff tt x

theorem hasB_false {tt : List ByteArray} {x : ByteArray} : hasB tt x = false ↔ x ∉ tt := by
  rw [← Bool.not_eq_true, hasB_iff]

theorem risB_pick {ss : List ByteArray} (tt : List ByteArray) (q : Bool) (h : risB ss = true) : risB (pick ss tt q) = true := by
  rw [risB, decide_eq_true_eq] at h ⊢
  exact h.filter _

theorem allB_of_mem {ss K : List ByteArray} (h : allB ss = true) (hk : ∀ x ∈ K, x ∈ ss) : allB K = true := by
  rw [allB, List.all_eq_true] at h ⊢
  exact fun x hx => h x (hk x hx)

theorem setB_pick {ss : List ByteArray} (tt : List ByteArray) (q : Bool) (h : setB ss = true) : setB (pick ss tt q) = true := by
  obtain ⟨h1, h2, h3⟩ := setB_parts h
  exact setB_of (Nat.le_trans (pick_len ss tt q) h1) (allB_of_mem h2 fun x hx => (mem_pick.1 hx).1) (risB_pick tt q h3)

theorem allB_app {ss tt : List ByteArray} (h : allB ss = true) (h' : allB tt = true) : allB (ss ++ tt) = true := by
  rw [allB, List.all_append, Bool.and_eq_true]; exact ⟨h, h'⟩

section
variable {ss tt M : List ByteArray}

theorem IsSorted.swap (h : IsSorted (ss ++ tt) M) : IsSorted (tt ++ ss) M := ⟨h.rise, fun x => by rw [h.mem, List.mem_append, List.mem_append]; exact Or.comm⟩

theorem setB_sorted (h1 : setB ss = true) (h2 : setB tt = true) (hM : IsSorted (ss ++ tt) M) (hl : M.length ≤ 64) : setB M = true := by
  obtain ⟨_, a1, _⟩ := setB_parts h1
  obtain ⟨_, a2, _⟩ := setB_parts h2
  exact setB_of hl (allB_of_mem (allB_app a1 a2) fun x hx => (hM.mem x).1 hx) hM.rise

/-- both and the rest make up the whole -/
theorem union_parts (h1 : setB ss = true) (h2 : setB tt = true) : IsUnion (meetL ss tt) (minusL ss tt) ss 0 := by
  have e1 : meetL ss tt = pick ss tt true := by simp [meetL, h1, h2]
  have e2 : minusL ss tt = pick ss tt false := by simp [minusL, h1, h2]
  obtain ⟨l1, a1, r1⟩ := setB_parts h1
  rw [e1, e2]
  refine IsUnion.of_good (by rw [setB_pick tt true h1, setB_pick tt false h1]; rfl) ⟨r1, fun x => ?_⟩ l1
  rw [List.mem_append, mem_pick, mem_pick]
  constructor
  · intro h
    cases hc : hasB tt x
    · exact .inr ⟨h, rfl⟩
    · exact .inl ⟨h, rfl⟩
  · rintro (h | h) <;> exact h.1

theorem meet_apart : meetL (meetL ss tt) (minusL ss tt) = [] := by
  unfold meetL minusL
  split
  · split
    · apply List.eq_nil_iff_forall_not_mem.2
      intro x hx
      obtain ⟨h1, h2⟩ := mem_pick.1 hx
      have h3 := (mem_pick.1 h1).2
      have h4 := (mem_pick.1 (hasB_true.1 h2)).2
      rw [h3] at h4; cases h4
    · rfl
  · rfl

theorem meet_swap (h1 : setB ss = true) (h2 : setB tt = true) : meetL tt ss = meetL ss tt := by
  have e1 : meetL ss tt = pick ss tt true := by simp [meetL, h1, h2]
  have e2 : meetL tt ss = pick tt ss true := by simp [meetL, h1, h2]
  obtain ⟨_, _, r1⟩ := setB_parts h1
  obtain ⟨_, _, r2⟩ := setB_parts h2
  rw [e1, e2]
  refine rise_unique _ _ (risB_pick ss true r2) (risB_pick tt true r1) fun x => ?_
  rw [mem_pick, mem_pick, hasB_true, hasB_true]
  exact And.comm

theorem within_of (h1 : setB ss = true) (h2 : setB tt = true) (h : ∀ x ∈ ss, x ∈ tt) : withinB ss tt = true := by
  have : pick ss tt false = [] := by
    apply List.eq_nil_iff_forall_not_mem.2
    intro x hx
    obtain ⟨k1, k2⟩ := mem_pick.1 hx
    exact hasB_false.1 k2 (h x k1)
  simp [withinB, h1, h2, this]

theorem within_minus (h1 : setB ss = true) (h2 : setB tt = true) : withinB ss tt = decide ((minusL ss tt).length = 0) := by
  have e2 : minusL ss tt = pick ss tt false := by simp [minusL, h1, h2]
  rw [e2]
  simp [withinB, h1, h2]

theorem setB_meet (h1 : setB ss = true) (h2 : setB tt = true) : setB (meetL ss tt) = true := by
  have e1 : meetL ss tt = pick ss tt true := by simp [meetL, h1, h2]
  rw [e1]; exact setB_pick tt true h1

theorem meet_left (h1 : setB ss = true) (h2 : setB tt = true) : withinB (meetL ss tt) ss = true := by
  refine within_of (setB_meet h1 h2) h1 fun x hx => ?_
  have e1 : meetL ss tt = pick ss tt true := by simp [meetL, h1, h2]
  rw [e1] at hx
  exact (mem_pick.1 hx).1

theorem meet_right (h1 : setB ss = true) (h2 : setB tt = true) : withinB (meetL ss tt) tt = true := by
  refine within_of (setB_meet h1 h2) h2 fun x hx => ?_
  have e1 : meetL ss tt = pick ss tt true := by simp [meetL, h1, h2]
  rw [e1] at hx
  exact hasB_true.1 (mem_pick.1 hx).2

theorem make_wide (h1 : setB ss = true) (h2 : setB tt = true) (hM : IsSorted (ss ++ tt) M) (hl : 64 < M.length) : IsMake (tt ++ ss) [] 3 := by
  obtain ⟨l1, a1, _⟩ := setB_parts h1
  obtain ⟨l2, a2, _⟩ := setB_parts h2
  exact IsMake.of_wide (by rw [List.length_append]; omega) (allB_app a2 a1) hM.swap hl

theorem make_good (h1 : setB ss = true) (h2 : setB tt = true) (hM : IsSorted (ss ++ tt) M) (hl : M.length ≤ 64) : IsMake (tt ++ ss) M 0 := by
  obtain ⟨l1, a1, _⟩ := setB_parts h1
  obtain ⟨l2, a2, _⟩ := setB_parts h2
  exact IsMake.of_good (by rw [List.length_append]; omega) (allB_app a2 a1) hM.swap hl

theorem union_wide (h1 : setB ss = true) (h2 : setB tt = true) (hM : IsSorted (ss ++ tt) M) (hl : 64 < M.length) : IsUnion tt ss [] 3 := IsUnion.of_wide (by rw [h1, h2]; rfl) hM.swap hl

theorem union_good (h1 : setB ss = true) (h2 : setB tt = true) (hM : IsSorted (ss ++ tt) M) (hl : M.length ≤ 64) : IsUnion tt ss M 0 := IsUnion.of_good (by rw [h1, h2]; rfl) hM.swap hl

theorem within_left (h1 : setB ss = true) (h2 : setB tt = true) (hM : IsSorted (ss ++ tt) M) (hl : M.length ≤ 64) : withinB ss M = true :=
  within_of h1 (setB_sorted h1 h2 hM hl) fun x hx => (hM.mem x).2 (List.mem_append_left _ hx)

theorem within_right (h1 : setB ss = true) (h2 : setB tt = true) (hM : IsSorted (ss ++ tt) M) (hl : M.length ≤ 64) : withinB tt M = true :=
  within_of h2 (setB_sorted h1 h2 hM hl) fun x hx => (hM.mem x).2 (List.mem_append_right _ hx)

theorem minus_back (h1 : setB ss = true) (h2 : setB tt = true) (hM : IsSorted (ss ++ tt) M) (hl : M.length ≤ 64) : minusL M tt = minusL ss tt := by
  have h3 := setB_sorted h1 h2 hM hl
  have e1 : minusL M tt = pick M tt false := by simp [minusL, h3, h2]
  have e2 : minusL ss tt = pick ss tt false := by simp [minusL, h1, h2]
  obtain ⟨_, _, r1⟩ := setB_parts h1
  rw [e1, e2]
  refine rise_unique _ _ (risB_pick tt false hM.rise) (risB_pick tt false r1) fun x => ?_
  rw [mem_pick, mem_pick, hM.mem, List.mem_append, hasB_false]
  constructor
  · rintro ⟨h | h, k⟩
    · exact ⟨h, k⟩
    · exact absurd h k
  · rintro ⟨h, k⟩; exact ⟨.inl h, k⟩

end

end Go.Proofs.YtajfgmlbeaogkacDoor

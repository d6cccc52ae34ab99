/-
  The model's verifier: plain facts of its step. Own work.
-/
import Derived.Test.YteefbljehlepjaaDoorYP
namespace Go.Proofs.YteefbljehlepjaaDoor
open Go.RowKit
set_option linter.unusedVariables false

/-- the types on the stack held against those that are wanted, as the model does it -/
def chk : List Int → List Int → Int → Bool
  | w :: ws, g :: gs, any => if (w = 0 ∧ g ≠ (if w = 0 ∧ any = 0 then g else any)) ∨ (0 < w ∧ g ≠ w) then false else chk ws gs (if w = 0 ∧ any = 0 then g else any)
  | _, _, _ => true

theorem drop1 (st : List Int) (h : 1 ≤ st.length) : st.drop (st.length - 1) = [topV st] := by
  apply List.ext_getElem
  · simp; omega
  · intro i h1 h2
    simp at h2
    subst h2
    simp [topV_snoc st (by omega)]

theorem drop2 (st : List Int) (h : 2 ≤ st.length) : st.drop (st.length - 2) = [st.getD (st.length - 2) 0, topV st] := by
  apply List.ext_getElem
  · simp; omega
  · intro i h1 h2
    simp at h2
    have : i = 0 ∨ i = 1 := by omega
    rcases this with rfl | rfl
    · simp [List.getD, List.getElem?_eq_getElem (show st.length - 2 < st.length by omega)]
    · simp only [List.getElem_drop, List.getElem_cons_succ, List.getElem_cons_zero, topV_snoc st (by omega)]
      congr 1
      omega

theorem top_pos (st : List Int) (h : 1 ≤ st.length) (hp : ∀ x ∈ st, 1 ≤ x) : 1 ≤ topV st := by
  rw [topV_snoc st (by omega)]
  exact hp _ (List.getElem_mem _)

theorem under_pos (st : List Int) (h : 2 ≤ st.length) (hp : ∀ x ∈ st, 1 ≤ x) : 1 ≤ st.getD (st.length - 2) 0 := by
  rw [List.getD, List.getElem?_eq_getElem (show st.length - 2 < st.length by omega)]
  exact hp _ (List.getElem_mem _)

theorem takes_len (PK : List Int) (i : Is1) (sl : List Int) (h0 : 1 ≤ i.op) (h1 : i.op ≤ 25) : (takesM PK i sl).1.length = popV i.op := by
  obtain ⟨op, arg⟩ := i
  simp only at h0 h1
  rcases op25 h0 h1 with e | e | e | e | e | e | e | e | e | e | e | e | e | e | e | e | e | e | e | e | e | e | e | e | e
  all_goals subst e; rfl

theorem takes_chk (PK : List Int) (i : Is1) (st sl : List Int) (h0 : 1 ≤ i.op) (h1 : i.op ≤ 25) (h4 : i.op ≠ 4) (hp : popV i.op ≤ st.length) (hpos : ∀ x ∈ st, 1 ≤ x) : chk (takesM PK i sl).1 (st.drop (st.length - popV i.op)) 0 = takesV i ⟨st, sl⟩ := by
  obtain ⟨op, arg⟩ := i
  simp only at h0 h1 h4 hp
  rcases op25 h0 h1 with e | e | e | e | e | e | e | e | e | e | e | e | e | e | e | e | e | e | e | e | e | e | e | e | e
  · subst e; rfl
  · subst e; rfl
  · subst e; rfl
  · exact absurd e h4
  · subst e
    have hl : 1 ≤ st.length := hp
    have hd : st.drop (st.length - popV 5) = [topV st] := drop1 st hl
    have ht := top_pos st hl hpos
    rw [hd]
    have hr : takesV ⟨5, arg⟩ ⟨st, sl⟩ = (opT 8 (topV st) 0).isSome := rfl
    rw [hr, opT_un _ _ (by decide) (by decide)]
    generalize topV st = x at ht ⊢
    simp [takesM, rwV, chk]
    try (split <;> simp_all)
  · subst e
    have hl : 1 ≤ st.length := hp
    have hd : st.drop (st.length - popV 6) = [topV st] := drop1 st hl
    have ht := top_pos st hl hpos
    rw [hd]
    have hr : takesV ⟨6, arg⟩ ⟨st, sl⟩ = (opT 9 (topV st) 0).isSome := rfl
    rw [hr, opT_un _ _ (by decide) (by decide)]
    generalize topV st = x at ht ⊢
    simp [takesM, rwV, chk]
    try (split <;> simp_all)
  · subst e
    have hl : 1 ≤ st.length := hp
    have hd : st.drop (st.length - popV 7) = [topV st] := drop1 st hl
    have ht := top_pos st hl hpos
    rw [hd]
    have hr : takesV ⟨7, arg⟩ ⟨st, sl⟩ = (opT 10 (topV st) 0).isSome := rfl
    rw [hr, opT_un _ _ (by decide) (by decide)]
    generalize topV st = x at ht ⊢
    simp [takesM, rwV, chk]
    try (split <;> simp_all)
  · subst e
    have hl : 2 ≤ st.length := hp
    have hd : st.drop (st.length - popV 8) = [st.getD (st.length - 2) 0, topV st] := drop2 st hl
    have ht := under_pos st hl hpos
    have hr : takesV ⟨8, arg⟩ ⟨st, sl⟩ = (opT 11 (st.getD (st.length - 2) 0) (topV st)).isSome := rfl
    rw [hd, hr, opT_bin _ _ _ (by decide) (by decide)]
    generalize topV st = y
    generalize st.getD (st.length - 2) 0 = x at ht ⊢
    by_cases hx : x = 2
    · by_cases hy : y = 2
      · subst hx hy; rfl
      · subst hx; simp [takesM, rwV, chk, hy]
    · simp [takesM, rwV, chk, hx]
  · subst e
    have hl : 2 ≤ st.length := hp
    have hd : st.drop (st.length - popV 9) = [st.getD (st.length - 2) 0, topV st] := drop2 st hl
    have ht := under_pos st hl hpos
    have hr : takesV ⟨9, arg⟩ ⟨st, sl⟩ = (opT 12 (st.getD (st.length - 2) 0) (topV st)).isSome := rfl
    rw [hd, hr, opT_bin _ _ _ (by decide) (by decide)]
    generalize topV st = y
    generalize st.getD (st.length - 2) 0 = x at ht ⊢
    by_cases hx : x = 2
    · by_cases hy : y = 2
      · subst hx hy; rfl
      · subst hx; simp [takesM, rwV, chk, hy]
    · simp [takesM, rwV, chk, hx]
  · subst e
    have hl : 2 ≤ st.length := hp
    have hd : st.drop (st.length - popV 10) = [st.getD (st.length - 2) 0, topV st] := drop2 st hl
    have ht := under_pos st hl hpos
    have hr : takesV ⟨10, arg⟩ ⟨st, sl⟩ = (opT 13 (st.getD (st.length - 2) 0) (topV st)).isSome := rfl
    rw [hd, hr, opT_bin _ _ _ (by decide) (by decide)]
    generalize topV st = y
    generalize st.getD (st.length - 2) 0 = x at ht ⊢
    by_cases hx : x = 2
    · by_cases hy : y = 2
      · subst hx hy; rfl
      · subst hx; simp [takesM, rwV, chk, hy]
    · simp [takesM, rwV, chk, hx]
  · subst e
    have hl : 2 ≤ st.length := hp
    have hd : st.drop (st.length - popV 11) = [st.getD (st.length - 2) 0, topV st] := drop2 st hl
    have ht := under_pos st hl hpos
    have hr : takesV ⟨11, arg⟩ ⟨st, sl⟩ = (opT 14 (st.getD (st.length - 2) 0) (topV st)).isSome := rfl
    rw [hd, hr, opT_bin _ _ _ (by decide) (by decide)]
    generalize topV st = y
    generalize st.getD (st.length - 2) 0 = x at ht ⊢
    by_cases hx : x = 2
    · by_cases hy : y = 2
      · subst hx hy; rfl
      · subst hx; simp [takesM, rwV, chk, hy]
    · simp [takesM, rwV, chk, hx]
  · subst e
    have hl : 2 ≤ st.length := hp
    have hd : st.drop (st.length - popV 12) = [st.getD (st.length - 2) 0, topV st] := drop2 st hl
    have ht := under_pos st hl hpos
    have hr : takesV ⟨12, arg⟩ ⟨st, sl⟩ = (opT 15 (st.getD (st.length - 2) 0) (topV st)).isSome := rfl
    rw [hd, hr, opT_bin _ _ _ (by decide) (by decide)]
    generalize topV st = y
    generalize st.getD (st.length - 2) 0 = x at ht ⊢
    by_cases hx : x = 2
    · by_cases hy : y = 2
      · subst hx hy; rfl
      · subst hx; simp [takesM, rwV, chk, hy]
    · simp [takesM, rwV, chk, hx]
  · subst e
    have hl : 2 ≤ st.length := hp
    have hd : st.drop (st.length - popV 13) = [st.getD (st.length - 2) 0, topV st] := drop2 st hl
    have ht := under_pos st hl hpos
    have hr : takesV ⟨13, arg⟩ ⟨st, sl⟩ = (opT 16 (st.getD (st.length - 2) 0) (topV st)).isSome := rfl
    rw [hd, hr, opT_bin _ _ _ (by decide) (by decide)]
    generalize topV st = y
    generalize st.getD (st.length - 2) 0 = x at ht ⊢
    by_cases hx : x = 4
    · by_cases hy : y = 4
      · subst hx hy; rfl
      · subst hx; simp [takesM, rwV, chk, hy]
    · simp [takesM, rwV, chk, hx]
  · subst e
    have hl : 2 ≤ st.length := hp
    have hd : st.drop (st.length - popV 14) = [st.getD (st.length - 2) 0, topV st] := drop2 st hl
    have ht := under_pos st hl hpos
    have hr : takesV ⟨14, arg⟩ ⟨st, sl⟩ = (opT 17 (st.getD (st.length - 2) 0) (topV st)).isSome := rfl
    rw [hd, hr, opT_bin _ _ _ (by decide) (by decide)]
    generalize topV st = y
    generalize st.getD (st.length - 2) 0 = x at ht ⊢
    by_cases hx : x = 4
    · by_cases hy : y = 4
      · subst hx hy; rfl
      · subst hx; simp [takesM, rwV, chk, hy]
    · simp [takesM, rwV, chk, hx]
  · subst e
    have hl : 2 ≤ st.length := hp
    have hd : st.drop (st.length - popV 15) = [st.getD (st.length - 2) 0, topV st] := drop2 st hl
    have ht := under_pos st hl hpos
    have hr : takesV ⟨15, arg⟩ ⟨st, sl⟩ = (opT 18 (st.getD (st.length - 2) 0) (topV st)).isSome := rfl
    rw [hd, hr, opT_bin _ _ _ (by decide) (by decide)]
    generalize topV st = y
    generalize st.getD (st.length - 2) 0 = x at ht ⊢
    by_cases hx : x = 4
    · by_cases hy : y = 4
      · subst hx hy; rfl
      · subst hx; simp [takesM, rwV, chk, hy]
    · simp [takesM, rwV, chk, hx]
  · subst e
    have hl : 2 ≤ st.length := hp
    have hd : st.drop (st.length - popV 16) = [st.getD (st.length - 2) 0, topV st] := drop2 st hl
    have ht := under_pos st hl hpos
    have hr : takesV ⟨16, arg⟩ ⟨st, sl⟩ = (opT 19 (st.getD (st.length - 2) 0) (topV st)).isSome := rfl
    rw [hd, hr, opT_bin _ _ _ (by decide) (by decide)]
    generalize topV st = y
    generalize st.getD (st.length - 2) 0 = x at ht ⊢
    by_cases hx : x = y
    · subst hx; simp [takesM, rwV, chk]
    · have hx0 : ¬ x = 0 := by omega
      simp [takesM, rwV, chk, hx0, hx]
      intro e
      exact hx e.symm
  · subst e
    have hl : 2 ≤ st.length := hp
    have hd : st.drop (st.length - popV 17) = [st.getD (st.length - 2) 0, topV st] := drop2 st hl
    have ht := under_pos st hl hpos
    have hr : takesV ⟨17, arg⟩ ⟨st, sl⟩ = (opT 20 (st.getD (st.length - 2) 0) (topV st)).isSome := rfl
    rw [hd, hr, opT_bin _ _ _ (by decide) (by decide)]
    generalize topV st = y
    generalize st.getD (st.length - 2) 0 = x at ht ⊢
    by_cases hx : x = y
    · subst hx; simp [takesM, rwV, chk]
    · have hx0 : ¬ x = 0 := by omega
      simp [takesM, rwV, chk, hx0, hx]
      intro e
      exact hx e.symm
  · subst e
    have hl : 2 ≤ st.length := hp
    have hd : st.drop (st.length - popV 18) = [st.getD (st.length - 2) 0, topV st] := drop2 st hl
    have ht := under_pos st hl hpos
    have hr : takesV ⟨18, arg⟩ ⟨st, sl⟩ = (opT 21 (st.getD (st.length - 2) 0) (topV st)).isSome := rfl
    rw [hd, hr, opT_bin _ _ _ (by decide) (by decide)]
    generalize topV st = y
    generalize st.getD (st.length - 2) 0 = x at ht ⊢
    by_cases hx : x = 2
    · by_cases hy : y = 2
      · subst hx hy; rfl
      · subst hx; simp [takesM, rwV, chk, hy]
    · simp [takesM, rwV, chk, hx]
  · subst e
    have hl : 2 ≤ st.length := hp
    have hd : st.drop (st.length - popV 19) = [st.getD (st.length - 2) 0, topV st] := drop2 st hl
    have ht := under_pos st hl hpos
    have hr : takesV ⟨19, arg⟩ ⟨st, sl⟩ = (opT 22 (st.getD (st.length - 2) 0) (topV st)).isSome := rfl
    rw [hd, hr, opT_bin _ _ _ (by decide) (by decide)]
    generalize topV st = y
    generalize st.getD (st.length - 2) 0 = x at ht ⊢
    by_cases hx : x = 2
    · by_cases hy : y = 2
      · subst hx hy; rfl
      · subst hx; simp [takesM, rwV, chk, hy]
    · simp [takesM, rwV, chk, hx]
  · subst e
    have hl : 2 ≤ st.length := hp
    have hd : st.drop (st.length - popV 20) = [st.getD (st.length - 2) 0, topV st] := drop2 st hl
    have ht := under_pos st hl hpos
    have hr : takesV ⟨20, arg⟩ ⟨st, sl⟩ = (opT 23 (st.getD (st.length - 2) 0) (topV st)).isSome := rfl
    rw [hd, hr, opT_bin _ _ _ (by decide) (by decide)]
    generalize topV st = y
    generalize st.getD (st.length - 2) 0 = x at ht ⊢
    by_cases hx : x = 3
    · by_cases hy : y = 4
      · subst hx hy; rfl
      · subst hx; simp [takesM, rwV, chk, hy]
    · simp [takesM, rwV, chk, hx]
  · subst e
    have hl : 2 ≤ st.length := hp
    have hd : st.drop (st.length - popV 21) = [st.getD (st.length - 2) 0, topV st] := drop2 st hl
    have ht := under_pos st hl hpos
    have hr : takesV ⟨21, arg⟩ ⟨st, sl⟩ = (opT 24 (st.getD (st.length - 2) 0) (topV st)).isSome := rfl
    rw [hd, hr, opT_bin _ _ _ (by decide) (by decide)]
    generalize topV st = y
    generalize st.getD (st.length - 2) 0 = x at ht ⊢
    by_cases hx : x = 4
    · by_cases hy : y = 4
      · subst hx hy; rfl
      · subst hx; simp [takesM, rwV, chk, hy]
    · simp [takesM, rwV, chk, hx]
  · subst e; rfl
  · subst e
    have hl : 1 ≤ st.length := hp
    have hd : st.drop (st.length - popV 23) = [topV st] := drop1 st hl
    have ht := top_pos st hl hpos
    rw [hd]
    have hr : takesV ⟨23, arg⟩ ⟨st, sl⟩ = decide (topV st = 1) := rfl
    rw [hr]
    generalize topV st = x at ht ⊢
    simp [takesM, chk]
    try (split <;> simp_all)
  · subst e; rfl
  · subst e
    have hl : 1 ≤ st.length := hp
    have hd : st.drop (st.length - popV 25) = [topV st] := drop1 st hl
    have ht := top_pos st hl hpos
    rw [hd]
    have hr : takesV ⟨25, arg⟩ ⟨st, sl⟩ = decide (topV st = 4) := rfl
    rw [hr]
    generalize topV st = x at ht ⊢
    simp [takesM, chk]
    try (split <;> simp_all)

/-- what is pushed, where the types fit -/
theorem takes_push (PK : List Int) (i : Is1) (st sl : List Int) (h0 : 1 ≤ i.op) (h1 : i.op ≤ 25) (ht : takesV i ⟨st, sl⟩ = true) : (takesM PK i sl).2 = pushV PK i ⟨st, sl⟩ := by
  obtain ⟨op, arg⟩ := i
  simp only at h0 h1
  by_cases h5 : 5 ≤ op ∧ op ≤ 21
  · have hp := pushV_op (PK := PK) (i := ⟨op, arg⟩) (s := ⟨st, sl⟩) h5.1 h5.2
    rw [hp]
    have ht' : (resV op st).isSome = true := by
      have : takesV ⟨op, arg⟩ ⟨st, sl⟩ = (resV op st).isSome := by
        unfold takesV
        rw [if_neg (by show ¬ (op = 1 ∨ op = 2 ∨ op = 3 ∨ op = 22 ∨ op = 24); omega), if_neg (by show ¬ op = 4; omega), if_neg (by show ¬ op = 23; omega), if_neg (by show ¬ op = 25; omega)]
      rw [← this]; exact ht
    have hm : takesM PK ⟨op, arg⟩ sl = rwV (op + 3) := by
      unfold takesM
      rw [if_neg (by show ¬ op = 1; omega), if_neg (by show ¬ op = 2; omega), if_neg (by show ¬ op = 3; omega), if_neg (by show ¬ op = 4; omega), if_neg (by show ¬ (op = 22 ∨ op = 24); omega), if_neg (by show ¬ op = 23; omega), if_neg (by show ¬ op = 25; omega)]
    rw [hm]
    by_cases h7 : op ≤ 7
    · have hr : resV op st = opT (op + 3) (topV st) 0 := by
        have : popV op = 1 := by
          have : op = 5 ∨ op = 6 ∨ op = 7 := by omega
          rcases this with rfl | rfl | rfl <;> rfl
        unfold resV
        rw [if_pos this]
      rw [hr, opT_un _ _ (by omega) (by omega)] at ht' ⊢
      have : op = 5 ∨ op = 6 ∨ op = 7 := by omega
      rcases this with rfl | rfl | rfl
      all_goals
        simp [rwV] at ht' ⊢
        rw [if_pos ht']
        rfl
    · have hr : resV op st = opT (op + 3) (st.getD (st.length - 2) 0) (topV st) := by
        have : popV op = 2 := by
          rcases op25 h0 h1 with e | e | e | e | e | e | e | e | e | e | e | e | e | e | e | e | e | e | e | e | e | e | e | e | e
          all_goals subst e
          all_goals first | rfl | omega
        unfold resV
        rw [if_neg (by omega)]
      rw [hr, opT_bin _ _ _ (by omega) (by omega)] at ht' ⊢
      generalize topV st = y at ht' ⊢
      generalize st.getD (st.length - 2) 0 = x at ht' ⊢
      have : op = 8 ∨ op = 9 ∨ op = 10 ∨ op = 11 ∨ op = 12 ∨ op = 13 ∨ op = 14 ∨ op = 15 ∨ op = 16 ∨ op = 17 ∨ op = 18 ∨ op = 19 ∨ op = 20 ∨ op = 21 := by omega
      rcases this with rfl | rfl | rfl | rfl | rfl | rfl | rfl | rfl | rfl | rfl | rfl | rfl | rfl | rfl
      all_goals
        simp [rwV] at ht' ⊢
        simp [ht']
  · have : op = 1 ∨ op = 2 ∨ op = 3 ∨ op = 4 ∨ op = 22 ∨ op = 23 ∨ op = 24 ∨ op = 25 := by omega
    rcases this with rfl | rfl | rfl | rfl | rfl | rfl | rfl | rfl <;> rfl

end Go.Proofs.YteefbljehlepjaaDoor

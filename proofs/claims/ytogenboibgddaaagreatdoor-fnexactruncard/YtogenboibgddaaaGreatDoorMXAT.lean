/-
  YR, YS0. Own work.
-/
import Derived.Test.YtogenboibgddaaaGreatDoorYP
import Derived.Test.YtogenboibgddaaaGreatDoorMXAP
namespace Go.Proofs.YtogenboibgddaaaGreatDoor
open Go.RowKit
set_option linter.unusedVariables false

/-- the types on the stack held against those that are wanted, as the model does it -/
def chk : List Int → List Int → Int → Bool
  | w :: ws, g :: gs, any => if (w = 0 ∧ g ≠ (if w = 0 ∧ any = 0 then g else any)) ∨ (0 < w ∧ g ≠ w) then false else chk ws gs (if w = 0 ∧ any = 0 then g else any)
  | _, _, _ => true

theorem drop1 (st : List Int) (h : 1 ≤ st.length) : st.drop (st.length - 1) = [topV st] := by
  apply List.ext_getElem
  · simp; omega
  · intro i h1 h2
    simp at h2
    subst h2
    simp [topV_snoc st (by omega)]

theorem drop2 (st : List Int) (h : 2 ≤ st.length) : st.drop (st.length - 2) = [st.getD (st.length - 2) 0, topV st] := by
  apply List.ext_getElem
  · simp; omega
  · intro i h1 h2
    simp at h2
    have : i = 0 ∨ i = 1 := by omega
    rcases this with rfl | rfl
    · simp [List.getD, List.getElem?_eq_getElem (show st.length - 2 < st.length by omega)]
    · simp only [List.getElem_drop, List.getElem_cons_succ, List.getElem_cons_zero, topV_snoc st (by omega)]
      congr 1
      omega

theorem top_pos (st : List Int) (h : 1 ≤ st.length) (hp : ∀ x ∈ st, 1 ≤ x) : 1 ≤ topV st := by
  rw [topV_snoc st (by omega)]
  exact hp _ (List.getElem_mem _)

theorem under_pos (st : List Int) (h : 2 ≤ st.length) (hp : ∀ x ∈ st, 1 ≤ x) : 1 ≤ st.getD (st.length - 2) 0 := by
  rw [List.getD, List.getElem?_eq_getElem (show st.length - 2 < st.length by omega)]
  exact hp _ (List.getElem_mem _)

theorem takes_len (PK : List Int) (i : Is1) (sl : List Int) (h0 : 1 ≤ i.op) (h1 : i.op ≤ 25) : (takesM PK i sl).1.length = popV i.op := by
  obtain ⟨op, arg⟩ := i
  simp only at h0 h1
  rcases op25 h0 h1 with e | e | e | e | e | e | e | e | e | e | e | e | e | e | e | e | e | e | e | e | e | e | e | e | e
  all_goals subst e; rfl

theorem takes_chk (PK : List Int) (i : Is1) (st sl : List Int) (h0 : 1 ≤ i.op) (h1 : i.op ≤ 25) (h4 : i.op ≠ 4) (hp : popV i.op ≤ st.length) (hpos : ∀ x ∈ st, 1 ≤ x) : chk (takesM PK i sl).1 (st.drop (st.length - popV i.op)) 0 = takesV i ⟨st, sl⟩ := by
  obtain ⟨op, arg⟩ := i
  simp only at h0 h1 h4 hp
  rcases op25 h0 h1 with e | e | e | e | e | e | e | e | e | e | e | e | e | e | e | e | e | e | e | e | e | e | e | e | e
  · subst e; rfl
  · subst e; rfl
  · subst e; rfl
  · exact absurd e h4
  · subst e
    have hl : 1 ≤ st.length := hp
    have hd : st.drop (st.length - popV 5) = [topV st] := drop1 st hl
    have ht := top_pos st hl hpos
    rw [hd]
    have hr : takesV ⟨5, arg⟩ ⟨st, sl⟩ = (opT 8 (topV st) 0).isSome := rfl
    rw [hr, opT_un _ _ (by decide) (by decide)]
    generalize topV st = x at ht ⊢
    simp [takesM, rwV, chk]
    try (split <;> simp_all)
  · subst e
    have hl : 1 ≤ st.length := hp
    have hd : st.drop (st.length - popV 6) = [topV st] := drop1 st hl
    have ht := top_pos st hl hpos
    rw [hd]
    have hr : takesV ⟨6, arg⟩ ⟨st, sl⟩ = (opT 9 (topV st) 0).isSome := rfl
    rw [hr, opT_un _ _ (by decide) (by decide)]
    generalize topV st = x at ht ⊢
    simp [takesM, rwV, chk]
    try (split <;> simp_all)
  · subst e
    have hl : 1 ≤ st.length := hp
    have hd : st.drop (st.length - popV 7) = [topV st] := drop1 st hl
    have ht := top_pos st hl hpos
    rw [hd]
    have hr : takesV ⟨7, arg⟩ ⟨st, sl⟩ = (opT 10 (topV st) 0).isSome := rfl
    rw [hr, opT_un _ _ (by decide) (by decide)]
    generalize topV st = x at ht ⊢
    simp [takesM, rwV, chk]
    try (split <;> simp_all)
  · subst e
    have hl : 2 ≤ st.length := hp
    have hd : st.drop (st.length - popV 8) = [st.getD (st.length - 2) 0, topV st] := drop2 st hl
    have ht := under_pos st hl hpos
    have hr : takesV ⟨8, arg⟩ ⟨st, sl⟩ = (opT 11 (st.getD (st.length - 2) 0) (topV st)).isSome := rfl
    rw [hd, hr, opT_bin _ _ _ (by decide) (by decide)]
    generalize topV st = y
    generalize st.getD (st.length - 2) 0 = x at ht ⊢
    by_cases hx : x = 2
    · by_cases hy : y = 2
      · subst hx hy; rfl
      · subst hx; simp [takesM, rwV, chk, hy]
    · simp [takesM, rwV, chk, hx]
  · subst e
    have hl : 2 ≤ st.length := hp
    have hd : st.drop (st.length - popV 9) = [st.getD (st.length - 2) 0, topV st] := drop2 st hl
    have ht := under_pos st hl hpos
    have hr : takesV ⟨9, arg⟩ ⟨st, sl⟩ = (opT 12 (st.getD (st.length - 2) 0) (topV st)).isSome := rfl
    rw [hd, hr, opT_bin _ _ _ (by decide) (by decide)]
    generalize topV st = y
    generalize st.getD (st.length - 2) 0 = x at ht ⊢
    by_cases hx : x = 2
    · by_cases hy : y = 2
      · subst hx hy; rfl
      · subst hx; simp [takesM, rwV, chk, hy]
    · simp [takesM, rwV, chk, hx]
  · subst e
    have hl : 2 ≤ st.length := hp
    have hd : st.drop (st.length - popV 10) = [st.getD (st.length - 2) 0, topV st] := drop2 st hl
    have ht := under_pos st hl hpos
    have hr : takesV ⟨10, arg⟩ ⟨st, sl⟩ = (opT 13 (st.getD (st.length - 2) 0) (topV st)).isSome := rfl
    rw [hd, hr, opT_bin _ _ _ (by decide) (by decide)]
    generalize topV st = y
    generalize st.getD (st.length - 2) 0 = x at ht ⊢
    by_cases hx : x = 2
    · by_cases hy : y = 2
      · subst hx hy; rfl
      · subst hx; simp [takesM, rwV, chk, hy]
    · simp [takesM, rwV, chk, hx]
  · subst e
    have hl : 2 ≤ st.length := hp
    have hd : st.drop (st.length - popV 11) = [st.getD (st.length - 2) 0, topV st] := drop2 st hl
    have ht := under_pos st hl hpos
    have hr : takesV ⟨11, arg⟩ ⟨st, sl⟩ = (opT 14 (st.getD (st.length - 2) 0) (topV st)).isSome := rfl
    rw [hd, hr, opT_bin _ _ _ (by decide) (by decide)]
    generalize topV st = y
    generalize st.getD (st.length - 2) 0 = x at ht ⊢
    by_cases hx : x = 2
    · by_cases hy : y = 2
      · subst hx hy; rfl
      · subst hx; simp [takesM, rwV, chk, hy]
    · simp [takesM, rwV, chk, hx]
  · subst e
    have hl : 2 ≤ st.length := hp
    have hd : st.drop (st.length - popV 12) = [st.getD (st.length - 2) 0, topV st] := drop2 st hl
    have ht := under_pos st hl hpos
    have hr : takesV ⟨12, arg⟩ ⟨st, sl⟩ = (opT 15 (st.getD (st.length - 2) 0) (topV st)).isSome := rfl
    rw [hd, hr, opT_bin _ _ _ (by decide) (by decide)]
    generalize topV st = y
    generalize st.getD (st.length - 2) 0 = x at ht ⊢
    by_cases hx : x = 2
    · by_cases hy : y = 2
      · subst hx hy; rfl
      · subst hx; simp [takesM, rwV, chk, hy]
    · simp [takesM, rwV, chk, hx]
  · subst e
    have hl : 2 ≤ st.length := hp
    have hd : st.drop (st.length - popV 13) = [st.getD (st.length - 2) 0, topV st] := drop2 st hl
    have ht := under_pos st hl hpos
    have hr : takesV ⟨13, arg⟩ ⟨st, sl⟩ = (opT 16 (st.getD (st.length - 2) 0) (topV st)).isSome := rfl
    rw [hd, hr, opT_bin _ _ _ (by decide) (by decide)]
    generalize topV st = y
    generalize st.getD (st.length - 2) 0 = x at ht ⊢
    by_cases hx : x = 4
    · by_cases hy : y = 4
      · subst hx hy; rfl
      · subst hx; simp [takesM, rwV, chk, hy]
    · simp [takesM, rwV, chk, hx]
  · subst e
    have hl : 2 ≤ st.length := hp
    have hd : st.drop (st.length - popV 14) = [st.getD (st.length - 2) 0, topV st] := drop2 st hl
    have ht := under_pos st hl hpos
    have hr : takesV ⟨14, arg⟩ ⟨st, sl⟩ = (opT 17 (st.getD (st.length - 2) 0) (topV st)).isSome := rfl
    rw [hd, hr, opT_bin _ _ _ (by decide) (by decide)]
    generalize topV st = y
    generalize st.getD (st.length - 2) 0 = x at ht ⊢
    by_cases hx : x = 4
    · by_cases hy : y = 4
      · subst hx hy; rfl
      · subst hx; simp [takesM, rwV, chk, hy]
    · simp [takesM, rwV, chk, hx]
  · subst e
    have hl : 2 ≤ st.length := hp
    have hd : st.drop (st.length - popV 15) = [st.getD (st.length - 2) 0, topV st] := drop2 st hl
    have ht := under_pos st hl hpos
    have hr : takesV ⟨15, arg⟩ ⟨st, sl⟩ = (opT 18 (st.getD (st.length - 2) 0) (topV st)).isSome := rfl
    rw [hd, hr, opT_bin _ _ _ (by decide) (by decide)]
    generalize topV st = y
    generalize st.getD (st.length - 2) 0 = x at ht ⊢
    by_cases hx : x = 4
    · by_cases hy : y = 4
      · subst hx hy; rfl
      · subst hx; simp [takesM, rwV, chk, hy]
    · simp [takesM, rwV, chk, hx]
  · subst e
    have hl : 2 ≤ st.length := hp
    have hd : st.drop (st.length - popV 16) = [st.getD (st.length - 2) 0, topV st] := drop2 st hl
    have ht := under_pos st hl hpos
    have hr : takesV ⟨16, arg⟩ ⟨st, sl⟩ = (opT 19 (st.getD (st.length - 2) 0) (topV st)).isSome := rfl
    rw [hd, hr, opT_bin _ _ _ (by decide) (by decide)]
    generalize topV st = y
    generalize st.getD (st.length - 2) 0 = x at ht ⊢
    by_cases hx : x = y
    · subst hx; simp [takesM, rwV, chk]
    · have hx0 : ¬ x = 0 := by omega
      simp [takesM, rwV, chk, hx0, hx]
      intro e
      exact hx e.symm
  · subst e
    have hl : 2 ≤ st.length := hp
    have hd : st.drop (st.length - popV 17) = [st.getD (st.length - 2) 0, topV st] := drop2 st hl
    have ht := under_pos st hl hpos
    have hr : takesV ⟨17, arg⟩ ⟨st, sl⟩ = (opT 20 (st.getD (st.length - 2) 0) (topV st)).isSome := rfl
    rw [hd, hr, opT_bin _ _ _ (by decide) (by decide)]
    generalize topV st = y
    generalize st.getD (st.length - 2) 0 = x at ht ⊢
    by_cases hx : x = y
    · subst hx; simp [takesM, rwV, chk]
    · have hx0 : ¬ x = 0 := by omega
      simp [takesM, rwV, chk, hx0, hx]
      intro e
      exact hx e.symm
  · subst e
    have hl : 2 ≤ st.length := hp
    have hd : st.drop (st.length - popV 18) = [st.getD (st.length - 2) 0, topV st] := drop2 st hl
    have ht := under_pos st hl hpos
    have hr : takesV ⟨18, arg⟩ ⟨st, sl⟩ = (opT 21 (st.getD (st.length - 2) 0) (topV st)).isSome := rfl
    rw [hd, hr, opT_bin _ _ _ (by decide) (by decide)]
    generalize topV st = y
    generalize st.getD (st.length - 2) 0 = x at ht ⊢
    by_cases hx : x = 2
    · by_cases hy : y = 2
      · subst hx hy; rfl
      · subst hx; simp [takesM, rwV, chk, hy]
    · simp [takesM, rwV, chk, hx]
  · subst e
    have hl : 2 ≤ st.length := hp
    have hd : st.drop (st.length - popV 19) = [st.getD (st.length - 2) 0, topV st] := drop2 st hl
    have ht := under_pos st hl hpos
    have hr : takesV ⟨19, arg⟩ ⟨st, sl⟩ = (opT 22 (st.getD (st.length - 2) 0) (topV st)).isSome := rfl
    rw [hd, hr, opT_bin _ _ _ (by decide) (by decide)]
    generalize topV st = y
    generalize st.getD (st.length - 2) 0 = x at ht ⊢
    by_cases hx : x = 2
    · by_cases hy : y = 2
      · subst hx hy; rfl
      · subst hx; simp [takesM, rwV, chk, hy]
    · simp [takesM, rwV, chk, hx]
  · subst e
    have hl : 2 ≤ st.length := hp
    have hd : st.drop (st.length - popV 20) = [st.getD (st.length - 2) 0, topV st] := drop2 st hl
    have ht := under_pos st hl hpos
    have hr : takesV ⟨20, arg⟩ ⟨st, sl⟩ = (opT 23 (st.getD (st.length - 2) 0) (topV st)).isSome := rfl
    rw [hd, hr, opT_bin _ _ _ (by decide) (by decide)]
    generalize topV st = y
    generalize st.getD (st.length - 2) 0 = x at ht ⊢
    by_cases hx : x = 3
    · by_cases hy : y = 4
      · subst hx hy; rfl
      · subst hx; simp [takesM, rwV, chk, hy]
    · simp [takesM, rwV, chk, hx]
  · subst e
    have hl : 2 ≤ st.length := hp
    have hd : st.drop (st.length - popV 21) = [st.getD (st.length - 2) 0, topV st] := drop2 st hl
    have ht := under_pos st hl hpos
    have hr : takesV ⟨21, arg⟩ ⟨st, sl⟩ = (opT 24 (st.getD (st.length - 2) 0) (topV st)).isSome := rfl
    rw [hd, hr, opT_bin _ _ _ (by decide) (by decide)]
    generalize topV st = y
    generalize st.getD (st.length - 2) 0 = x at ht ⊢
    by_cases hx : x = 4
    · by_cases hy : y = 4
      · subst hx hy; rfl
      · subst hx; simp [takesM, rwV, chk, hy]
    · simp [takesM, rwV, chk, hx]
  · subst e; rfl
  · subst e
    have hl : 1 ≤ st.length := hp
    have hd : st.drop (st.length - popV 23) = [topV st] := drop1 st hl
    have ht := top_pos st hl hpos
    rw [hd]
    have hr : takesV ⟨23, arg⟩ ⟨st, sl⟩ = decide (topV st = 1) := rfl
    rw [hr]
    generalize topV st = x at ht ⊢
    simp [takesM, chk]
    try (split <;> simp_all)
  · subst e; rfl
  · subst e
    have hl : 1 ≤ st.length := hp
    have hd : st.drop (st.length - popV 25) = [topV st] := drop1 st hl
    have ht := top_pos st hl hpos
    rw [hd]
    have hr : takesV ⟨25, arg⟩ ⟨st, sl⟩ = decide (topV st = 4) := rfl
    rw [hr]
    generalize topV st = x at ht ⊢
    simp [takesM, chk]
    try (split <;> simp_all)

/-- what is pushed, where the types fit -/
theorem takes_push (PK : List Int) (i : Is1) (st sl : List Int) (h0 : 1 ≤ i.op) (h1 : i.op ≤ 25) (ht : takesV i ⟨st, sl⟩ = true) : (takesM PK i sl).2 = pushV PK i ⟨st, sl⟩ := by
  obtain ⟨op, arg⟩ := i
  simp only at h0 h1
  by_cases h5 : 5 ≤ op ∧ op ≤ 21
  · have hp := pushV_op (PK := PK) (i := ⟨op, arg⟩) (s := ⟨st, sl⟩) h5.1 h5.2
    rw [hp]
    have ht' : (resV op st).isSome = true := by
      have : takesV ⟨op, arg⟩ ⟨st, sl⟩ = (resV op st).isSome := by
        unfold takesV
        rw [if_neg (by show ¬ (op = 1 ∨ op = 2 ∨ op = 3 ∨ op = 22 ∨ op = 24); omega), if_neg (by show ¬ op = 4; omega), if_neg (by show ¬ op = 23; omega), if_neg (by show ¬ op = 25; omega)]
      rw [← this]; exact ht
    have hm : takesM PK ⟨op, arg⟩ sl = rwV (op + 3) := by
      unfold takesM
      rw [if_neg (by show ¬ op = 1; omega), if_neg (by show ¬ op = 2; omega), if_neg (by show ¬ op = 3; omega), if_neg (by show ¬ op = 4; omega), if_neg (by show ¬ (op = 22 ∨ op = 24); omega), if_neg (by show ¬ op = 23; omega), if_neg (by show ¬ op = 25; omega)]
    rw [hm]
    by_cases h7 : op ≤ 7
    · have hr : resV op st = opT (op + 3) (topV st) 0 := by
        have : popV op = 1 := by
          have : op = 5 ∨ op = 6 ∨ op = 7 := by omega
          rcases this with rfl | rfl | rfl <;> rfl
        unfold resV
        rw [if_pos this]
      rw [hr, opT_un _ _ (by omega) (by omega)] at ht' ⊢
      have : op = 5 ∨ op = 6 ∨ op = 7 := by omega
      rcases this with rfl | rfl | rfl
      all_goals
        simp [rwV] at ht' ⊢
        rw [if_pos ht']
        rfl
    · have hr : resV op st = opT (op + 3) (st.getD (st.length - 2) 0) (topV st) := by
        have : popV op = 2 := by
          rcases op25 h0 h1 with e | e | e | e | e | e | e | e | e | e | e | e | e | e | e | e | e | e | e | e | e | e | e | e | e
          all_goals subst e
          all_goals first | rfl | omega
        unfold resV
        rw [if_neg (by omega)]
      rw [hr, opT_bin _ _ _ (by omega) (by omega)] at ht' ⊢
      generalize topV st = y at ht' ⊢
      generalize st.getD (st.length - 2) 0 = x at ht' ⊢
      have : op = 8 ∨ op = 9 ∨ op = 10 ∨ op = 11 ∨ op = 12 ∨ op = 13 ∨ op = 14 ∨ op = 15 ∨ op = 16 ∨ op = 17 ∨ op = 18 ∨ op = 19 ∨ op = 20 ∨ op = 21 := by omega
      rcases this with rfl | rfl | rfl | rfl | rfl | rfl | rfl | rfl | rfl | rfl | rfl | rfl | rfl | rfl
      all_goals
        simp [rwV] at ht' ⊢
        simp [ht']
  · have : op = 1 ∨ op = 2 ∨ op = 3 ∨ op = 4 ∨ op = 22 ∨ op = 23 ∨ op = 24 ∨ op = 25 := by omega
    rcases this with rfl | rfl | rfl | rfl | rfl | rfl | rfl | rfl <;> rfl

end Go.Proofs.YtogenboibgddaaaGreatDoor

namespace Go.Proofs.YtogenboibgddaaaGreatDoor
open Go.RowKit Go.Lib
set_option linter.unusedVariables false

/-- a state's two lists -/
structure Lt (w : World) (ta tb : Option Addr) (tn tc tm td : Nat) (s : Vs) : Prop where
  st : Ints w ta tn tc s.stack
  sl : Ints w tb tm td s.slots
  n1 : ta = none → tc = 0
  n2 : tb = none → td = 0

theorem Lt.below {w w' : World} {ta tb : Option Addr} {tn tc tm td B : Nat} {s : Vs} (h : Lt w ta tb tn tc tm td s) (hb : Below B w w') (hB : w.heap.size ≤ B) : Lt w' ta tb tn tc tm td s := ⟨h.st.below hb hB, h.sl.below hb hB, h.n1, h.n2⟩

/-- what a step answers -/
def SpA (w : World) (kn : Bool) (r : Int × Vs) (e : Ending) (w' : World) : Prop := ∃ v, e = .returned (.tuple #[v, .int .i64 r.1]) ∧ Below w.heap.size w w' ∧ (r.1 = 0 → ∃ x c y d, v = .agg #[.bool kn, .slice x r.2.stack.length c, .slice y r.2.slots.length d] ∧ Lt w' x y r.2.stack.length c r.2.slots.length d r.2 ∧ (∀ ad, x = some ad → w.heap.size ≤ ad.block) ∧ ∀ ad, y = some ad → w.heap.size ≤ ad.block) ∧ ∃ k x1 n1 c1 x2 n2 c2, v = .agg #[.bool k, .slice x1 n1 c1, .slice x2 n2 c2]

theorem chk_step (want got : List Int) (av : Int) (j p : Nat) (hj : j < want.length) (hp : p < got.length) : chk (want.drop j) (got.drop p) av = if (want[j] = 0 ∧ got[p] ≠ (if want[j] = 0 ∧ av = 0 then got[p] else av)) ∨ (0 < want[j] ∧ got[p] ≠ want[j]) then false else chk (want.drop (j + 1)) (got.drop (p + 1)) (if want[j] = 0 ∧ av = 0 then got[p] else av) := by
  rw [List.drop_eq_getElem_cons hj, List.drop_eq_getElem_cons hp, chk]

theorem getD_nonneg (l : List Int) (j : Nat) (h : ∀ x ∈ l, 0 ≤ x) : 0 ≤ l.getD j 0 := by
  rw [List.getD]
  cases hj : l[j]? with
  | none => simp
  | some x => exact h x (List.mem_of_getElem? hj)

theorem rwV_nonneg (op : Int) : 0 ≤ (rwV op).2 := by
  unfold rwV
  repeat' split
  all_goals decide

/-- what is pushed is a type, or nothing -/
theorem takesM_nonneg (PK : List Int) (i : Is1) (sl : List Int) (h1 : ∀ x ∈ PK, 1 ≤ x) (h2 : ∀ x ∈ sl, 0 ≤ x) : 0 ≤ (takesM PK i sl).2 := by
  unfold takesM
  split
  · exact getD_nonneg PK _ (fun x hx => by have := h1 x hx; omega)
  split
  · show 0 ≤ attrT i.arg
    unfold attrT
    repeat' split
    all_goals decide
  split
  · exact getD_nonneg sl _ h2
  repeat' split
  all_goals first | decide | exact rwV_nonneg _

/-- what is one's own, less what lies behind -/
theorem owns_take {w : World} {lo e n c : Nat} {x : Option Addr} {xs : List Value} (h : w.ownsRow lo e 1 (.slice x n c) n xs) (k : Nat) (hk : k ≤ n) : w.ownsRow lo e 1 (.slice x k c) k (xs.take k) := by
  obtain ⟨h0, h1⟩ := h
  refine ⟨by rw [List.length_take, h0]; omega, ?_⟩
  rcases h1 with ⟨hv, hn⟩ | ⟨g, cap, cur, hv, hg, hc, h2, h3, h4, h5⟩
  · simp only [Value.slice.injEq] at hv
    obtain ⟨rfl, _, rfl⟩ := hv
    exact .inl ⟨by rw [show k = 0 by omega], by omega⟩
  · simp only [Value.slice.injEq] at hv
    obtain ⟨rfl, _, rfl⟩ := hv
    refine .inr ⟨g, c, cur, rfl, hg, hc, by omega, h3, h4, ?_⟩
    rw [← h5, List.take_take]
    congr 1
    omega

/-- the variables of a step -/
def Fr (w W : World) (v0 v1 v2 : Value) (kn : Bool) (ta tb : Option Addr) (tn tc tm td : Nat) (op arg : Int) : Prop :=
  Row W w.heap.size #[v0, v1, v2] 39 ∧ Row W (w.heap.size + 1) #[.bool kn, .slice ta tn tc, .slice tb tm td] 79 ∧ Row W (w.heap.size + 1 + 1) #[.bool false, .slice none 0 0, .slice none 0 0] 79 ∧ Row W (w.heap.size + 1 + 1 + 1) #[.int .i64 op, .int .i64 arg] 87 ∧ Below w.heap.size w W

theorem Fr.after {w W W' : World} {v0 v1 v2 : Value} {kn : Bool} {ta tb : Option Addr} {tn tc tm td : Nat} {op arg : Int} (h : Fr w W v0 v1 v2 kn ta tb tn tc tm td op arg) (hb : Below W.heap.size W W') : Fr w W' v0 v1 v2 kn ta tb tn tc tm td op arg := by
  obtain ⟨h0, h1, h2, h3, h4⟩ := h
  exact ⟨h0.after hb (Nat.le_refl _), h1.after hb (Nat.le_refl _), h2.after hb (Nat.le_refl _), h3.after hb (Nat.le_refl _), h4.trans (hb.mono h4.size)⟩

theorem Fr.grown {w W W' : World} {v0 v1 v2 : Value} {kn : Bool} {ta tb : Option Addr} {tn tc tm td : Nat} {op arg : Int} (h : Fr w W v0 v1 v2 kn ta tb tn tc tm td op arg) {x : Option Nat} {lo : Nat} (hg : W.grownBy W' x) (hx : ∀ q, x = some q → lo ≤ q) (hl : w.heap.size + 1 + 1 + 1 < lo) : Fr w W' v0 v1 v2 kn ta tb tn tc tm td op arg := by
  obtain ⟨h0, h1, h2, h3, h4⟩ := h
  exact ⟨h0.grown hg (fun e => by have := hx _ e.symm; omega), h1.grown hg (fun e => by have := hx _ e.symm; omega), h2.grown hg (fun e => by have := hx _ e.symm; omega), h3.grown hg (fun e => by have := hx _ e.symm; omega), h4.grown hg h4.size (fun q hq => by have := hx q hq; omega)⟩

theorem Fr.far {w W : World} {v0 v1 v2 : Value} {kn : Bool} {ta tb : Option Addr} {tn tc tm td : Nat} {op arg : Int} (h : Fr w W v0 v1 v2 kn ta tb tn tc tm td op arg) (p : Addr) (v : Value) (hp : w.heap.size + 1 + 1 + 1 < p.block) : Fr w (W.setCell p v) v0 v1 v2 kn ta tb tn tc tm td op arg := by
  obtain ⟨h0, h1, h2, h3, h4⟩ := h
  exact ⟨h0.setFar (by omega) v, h1.setFar (by omega) v, h2.setFar (by omega) v, h3.setFar (by omega) v, h4.setCell (by omega) v⟩

/-- the cells that a walk comes to -/
theorem Fr.cells {w W : World} {v0 v1 v2 : Value} {kn : Bool} {ta tb : Option Addr} {tn tc tm td : Nat} {op arg : Int} (h : Fr w W v0 v1 v2 kn ta tb tn tc tm td op arg) :
    (W.cell? ⟨w.heap.size, 0, none⟩ = some v0 ∧ W.cell? ⟨w.heap.size, 1, none⟩ = some v1 ∧ W.cell? ⟨w.heap.size, 2, none⟩ = some v2) ∧ (W.cell? ⟨w.heap.size + 1, 0, none⟩ = some (.bool kn) ∧ W.cell? ⟨w.heap.size + 1, 1, none⟩ = some (.slice ta tn tc) ∧ W.cell? ⟨w.heap.size + 1, 2, none⟩ = some (.slice tb tm td)) ∧
    (W.cell? ⟨w.heap.size + 1 + 1, 0, none⟩ = some (.bool false) ∧ W.cell? ⟨w.heap.size + 1 + 1, 1, none⟩ = some (.slice none 0 0) ∧ W.cell? ⟨w.heap.size + 1 + 1, 2, none⟩ = some (.slice none 0 0)) ∧ (W.cell? ⟨w.heap.size + 1 + 1 + 1, 0, none⟩ = some (.int .i64 op) ∧ W.cell? ⟨w.heap.size + 1 + 1 + 1, 1, none⟩ = some (.int .i64 arg)) ∧
    W.frozen? ⟨w.heap.size + 1 + 1, 0, none⟩ = false ∧ W.frozen? ⟨w.heap.size + 1 + 1, 1, none⟩ = false ∧ W.frozen? ⟨w.heap.size + 1 + 1, 2, none⟩ = false := by
  obtain ⟨h0, h1, h2, h3, h4⟩ := h
  exact ⟨rowC h0, rowC h1, rowC h2, rowS h3, h2.frozen 0, h2.frozen 1, h2.frozen 2⟩

/-- the result is laid -/
theorem Fr.put {w W : World} {v0 v1 v2 : Value} {kn : Bool} {ta tb : Option Addr} {tn tc tm td : Nat} {op arg : Int} (h : Fr w W v0 v1 v2 kn ta tb tn tc tm td op arg) (x y z : Value) :
    ((((W.setCell ⟨w.heap.size + 1 + 1, 0, none⟩ x).setCell ⟨w.heap.size + 1 + 1, 1, none⟩ y).setCell ⟨w.heap.size + 1 + 1, 2, none⟩ z).cell? ⟨w.heap.size + 1 + 1, 0, none⟩ = some x ∧ (((W.setCell ⟨w.heap.size + 1 + 1, 0, none⟩ x).setCell ⟨w.heap.size + 1 + 1, 1, none⟩ y).setCell ⟨w.heap.size + 1 + 1, 2, none⟩ z).cell? ⟨w.heap.size + 1 + 1, 1, none⟩ = some y ∧ (((W.setCell ⟨w.heap.size + 1 + 1, 0, none⟩ x).setCell ⟨w.heap.size + 1 + 1, 1, none⟩ y).setCell ⟨w.heap.size + 1 + 1, 2, none⟩ z).cell? ⟨w.heap.size + 1 + 1, 2, none⟩ = some z) ∧
    Below w.heap.size w (((W.setCell ⟨w.heap.size + 1 + 1, 0, none⟩ x).setCell ⟨w.heap.size + 1 + 1, 1, none⟩ y).setCell ⟨w.heap.size + 1 + 1, 2, none⟩ z) := by
  obtain ⟨h0, h1, h2, h3, h4⟩ := h
  have R := ((h2.set 0 x).set 1 y).set 2 z
  simp only [List.setIfInBounds_toArray, List.set_cons_zero, List.set_cons_succ] at R
  refine ⟨rowC R, ?_⟩
  have e : w.heap.size ≤ w.heap.size + 1 + 1 := by omega
  exact ((h4.setCell (p := ⟨w.heap.size + 1 + 1, 0, none⟩) e x).setCell (p := ⟨w.heap.size + 1 + 1, 1, none⟩) e y).setCell (p := ⟨w.heap.size + 1 + 1, 2, none⟩) e z

/-- numbers of one's own do not lie in a block of another type -/
theorem owns_ne {w : World} {lo e n c b q : Nat} {x : Option Addr} {xs : List Value} {cs : Array Value} {t : TypeId} (h : w.ownsRow lo e 1 (.slice x n c) n xs) (R : Row w b cs t) (ht : e ≠ t) (hx : x = some ⟨q, 0, none⟩) : q ≠ b := by
  rcases h.2 with ⟨hv, _⟩ | ⟨g, cap, cur, hv, _, hc, _⟩
  · simp only [Value.slice.injEq] at hv
    rw [hv.1] at hx
    cases hx
  · simp only [Value.slice.injEq] at hv
    rw [hv.1] at hx
    cases hx
    intro e'
    subst e'
    have := R.out
    rw [hc] at this
    simp only [Option.some.injEq, Obj.cells.injEq] at this
    exact ht this.2.1

/-- a store into a block of another type -/
theorem owns_set {w : World} {lo e n c : Nat} {x : Option Addr} {xs : List Value} {cs : Array Value} {t : TypeId} (h : w.ownsRow lo e 1 (.slice x n c) n xs) (p : Addr) (R : Row w p.block cs t) (ht : e ≠ t) (v : Value) : (w.setCell p v).ownsRow lo e 1 (.slice x n c) n xs :=
  owns_block h (fun q _ _ hx => heap_setCell_other w p q v (owns_ne h R ht hx))

theorem int_ne_state : (3 : TypeId) ≠ 79 := by decide

/-- the state that a step ends with -/
theorem step_fin {w W : World} {v0 v1 v2 : Value} {kn : Bool} {ta tb x y : Option Addr} {tn tc tm td k c l d lo : Nat} {op arg : Int} {st sl : List Int} (hF : Fr w W v0 v1 v2 kn ta tb tn tc tm td op arg) (o1 : W.ownsRow lo 3 1 (.slice x k c) k (intsV st)) (o2 : W.ownsRow lo 3 1 (.slice y l d) l (intsV sl)) (hlo : w.heap.size ≤ lo) (hk : k ≤ 1048576) (hl : l ≤ 1048576) :
    Lt (((W.setCell ⟨w.heap.size + 1 + 1, 0, none⟩ (.bool kn)).setCell ⟨w.heap.size + 1 + 1, 1, none⟩ (.slice x k c)).setCell ⟨w.heap.size + 1 + 1, 2, none⟩ (.slice y l d)) x y k c l d ⟨st, sl⟩ ∧ (∀ ad, x = some ad → w.heap.size ≤ ad.block) ∧ ∀ ad, y = some ad → w.heap.size ≤ ad.block := by
  obtain ⟨_, _, R, _, _⟩ := hF
  have R1 := R.set 0 (.bool kn)
  have R2 := R1.set 1 (.slice x k c)
  have a1 := owns_set (owns_set (owns_set o1 ⟨w.heap.size + 1 + 1, 0, none⟩ R int_ne_state (.bool kn)) ⟨w.heap.size + 1 + 1, 1, none⟩ R1 int_ne_state (.slice x k c)) ⟨w.heap.size + 1 + 1, 2, none⟩ R2 int_ne_state (.slice y l d)
  have a2 := owns_set (owns_set (owns_set o2 ⟨w.heap.size + 1 + 1, 0, none⟩ R int_ne_state (.bool kn)) ⟨w.heap.size + 1 + 1, 1, none⟩ R1 int_ne_state (.slice x k c)) ⟨w.heap.size + 1 + 1, 2, none⟩ R2 int_ne_state (.slice y l d)
  have nl : ∀ {z : Option Addr} {n' c' : Nat} {xs : List Value} {W' : World}, W'.ownsRow lo 3 1 (.slice z n' c') n' xs → (z = none → c' = 0) := fun {z n' c' xs W'} h e => by
    rcases h.2 with ⟨hv, _⟩ | ⟨g, cap, cur, hv, _⟩
    · simp only [Value.slice.injEq] at hv; exact hv.2.2
    · simp only [Value.slice.injEq] at hv; rw [hv.1] at e; cases e
  refine ⟨⟨ints_own a1 hk, ints_own a2 hl, nl a1, nl a2⟩, fun ad e => ?_, fun ad e => ?_⟩
  · exact Nat.le_trans hlo (o1.lt ad.block (by rw [e]; rfl)).1
  · exact Nat.le_trans hlo (o2.lt ad.block (by rw [e]; rfl)).1


end Go.Proofs.YtogenboibgddaaaGreatDoor

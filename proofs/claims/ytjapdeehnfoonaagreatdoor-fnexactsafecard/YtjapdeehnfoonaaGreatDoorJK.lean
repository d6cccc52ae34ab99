/-
  All statements, looked at by the checker. Own work.
-/
import Derived.Test.YtjapdeehnfoonaaGreatDoorJR
import Derived.Test.YtjapdeehnfoonaaGreatDoorQK
namespace Go.Proofs.YtjapdeehnfoonaaGreatDoor
open Go.RowKit
set_option linter.unusedVariables false

abbrev CkS := List ByteArray × List Int × List Int

open Classical in
/-- a condition's type is found -/
noncomputable def ckE (kd : Int) (nm : ByteArray) (st : CkS) (ot : Option Int) (ys : List Int) : Option CkS :=
  if kd = 1 then (match ot with | some t => if nm ∈ st.1 then none else some (st.1 ++ [nm], st.2.1 ++ [t], st.2.2 ++ ys) | none => none)
  else (match ot with | some t => if t = 1 then some (st.1, st.2.1, st.2.2 ++ ys) else none | none => none)

def ckG (st : CkS) (ot : Option Int) (ys : List Int) : Option CkS := match ot with | some t => if t = 4 then some (st.1, st.2.1, st.2.2 ++ ys) else none | none => none

noncomputable def ckCond (Es : List Ex) (st : CkS) (s : St) : Option CkS := if s.cond = -1 then some st else match Es[s.cond.toNat]? with
  | some e => ckE s.kind s.name st (tyE st.2.1 e) (tysE st.2.1 e)
  | none => none

def ckGrant (Es : List Ex) (st : CkS) (s : St) : Option CkS := if s.grant = -1 then some st else match Es[s.grant.toNat]? with
  | some e => ckG st (tyE st.2.1 e) (tysE st.2.1 e)
  | none => none

/-- a place is none, or bears a typed tree -/
def okP (Es : List Ex) (k : Int) : Prop := k = -1 ∨ ∃ (m : Nat) (e : Ex), k = m ∧ Es[m]? = some e ∧ e.typed ∧ e.cnt ≤ 4000

theorem formV_opt (Es : List Ex) (k : Int) : formV (optV Es k) := by
  rw [optV]
  split
  · exact .inl rfl
  · split
    · exact .inr (Ex.form _)
    · exact .inl rfl

theorem condition_tree (B cb mb : Nat) (st : CkS) (lv tv : Value) (w0 : World) (aT aN aA : Addr) (hV : Vok w0 aT) (hE : Eok w0 aN aA) (hB : w0.heap.size ≤ B) (hts : ∀ t ∈ st.2.1, 1 ≤ t ∧ t ≤ 4) (hl : st.2.1.length ≤ 1000) (j : Nat) (kd : Int) (nm : ByteArray) (gv : Value) (hg : formV gv) (e : Ex) (he : e.typed) (w : World) (hw : Below B w0 w) (h : Cm B cb mb st.1 st.2.1 st.2.2 lv tv w) (hz : st.2.2.length + e.cnt ≤ 4000) :
    Calls Tryz.prog 55 #[.pointer (some ⟨cb, 0, none⟩), .agg #[.int .i64 j, .int .i64 kd, .string nm, e.val, gv]] w (GoAns B cb mb lv tv (ckE kd nm st (tyE st.2.1 e) (tysE st.2.1 e)) w) := by
  have V := hide (typeOf_any B cb st.2.1 (.map (some mb)) lv w0 aT aN aA hV hE hB hts (by omega) e he)
  rw [← tysE_len st.2.1 e] at hz
  generalize tysE st.2.1 e = ys at V hz ⊢
  generalize tyE st.2.1 e = ot at V ⊢
  by_cases hk : kd = 1
  · subst hk
    unfold ckE
    rw [if_pos rfl]
    cases e with
    | int i n => cases ot <;> exact condition_let_leaf B cb mb st.1 st.2.1 st.2.2 lv tv w0 aT aN aA hV hE hB j nm _ _ i (place_int i n) gv hg _ _ V w hw h hz hl
    | text i s => cases ot <;> exact condition_let_leaf B cb mb st.1 st.2.1 st.2.2 lv tv w0 aT aN aA hV hE hB j nm _ _ i (place_text i s) gv hg _ _ V w hw h hz hl
    | bool i b => cases ot <;> exact condition_let_leaf B cb mb st.1 st.2.1 st.2.2 lv tv w0 aT aN aA hV hE hB j nm _ _ i (place_bool i b) gv hg _ _ V w hw h hz hl
    | set i a n c ss => cases ot <;> exact condition_let_leaf B cb mb st.1 st.2.1 st.2.2 lv tv w0 aT aN aA hV hE hB j nm _ _ i (place_set i a n c) gv hg _ _ V w hw h hz hl
    | attr i n => cases ot <;> exact condition_let_leaf B cb mb st.1 st.2.1 st.2.2 lv tv w0 aT aN aA hV hE hB j nm _ _ i (place_attr i n) gv hg _ _ V w hw h hz hl
    | lett i n => cases ot <;> exact condition_let_leaf B cb mb st.1 st.2.1 st.2.2 lv tv w0 aT aN aA hV hE hB j nm _ _ i (place_lett i n) gv hg _ _ V w hw h hz hl
    | name i s => exact absurd he id
    | un i op k =>
      obtain ⟨tk, uk, vk⟩ := k.form
      simp only [Ex.val, vk] at V ⊢
      cases ot <;> exact condition_let_un B cb mb st.1 st.2.1 st.2.2 lv tv w0 aT aN aA hV hE hB j nm i op tk uk gv hg _ _ V w hw h hz hl
    | bin i op k l =>
      obtain ⟨tk, uk, vk⟩ := k.form
      obtain ⟨tl, ul, vl⟩ := l.form
      simp only [Ex.val, vk, vl] at V ⊢
      cases ot <;> exact condition_let_bin B cb mb st.1 st.2.1 st.2.2 lv tv w0 aT aN aA hV hE hB j nm i op tk uk tl ul gv hg _ _ V w hw h hz hl
    | ite i k l m =>
      obtain ⟨tk, uk, vk⟩ := k.form
      obtain ⟨tl, ul, vl⟩ := l.form
      obtain ⟨tm, um, vm⟩ := m.form
      simp only [Ex.val, vk, vl, vm] at V ⊢
      cases ot <;> exact condition_let_ite B cb mb st.1 st.2.1 st.2.2 lv tv w0 aT aN aA hV hE hB j nm i tk uk tl ul tm um gv hg _ _ V w hw h hz hl
  · unfold ckE
    rw [if_neg hk]
    have hk2 : (kd == 1) = false := beq_eq_false_iff_ne.2 hk
    cases e with
    | int i n => cases ot <;> exact condition_when_leaf B cb mb st.1 st.2.1 st.2.2 lv tv w0 aT aN aA hV hE hB j kd hk2 nm _ _ i (place_int i n) gv hg _ _ V w hw h hz hl
    | text i s => cases ot <;> exact condition_when_leaf B cb mb st.1 st.2.1 st.2.2 lv tv w0 aT aN aA hV hE hB j kd hk2 nm _ _ i (place_text i s) gv hg _ _ V w hw h hz hl
    | bool i b => cases ot <;> exact condition_when_leaf B cb mb st.1 st.2.1 st.2.2 lv tv w0 aT aN aA hV hE hB j kd hk2 nm _ _ i (place_bool i b) gv hg _ _ V w hw h hz hl
    | set i a n c ss => cases ot <;> exact condition_when_leaf B cb mb st.1 st.2.1 st.2.2 lv tv w0 aT aN aA hV hE hB j kd hk2 nm _ _ i (place_set i a n c) gv hg _ _ V w hw h hz hl
    | attr i n => cases ot <;> exact condition_when_leaf B cb mb st.1 st.2.1 st.2.2 lv tv w0 aT aN aA hV hE hB j kd hk2 nm _ _ i (place_attr i n) gv hg _ _ V w hw h hz hl
    | lett i n => cases ot <;> exact condition_when_leaf B cb mb st.1 st.2.1 st.2.2 lv tv w0 aT aN aA hV hE hB j kd hk2 nm _ _ i (place_lett i n) gv hg _ _ V w hw h hz hl
    | name i s => exact absurd he id
    | un i op k =>
      obtain ⟨tk, uk, vk⟩ := k.form
      simp only [Ex.val, vk] at V ⊢
      cases ot <;> exact condition_when_un B cb mb st.1 st.2.1 st.2.2 lv tv w0 aT aN aA hV hE hB j kd hk2 nm i op tk uk gv hg _ _ V w hw h hz hl
    | bin i op k l =>
      obtain ⟨tk, uk, vk⟩ := k.form
      obtain ⟨tl, ul, vl⟩ := l.form
      simp only [Ex.val, vk, vl] at V ⊢
      cases ot <;> exact condition_when_bin B cb mb st.1 st.2.1 st.2.2 lv tv w0 aT aN aA hV hE hB j kd hk2 nm i op tk uk tl ul gv hg _ _ V w hw h hz hl
    | ite i k l m =>
      obtain ⟨tk, uk, vk⟩ := k.form
      obtain ⟨tl, ul, vl⟩ := l.form
      obtain ⟨tm, um, vm⟩ := m.form
      simp only [Ex.val, vk, vl, vm] at V ⊢
      cases ot <;> exact condition_when_ite B cb mb st.1 st.2.1 st.2.2 lv tv w0 aT aN aA hV hE hB j kd hk2 nm i tk uk tl ul tm um gv hg _ _ V w hw h hz hl

theorem grant_tree (B cb mb : Nat) (st : CkS) (lv tv : Value) (w0 : World) (aT aN aA : Addr) (hV : Vok w0 aT) (hE : Eok w0 aN aA) (hB : w0.heap.size ≤ B) (hts : ∀ t ∈ st.2.1, 1 ≤ t ∧ t ≤ 4) (hl : st.2.1.length ≤ 1000) (j : Nat) (kd : Int) (nm : ByteArray) (gv : Value) (hg : formV gv) (e : Ex) (he : e.typed) (w : World) (hw : Below B w0 w) (h : Cm B cb mb st.1 st.2.1 st.2.2 lv tv w) (hz : st.2.2.length + e.cnt ≤ 4000) :
    Calls Tryz.prog 56 #[.pointer (some ⟨cb, 0, none⟩), .agg #[.int .i64 j, .int .i64 kd, .string nm, gv, e.val]] w (GoAns B cb mb lv tv (ckG st (tyE st.2.1 e) (tysE st.2.1 e)) w) := by
  have V := hide (typeOf_any B cb st.2.1 (.map (some mb)) lv w0 aT aN aA hV hE hB hts (by omega) e he)
  rw [← tysE_len st.2.1 e] at hz
  generalize tysE st.2.1 e = ys at V hz ⊢
  generalize tyE st.2.1 e = ot at V ⊢
  unfold ckG
  cases e with
  | int i n => cases ot <;> exact grant_leaf B cb mb st.1 st.2.1 st.2.2 lv tv w0 aT aN aA hV hE hB j kd nm _ _ i (place_int i n) gv hg _ _ V w hw h hz
  | text i s => cases ot <;> exact grant_leaf B cb mb st.1 st.2.1 st.2.2 lv tv w0 aT aN aA hV hE hB j kd nm _ _ i (place_text i s) gv hg _ _ V w hw h hz
  | bool i b => cases ot <;> exact grant_leaf B cb mb st.1 st.2.1 st.2.2 lv tv w0 aT aN aA hV hE hB j kd nm _ _ i (place_bool i b) gv hg _ _ V w hw h hz
  | set i a n c ss => cases ot <;> exact grant_leaf B cb mb st.1 st.2.1 st.2.2 lv tv w0 aT aN aA hV hE hB j kd nm _ _ i (place_set i a n c) gv hg _ _ V w hw h hz
  | attr i n => cases ot <;> exact grant_leaf B cb mb st.1 st.2.1 st.2.2 lv tv w0 aT aN aA hV hE hB j kd nm _ _ i (place_attr i n) gv hg _ _ V w hw h hz
  | lett i n => cases ot <;> exact grant_leaf B cb mb st.1 st.2.1 st.2.2 lv tv w0 aT aN aA hV hE hB j kd nm _ _ i (place_lett i n) gv hg _ _ V w hw h hz
  | name i s => exact absurd he id
  | un i op k =>
    obtain ⟨tk, uk, vk⟩ := k.form
    simp only [Ex.val, vk] at V ⊢
    cases ot <;> exact grant_un B cb mb st.1 st.2.1 st.2.2 lv tv w0 aT aN aA hV hE hB j kd nm i op tk uk gv hg _ _ V w hw h hz
  | bin i op k l =>
    obtain ⟨tk, uk, vk⟩ := k.form
    obtain ⟨tl, ul, vl⟩ := l.form
    simp only [Ex.val, vk, vl] at V ⊢
    cases ot <;> exact grant_bin B cb mb st.1 st.2.1 st.2.2 lv tv w0 aT aN aA hV hE hB j kd nm i op tk uk tl ul gv hg _ _ V w hw h hz
  | ite i k l m =>
    obtain ⟨tk, uk, vk⟩ := k.form
    obtain ⟨tl, ul, vl⟩ := l.form
    obtain ⟨tm, um, vm⟩ := m.form
    simp only [Ex.val, vk, vl, vm] at V ⊢
    cases ot <;> exact grant_ite B cb mb st.1 st.2.1 st.2.2 lv tv w0 aT aN aA hV hE hB j kd nm i tk uk tl ul tm um gv hg _ _ V w hw h hz

theorem condition_any (B cb mb : Nat) (st : CkS) (lv tv : Value) (w0 : World) (aT aN aA : Addr) (hV : Vok w0 aT) (hE : Eok w0 aN aA) (hB : w0.heap.size ≤ B) (hts : ∀ t ∈ st.2.1, 1 ≤ t ∧ t ≤ 4) (hl : st.2.1.length ≤ 1000) (Es : List Ex) (j : Nat) (s : St) (hs : okP Es s.cond) (w : World) (hw : Below B w0 w) (h : Cm B cb mb st.1 st.2.1 st.2.2 lv tv w) (hz : ∀ m e, s.cond = (m : Nat) → Es[m]? = some e → st.2.2.length + e.cnt ≤ 4000) :
    Calls Tryz.prog 55 #[.pointer (some ⟨cb, 0, none⟩), .agg #[.int .i64 j, .int .i64 s.kind, .string s.name, optV Es s.cond, optV Es s.grant]] w (GoAns B cb mb lv tv (ckCond Es st s) w) := by
  have hg := formV_opt Es s.grant
  rcases hs with e1 | ⟨m, e, e1, e2, e3, _⟩
  · rw [ckCond, if_pos e1, e1, optV_none]
    exact condition_none B cb mb st.1 st.2.1 st.2.2 lv tv j s.kind s.name _ hg w h
  · have z := hz m e e1 e2
    have eo : optV Es s.cond = e.val := by rw [e1, optV, if_neg (by omega), Int.toNat_natCast, e2]
    rw [ckCond, if_neg (by omega), e1, Int.toNat_natCast, e2, ← e1, eo]
    exact condition_tree B cb mb st lv tv w0 aT aN aA hV hE hB hts hl j s.kind s.name _ hg e e3 w hw h z

theorem grant_any (B cb mb : Nat) (st : CkS) (lv tv : Value) (w0 : World) (aT aN aA : Addr) (hV : Vok w0 aT) (hE : Eok w0 aN aA) (hB : w0.heap.size ≤ B) (hts : ∀ t ∈ st.2.1, 1 ≤ t ∧ t ≤ 4) (hl : st.2.1.length ≤ 1000) (Es : List Ex) (j : Nat) (s : St) (hs : okP Es s.grant) (w : World) (hw : Below B w0 w) (h : Cm B cb mb st.1 st.2.1 st.2.2 lv tv w) (hz : ∀ m e, s.grant = (m : Nat) → Es[m]? = some e → st.2.2.length + e.cnt ≤ 4000) :
    Calls Tryz.prog 56 #[.pointer (some ⟨cb, 0, none⟩), .agg #[.int .i64 j, .int .i64 s.kind, .string s.name, optV Es s.cond, optV Es s.grant]] w (GoAns B cb mb lv tv (ckGrant Es st s) w) := by
  have hg := formV_opt Es s.cond
  rcases hs with e1 | ⟨m, e, e1, e2, e3, _⟩
  · rw [ckGrant, if_pos e1, e1, optV_none]
    exact grant_none B cb mb st.1 st.2.1 st.2.2 lv tv j s.kind s.name _ hg w h
  · have z := hz m e e1 e2
    have eo : optV Es s.grant = e.val := by rw [e1, optV, if_neg (by omega), Int.toNat_natCast, e2]
    rw [ckGrant, if_neg (by omega), e1, Int.toNat_natCast, e2, ← e1, eo]
    exact grant_tree B cb mb st lv tv w0 aT aN aA hV hE hB hts hl j s.kind s.name _ hg e e3 w hw h z

/-- a statement goes on -/
noncomputable def ckStep (Es : List Ex) (st : CkS) (s : St) : Option CkS := (ckCond Es st s).bind fun st1 => ckGrant Es st1 s

noncomputable def ckAll (Es : List Ex) : CkS → List St → Option CkS
  | st, [] => some st
  | st, s :: L => (ckStep Es st s).bind fun st1 => ckAll Es st1 L

theorem ckAll_snoc (Es : List Ex) (s : St) : ∀ (L : List St) (st : CkS), ckAll Es st (L ++ [s]) = (ckAll Es st L).bind fun st1 => ckStep Es st1 s
  | [], st => by simp only [List.nil_append, ckAll, Option.bind_some]; cases ckStep Es st s <;> rfl
  | x :: L, st => by
    rw [List.cons_append, ckAll, ckAll]
    cases ckStep Es st x with
    | none => rfl
    | some st1 => exact ckAll_snoc Es s L st1

theorem ckAll_app (Es : List Ex) : ∀ (L M : List St) (st : CkS), ckAll Es st (L ++ M) = (ckAll Es st L).bind fun st1 => ckAll Es st1 M
  | [], M, st => rfl
  | x :: L, M, st => by
    rw [List.cons_append, ckAll, ckAll]
    cases ckStep Es st x with
    | none => rfl
    | some st1 => exact ckAll_app Es L M st1

theorem ckAll_none (Es : List Ex) (L : List St) (st : CkS) (k : Nat) (h : ckAll Es st (L.take k) = none) : ckAll Es st L = none := by
  have e := ckAll_app Es (L.take k) (L.drop k) st
  rw [List.take_append_drop, h] at e
  exact e

/-- how many nodes a place bears -/
def cntP (Es : List Ex) (k : Int) : Nat := if k = -1 then 0 else match Es[k.toNat]? with
  | some e => e.cnt
  | none => 0

def cntL (Es : List Ex) (L : List St) : Nat := (L.map fun s => cntP Es s.cond + cntP Es s.grant).sum

theorem ckCond_len {Es : List Ex} {st st1 : CkS} {s : St} (h : ckCond Es st s = some st1) : st1.2.2.length = st.2.2.length + cntP Es s.cond ∧ st1.2.1.length ≤ st.2.1.length + 1 ∧ ((∀ t ∈ st.2.1, 1 ≤ t ∧ t ≤ 4) → ∀ t ∈ st1.2.1, 1 ≤ t ∧ t ≤ 4) := by
  rw [ckCond] at h
  rw [cntP]
  by_cases e1 : s.cond = -1
  · rw [if_pos e1] at h ⊢
    cases h
    exact ⟨rfl, Nat.le_succ _, id⟩
  · rw [if_neg e1] at h ⊢
    cases he : Es[s.cond.toNat]? with
    | none => rw [he] at h; cases h
    | some e =>
      rw [he] at h
      simp only [ckE] at h
      have hl := tysE_len st.2.1 e
      by_cases hk : s.kind = 1
      · rw [if_pos hk] at h
        cases ht : tyE st.2.1 e with
        | none => rw [ht] at h; cases h
        | some t =>
          rw [ht] at h
          dsimp only at h
          split at h
          · cases h
          · cases h
            refine ⟨by simp [hl], by simp, fun hin x hx => ?_⟩
            rcases List.mem_append.1 hx with hx | hx
            · exact hin x hx
            · simp at hx; subst hx; exact tyE_in hin e x ht
      · rw [if_neg hk] at h
        cases ht : tyE st.2.1 e with
        | none => rw [ht] at h; cases h
        | some t =>
          rw [ht] at h
          dsimp only at h
          split at h
          · cases h
            exact ⟨by simp [hl], Nat.le_succ _, id⟩
          · cases h

theorem ckGrant_len {Es : List Ex} {st st1 : CkS} {s : St} (h : ckGrant Es st s = some st1) : st1.2.2.length = st.2.2.length + cntP Es s.grant ∧ st1.2.1 = st.2.1 := by
  rw [ckGrant] at h
  rw [cntP]
  by_cases e1 : s.grant = -1
  · rw [if_pos e1] at h ⊢
    cases h
    exact ⟨rfl, rfl⟩
  · rw [if_neg e1] at h ⊢
    cases he : Es[s.grant.toNat]? with
    | none => rw [he] at h; cases h
    | some e =>
      rw [he] at h
      simp only [ckG] at h
      have hl := tysE_len st.2.1 e
      cases ht : tyE st.2.1 e with
      | none => rw [ht] at h; cases h
      | some t =>
        rw [ht] at h
        dsimp only at h
        split at h
        · cases h
          exact ⟨by simp [hl], rfl⟩
        · cases h

theorem ckAll_len {Es : List Ex} : ∀ {L : List St} {st st1 : CkS}, ckAll Es st L = some st1 → st1.2.2.length = st.2.2.length + cntL Es L ∧ st1.2.1.length ≤ st.2.1.length + L.length ∧ ((∀ t ∈ st.2.1, 1 ≤ t ∧ t ≤ 4) → ∀ t ∈ st1.2.1, 1 ≤ t ∧ t ≤ 4)
  | [], st, st1, h => by cases h; exact ⟨by simp [cntL], by simp, id⟩
  | s :: L, st, st1, h => by
    rw [ckAll, ckStep] at h
    cases h1 : ckCond Es st s with
    | none => rw [h1] at h; cases h
    | some s1 =>
      rw [h1] at h
      change ((ckGrant Es s1 s).bind fun st1 => ckAll Es st1 L) = some st1 at h
      cases h2 : ckGrant Es s1 s with
      | none => rw [h2] at h; cases h
      | some s2 =>
        rw [h2] at h
        obtain ⟨a1, a2, a3⟩ := ckCond_len h1
        obtain ⟨b1, b2⟩ := ckGrant_len h2
        obtain ⟨c1, c2, c3⟩ := ckAll_len (show ckAll Es s2 L = some st1 from h)
        have e : cntL Es (s :: L) = cntP Es s.cond + cntP Es s.grant + cntL Es L := by simp [cntL]
        refine ⟨by rw [e]; omega, by rw [b2] at c2; simp; omega, fun hin => c3 (by rw [b2]; exact a3 hin)⟩

end Go.Proofs.YtjapdeehnfoonaaGreatDoor

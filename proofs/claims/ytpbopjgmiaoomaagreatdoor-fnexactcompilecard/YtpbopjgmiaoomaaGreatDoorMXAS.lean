/-
  JK, JL. Own work.
-/
import Derived.Test.YtpbopjgmiaoomaaGreatDoorJR
import Derived.Test.YtpbopjgmiaoomaaGreatDoorQK
namespace Go.Proofs.YtpbopjgmiaoomaaGreatDoor
open Go.RowKit
set_option linter.unusedVariables false

abbrev CkS := List ByteArray × List Int × List Int

open Classical in
/-- a condition's type is found -/
noncomputable def ckE (kd : Int) (nm : ByteArray) (st : CkS) (ot : Option Int) (ys : List Int) : Option CkS :=
  if kd = 1 then (match ot with | some t => if nm ∈ st.1 then none else some (st.1 ++ [nm], st.2.1 ++ [t], st.2.2 ++ ys) | none => none)
  else (match ot with | some t => if t = 1 then some (st.1, st.2.1, st.2.2 ++ ys) else none | none => none)

def ckG (st : CkS) (ot : Option Int) (ys : List Int) : Option CkS := match ot with | some t => if t = 4 then some (st.1, st.2.1, st.2.2 ++ ys) else none | none => none

noncomputable def ckCond (Es : List Ex) (st : CkS) (s : St) : Option CkS := if s.cond = -1 then some st else match Es[s.cond.toNat]? with
  | some e => ckE s.kind s.name st (tyE st.2.1 e) (tysE st.2.1 e)
  | none => none

def ckGrant (Es : List Ex) (st : CkS) (s : St) : Option CkS := if s.grant = -1 then some st else match Es[s.grant.toNat]? with
  | some e => ckG st (tyE st.2.1 e) (tysE st.2.1 e)
  | none => none

/-- a place is none, or bears a typed tree -/
def okP (Es : List Ex) (k : Int) : Prop := k = -1 ∨ ∃ (m : Nat) (e : Ex), k = m ∧ Es[m]? = some e ∧ e.typed ∧ e.cnt ≤ 4000

theorem formV_opt (Es : List Ex) (k : Int) : formV (optV Es k) := by
  rw [optV]
  split
  · exact .inl rfl
  · split
    · exact .inr (Ex.form _)
    · exact .inl rfl

theorem condition_tree (B cb mb : Nat) (st : CkS) (lv tv : Value) (w0 : World) (aT aN aA : Addr) (hV : Vok w0 aT) (hE : Eok w0 aN aA) (hB : w0.heap.size ≤ B) (hts : ∀ t ∈ st.2.1, 1 ≤ t ∧ t ≤ 4) (hl : st.2.1.length ≤ 1000) (j : Nat) (kd : Int) (nm : ByteArray) (gv : Value) (hg : formV gv) (e : Ex) (he : e.typed) (w : World) (hw : Below B w0 w) (h : Cm B cb mb st.1 st.2.1 st.2.2 lv tv w) (hz : st.2.2.length + e.cnt ≤ 4000) :
    Calls Tryz.prog 82 #[.pointer (some ⟨cb, 0, none⟩), .agg #[.int .i64 j, .int .i64 kd, .string nm, e.val, gv]] w (GoAns B cb mb lv tv (ckE kd nm st (tyE st.2.1 e) (tysE st.2.1 e)) w) := by
  have V := hide (typeOf_any B cb st.2.1 (.map (some mb)) lv w0 aT aN aA hV hE hB hts (by omega) e he)
  rw [← tysE_len st.2.1 e] at hz
  generalize tysE st.2.1 e = ys at V hz ⊢
  generalize tyE st.2.1 e = ot at V ⊢
  by_cases hk : kd = 1
  · subst hk
    unfold ckE
    rw [if_pos rfl]
    cases e with
    | int i n => cases ot <;> exact condition_let_leaf B cb mb st.1 st.2.1 st.2.2 lv tv w0 aT aN aA hV hE hB j nm _ _ i (place_int i n) gv hg _ _ V w hw h hz hl
    | text i s => cases ot <;> exact condition_let_leaf B cb mb st.1 st.2.1 st.2.2 lv tv w0 aT aN aA hV hE hB j nm _ _ i (place_text i s) gv hg _ _ V w hw h hz hl
    | bool i b => cases ot <;> exact condition_let_leaf B cb mb st.1 st.2.1 st.2.2 lv tv w0 aT aN aA hV hE hB j nm _ _ i (place_bool i b) gv hg _ _ V w hw h hz hl
    | set i a n c ss => cases ot <;> exact condition_let_leaf B cb mb st.1 st.2.1 st.2.2 lv tv w0 aT aN aA hV hE hB j nm _ _ i (place_set i a n c) gv hg _ _ V w hw h hz hl
    | attr i n => cases ot <;> exact condition_let_leaf B cb mb st.1 st.2.1 st.2.2 lv tv w0 aT aN aA hV hE hB j nm _ _ i (place_attr i n) gv hg _ _ V w hw h hz hl
    | lett i n => cases ot <;> exact condition_let_leaf B cb mb st.1 st.2.1 st.2.2 lv tv w0 aT aN aA hV hE hB j nm _ _ i (place_lett i n) gv hg _ _ V w hw h hz hl
    | name i s => exact absurd he id
    | un i op k =>
      obtain ⟨tk, uk, vk⟩ := k.form
      simp only [Ex.val, vk] at V ⊢
      cases ot <;> exact condition_let_un B cb mb st.1 st.2.1 st.2.2 lv tv w0 aT aN aA hV hE hB j nm i op tk uk gv hg _ _ V w hw h hz hl
    | bin i op k l =>
      obtain ⟨tk, uk, vk⟩ := k.form
      obtain ⟨tl, ul, vl⟩ := l.form
      simp only [Ex.val, vk, vl] at V ⊢
      cases ot <;> exact condition_let_bin B cb mb st.1 st.2.1 st.2.2 lv tv w0 aT aN aA hV hE hB j nm i op tk uk tl ul gv hg _ _ V w hw h hz hl
    | ite i k l m =>
      obtain ⟨tk, uk, vk⟩ := k.form
      obtain ⟨tl, ul, vl⟩ := l.form
      obtain ⟨tm, um, vm⟩ := m.form
      simp only [Ex.val, vk, vl, vm] at V ⊢
      cases ot <;> exact condition_let_ite B cb mb st.1 st.2.1 st.2.2 lv tv w0 aT aN aA hV hE hB j nm i tk uk tl ul tm um gv hg _ _ V w hw h hz hl
  · unfold ckE
    rw [if_neg hk]
    have hk2 : (kd == 1) = false := beq_eq_false_iff_ne.2 hk
    cases e with
    | int i n => cases ot <;> exact condition_when_leaf B cb mb st.1 st.2.1 st.2.2 lv tv w0 aT aN aA hV hE hB j kd hk2 nm _ _ i (place_int i n) gv hg _ _ V w hw h hz hl
    | text i s => cases ot <;> exact condition_when_leaf B cb mb st.1 st.2.1 st.2.2 lv tv w0 aT aN aA hV hE hB j kd hk2 nm _ _ i (place_text i s) gv hg _ _ V w hw h hz hl
    | bool i b => cases ot <;> exact condition_when_leaf B cb mb st.1 st.2.1 st.2.2 lv tv w0 aT aN aA hV hE hB j kd hk2 nm _ _ i (place_bool i b) gv hg _ _ V w hw h hz hl
    | set i a n c ss => cases ot <;> exact condition_when_leaf B cb mb st.1 st.2.1 st.2.2 lv tv w0 aT aN aA hV hE hB j kd hk2 nm _ _ i (place_set i a n c) gv hg _ _ V w hw h hz hl
    | attr i n => cases ot <;> exact condition_when_leaf B cb mb st.1 st.2.1 st.2.2 lv tv w0 aT aN aA hV hE hB j kd hk2 nm _ _ i (place_attr i n) gv hg _ _ V w hw h hz hl
    | lett i n => cases ot <;> exact condition_when_leaf B cb mb st.1 st.2.1 st.2.2 lv tv w0 aT aN aA hV hE hB j kd hk2 nm _ _ i (place_lett i n) gv hg _ _ V w hw h hz hl
    | name i s => exact absurd he id
    | un i op k =>
      obtain ⟨tk, uk, vk⟩ := k.form
      simp only [Ex.val, vk] at V ⊢
      cases ot <;> exact condition_when_un B cb mb st.1 st.2.1 st.2.2 lv tv w0 aT aN aA hV hE hB j kd hk2 nm i op tk uk gv hg _ _ V w hw h hz hl
    | bin i op k l =>
      obtain ⟨tk, uk, vk⟩ := k.form
      obtain ⟨tl, ul, vl⟩ := l.form
      simp only [Ex.val, vk, vl] at V ⊢
      cases ot <;> exact condition_when_bin B cb mb st.1 st.2.1 st.2.2 lv tv w0 aT aN aA hV hE hB j kd hk2 nm i op tk uk tl ul gv hg _ _ V w hw h hz hl
    | ite i k l m =>
      obtain ⟨tk, uk, vk⟩ := k.form
      obtain ⟨tl, ul, vl⟩ := l.form
      obtain ⟨tm, um, vm⟩ := m.form
      simp only [Ex.val, vk, vl, vm] at V ⊢
      cases ot <;> exact condition_when_ite B cb mb st.1 st.2.1 st.2.2 lv tv w0 aT aN aA hV hE hB j kd hk2 nm i tk uk tl ul tm um gv hg _ _ V w hw h hz hl

theorem grant_tree (B cb mb : Nat) (st : CkS) (lv tv : Value) (w0 : World) (aT aN aA : Addr) (hV : Vok w0 aT) (hE : Eok w0 aN aA) (hB : w0.heap.size ≤ B) (hts : ∀ t ∈ st.2.1, 1 ≤ t ∧ t ≤ 4) (hl : st.2.1.length ≤ 1000) (j : Nat) (kd : Int) (nm : ByteArray) (gv : Value) (hg : formV gv) (e : Ex) (he : e.typed) (w : World) (hw : Below B w0 w) (h : Cm B cb mb st.1 st.2.1 st.2.2 lv tv w) (hz : st.2.2.length + e.cnt ≤ 4000) :
    Calls Tryz.prog 83 #[.pointer (some ⟨cb, 0, none⟩), .agg #[.int .i64 j, .int .i64 kd, .string nm, gv, e.val]] w (GoAns B cb mb lv tv (ckG st (tyE st.2.1 e) (tysE st.2.1 e)) w) := by
  have V := hide (typeOf_any B cb st.2.1 (.map (some mb)) lv w0 aT aN aA hV hE hB hts (by omega) e he)
  rw [← tysE_len st.2.1 e] at hz
  generalize tysE st.2.1 e = ys at V hz ⊢
  generalize tyE st.2.1 e = ot at V ⊢
  unfold ckG
  cases e with
  | int i n => cases ot <;> exact grant_leaf B cb mb st.1 st.2.1 st.2.2 lv tv w0 aT aN aA hV hE hB j kd nm _ _ i (place_int i n) gv hg _ _ V w hw h hz
  | text i s => cases ot <;> exact grant_leaf B cb mb st.1 st.2.1 st.2.2 lv tv w0 aT aN aA hV hE hB j kd nm _ _ i (place_text i s) gv hg _ _ V w hw h hz
  | bool i b => cases ot <;> exact grant_leaf B cb mb st.1 st.2.1 st.2.2 lv tv w0 aT aN aA hV hE hB j kd nm _ _ i (place_bool i b) gv hg _ _ V w hw h hz
  | set i a n c ss => cases ot <;> exact grant_leaf B cb mb st.1 st.2.1 st.2.2 lv tv w0 aT aN aA hV hE hB j kd nm _ _ i (place_set i a n c) gv hg _ _ V w hw h hz
  | attr i n => cases ot <;> exact grant_leaf B cb mb st.1 st.2.1 st.2.2 lv tv w0 aT aN aA hV hE hB j kd nm _ _ i (place_attr i n) gv hg _ _ V w hw h hz
  | lett i n => cases ot <;> exact grant_leaf B cb mb st.1 st.2.1 st.2.2 lv tv w0 aT aN aA hV hE hB j kd nm _ _ i (place_lett i n) gv hg _ _ V w hw h hz
  | name i s => exact absurd he id
  | un i op k =>
    obtain ⟨tk, uk, vk⟩ := k.form
    simp only [Ex.val, vk] at V ⊢
    cases ot <;> exact grant_un B cb mb st.1 st.2.1 st.2.2 lv tv w0 aT aN aA hV hE hB j kd nm i op tk uk gv hg _ _ V w hw h hz
  | bin i op k l =>
    obtain ⟨tk, uk, vk⟩ := k.form
    obtain ⟨tl, ul, vl⟩ := l.form
    simp only [Ex.val, vk, vl] at V ⊢
    cases ot <;> exact grant_bin B cb mb st.1 st.2.1 st.2.2 lv tv w0 aT aN aA hV hE hB j kd nm i op tk uk tl ul gv hg _ _ V w hw h hz
  | ite i k l m =>
    obtain ⟨tk, uk, vk⟩ := k.form
    obtain ⟨tl, ul, vl⟩ := l.form
    obtain ⟨tm, um, vm⟩ := m.form
    simp only [Ex.val, vk, vl, vm] at V ⊢
    cases ot <;> exact grant_ite B cb mb st.1 st.2.1 st.2.2 lv tv w0 aT aN aA hV hE hB j kd nm i tk uk tl ul tm um gv hg _ _ V w hw h hz

theorem condition_any (B cb mb : Nat) (st : CkS) (lv tv : Value) (w0 : World) (aT aN aA : Addr) (hV : Vok w0 aT) (hE : Eok w0 aN aA) (hB : w0.heap.size ≤ B) (hts : ∀ t ∈ st.2.1, 1 ≤ t ∧ t ≤ 4) (hl : st.2.1.length ≤ 1000) (Es : List Ex) (j : Nat) (s : St) (hs : okP Es s.cond) (w : World) (hw : Below B w0 w) (h : Cm B cb mb st.1 st.2.1 st.2.2 lv tv w) (hz : ∀ m e, s.cond = (m : Nat) → Es[m]? = some e → st.2.2.length + e.cnt ≤ 4000) :
    Calls Tryz.prog 82 #[.pointer (some ⟨cb, 0, none⟩), .agg #[.int .i64 j, .int .i64 s.kind, .string s.name, optV Es s.cond, optV Es s.grant]] w (GoAns B cb mb lv tv (ckCond Es st s) w) := by
  have hg := formV_opt Es s.grant
  rcases hs with e1 | ⟨m, e, e1, e2, e3, _⟩
  · rw [ckCond, if_pos e1, e1, optV_none]
    exact condition_none B cb mb st.1 st.2.1 st.2.2 lv tv j s.kind s.name _ hg w h
  · have z := hz m e e1 e2
    have eo : optV Es s.cond = e.val := by rw [e1, optV, if_neg (by omega), Int.toNat_natCast, e2]
    rw [ckCond, if_neg (by omega), e1, Int.toNat_natCast, e2, ← e1, eo]
    exact condition_tree B cb mb st lv tv w0 aT aN aA hV hE hB hts hl j s.kind s.name _ hg e e3 w hw h z

theorem grant_any (B cb mb : Nat) (st : CkS) (lv tv : Value) (w0 : World) (aT aN aA : Addr) (hV : Vok w0 aT) (hE : Eok w0 aN aA) (hB : w0.heap.size ≤ B) (hts : ∀ t ∈ st.2.1, 1 ≤ t ∧ t ≤ 4) (hl : st.2.1.length ≤ 1000) (Es : List Ex) (j : Nat) (s : St) (hs : okP Es s.grant) (w : World) (hw : Below B w0 w) (h : Cm B cb mb st.1 st.2.1 st.2.2 lv tv w) (hz : ∀ m e, s.grant = (m : Nat) → Es[m]? = some e → st.2.2.length + e.cnt ≤ 4000) :
    Calls Tryz.prog 83 #[.pointer (some ⟨cb, 0, none⟩), .agg #[.int .i64 j, .int .i64 s.kind, .string s.name, optV Es s.cond, optV Es s.grant]] w (GoAns B cb mb lv tv (ckGrant Es st s) w) := by
  have hg := formV_opt Es s.cond
  rcases hs with e1 | ⟨m, e, e1, e2, e3, _⟩
  · rw [ckGrant, if_pos e1, e1, optV_none]
    exact grant_none B cb mb st.1 st.2.1 st.2.2 lv tv j s.kind s.name _ hg w h
  · have z := hz m e e1 e2
    have eo : optV Es s.grant = e.val := by rw [e1, optV, if_neg (by omega), Int.toNat_natCast, e2]
    rw [ckGrant, if_neg (by omega), e1, Int.toNat_natCast, e2, ← e1, eo]
    exact grant_tree B cb mb st lv tv w0 aT aN aA hV hE hB hts hl j s.kind s.name _ hg e e3 w hw h z

/-- a statement goes on -/
noncomputable def ckStep (Es : List Ex) (st : CkS) (s : St) : Option CkS := (ckCond Es st s).bind fun st1 => ckGrant Es st1 s

noncomputable def ckAll (Es : List Ex) : CkS → List St → Option CkS
  | st, [] => some st
  | st, s :: L => (ckStep Es st s).bind fun st1 => ckAll Es st1 L

theorem ckAll_snoc (Es : List Ex) (s : St) : ∀ (L : List St) (st : CkS), ckAll Es st (L ++ [s]) = (ckAll Es st L).bind fun st1 => ckStep Es st1 s
  | [], st => by simp only [List.nil_append, ckAll, Option.bind_some]; cases ckStep Es st s <;> rfl
  | x :: L, st => by
    rw [List.cons_append, ckAll, ckAll]
    cases ckStep Es st x with
    | none => rfl
    | some st1 => exact ckAll_snoc Es s L st1

theorem ckAll_app (Es : List Ex) : ∀ (L M : List St) (st : CkS), ckAll Es st (L ++ M) = (ckAll Es st L).bind fun st1 => ckAll Es st1 M
  | [], M, st => rfl
  | x :: L, M, st => by
    rw [List.cons_append, ckAll, ckAll]
    cases ckStep Es st x with
    | none => rfl
    | some st1 => exact ckAll_app Es L M st1

theorem ckAll_none (Es : List Ex) (L : List St) (st : CkS) (k : Nat) (h : ckAll Es st (L.take k) = none) : ckAll Es st L = none := by
  have e := ckAll_app Es (L.take k) (L.drop k) st
  rw [List.take_append_drop, h] at e
  exact e

/-- how many nodes a place bears -/
def cntP (Es : List Ex) (k : Int) : Nat := if k = -1 then 0 else match Es[k.toNat]? with
  | some e => e.cnt
  | none => 0

def cntL (Es : List Ex) (L : List St) : Nat := (L.map fun s => cntP Es s.cond + cntP Es s.grant).sum

theorem ckCond_len {Es : List Ex} {st st1 : CkS} {s : St} (h : ckCond Es st s = some st1) : st1.2.2.length = st.2.2.length + cntP Es s.cond ∧ st1.2.1.length ≤ st.2.1.length + 1 ∧ ((∀ t ∈ st.2.1, 1 ≤ t ∧ t ≤ 4) → ∀ t ∈ st1.2.1, 1 ≤ t ∧ t ≤ 4) := by
  rw [ckCond] at h
  rw [cntP]
  by_cases e1 : s.cond = -1
  · rw [if_pos e1] at h ⊢
    cases h
    exact ⟨rfl, Nat.le_succ _, id⟩
  · rw [if_neg e1] at h ⊢
    cases he : Es[s.cond.toNat]? with
    | none => rw [he] at h; cases h
    | some e =>
      rw [he] at h
      simp only [ckE] at h
      have hl := tysE_len st.2.1 e
      by_cases hk : s.kind = 1
      · rw [if_pos hk] at h
        cases ht : tyE st.2.1 e with
        | none => rw [ht] at h; cases h
        | some t =>
          rw [ht] at h
          dsimp only at h
          split at h
          · cases h
          · cases h
            refine ⟨by simp [hl], by simp, fun hin x hx => ?_⟩
            rcases List.mem_append.1 hx with hx | hx
            · exact hin x hx
            · simp at hx; subst hx; exact tyE_in hin e x ht
      · rw [if_neg hk] at h
        cases ht : tyE st.2.1 e with
        | none => rw [ht] at h; cases h
        | some t =>
          rw [ht] at h
          dsimp only at h
          split at h
          · cases h
            exact ⟨by simp [hl], Nat.le_succ _, id⟩
          · cases h

theorem ckGrant_len {Es : List Ex} {st st1 : CkS} {s : St} (h : ckGrant Es st s = some st1) : st1.2.2.length = st.2.2.length + cntP Es s.grant ∧ st1.2.1 = st.2.1 := by
  rw [ckGrant] at h
  rw [cntP]
  by_cases e1 : s.grant = -1
  · rw [if_pos e1] at h ⊢
    cases h
    exact ⟨rfl, rfl⟩
  · rw [if_neg e1] at h ⊢
    cases he : Es[s.grant.toNat]? with
    | none => rw [he] at h; cases h
    | some e =>
      rw [he] at h
      simp only [ckG] at h
      have hl := tysE_len st.2.1 e
      cases ht : tyE st.2.1 e with
      | none => rw [ht] at h; cases h
      | some t =>
        rw [ht] at h
        dsimp only at h
        split at h
        · cases h
          exact ⟨by simp [hl], rfl⟩
        · cases h

theorem ckAll_len {Es : List Ex} : ∀ {L : List St} {st st1 : CkS}, ckAll Es st L = some st1 → st1.2.2.length = st.2.2.length + cntL Es L ∧ st1.2.1.length ≤ st.2.1.length + L.length ∧ ((∀ t ∈ st.2.1, 1 ≤ t ∧ t ≤ 4) → ∀ t ∈ st1.2.1, 1 ≤ t ∧ t ≤ 4)
  | [], st, st1, h => by cases h; exact ⟨by simp [cntL], by simp, id⟩
  | s :: L, st, st1, h => by
    rw [ckAll, ckStep] at h
    cases h1 : ckCond Es st s with
    | none => rw [h1] at h; cases h
    | some s1 =>
      rw [h1] at h
      change ((ckGrant Es s1 s).bind fun st1 => ckAll Es st1 L) = some st1 at h
      cases h2 : ckGrant Es s1 s with
      | none => rw [h2] at h; cases h
      | some s2 =>
        rw [h2] at h
        obtain ⟨a1, a2, a3⟩ := ckCond_len h1
        obtain ⟨b1, b2⟩ := ckGrant_len h2
        obtain ⟨c1, c2, c3⟩ := ckAll_len (show ckAll Es s2 L = some st1 from h)
        have e : cntL Es (s :: L) = cntP Es s.cond + cntP Es s.grant + cntL Es L := by simp [cntL]
        refine ⟨by rw [e]; omega, by rw [b2] at c2; simp; omega, fun hin => c3 (by rw [b2]; exact a3 hin)⟩

end Go.Proofs.YtpbopjgmiaoomaaGreatDoor

namespace Go.Proofs.YtpbopjgmiaoomaaGreatDoor
open Go.RowKit
set_option linter.unusedVariables false

theorem cntL_room (Es : List Ex) (L : List St) (k : Nat) (h : k < L.length) : cntL Es (L.take k) + (cntP Es L[k].cond + cntP Es L[k].grant) ≤ cntL Es L := by
  have e : L = L.take k ++ (L[k] :: L.drop (k + 1)) := by rw [List.getElem_cons_drop, List.take_append_drop]
  have e2 := congrArg (cntL Es) e
  simp only [cntL, List.map_append, List.map_cons, List.sum_append, List.sum_cons] at e2 ⊢
  omega

theorem cntP_at {Es : List Ex} {k : Int} {m : Nat} {e : Ex} (h : k = (m : Nat)) (he : Es[m]? = some e) : cntP Es k = e.cnt := by
  rw [cntP, if_neg (by omega), h, Int.toNat_natCast, he]

theorem Kd.row {B cb mb : Nat} {lv tv lv' tv' : Value} {w w' : World} (h : Kd B cb mb lv tv w lv' tv' w') {g : Nat} {cs : Array Value} {t : TypeId} (R : Row w g cs t) (h1 : g ≠ cb) (h2 : g ≠ mb) (h3 : lv.ownBlock ≠ some g) (h4 : tv.ownBlock ≠ some g) : Row w' g cs t ∧ lv'.ownBlock ≠ some g ∧ tv'.ownBlock ≠ some g := by
  refine ⟨⟨(h.keep g R.lt h1 h2 (fun e => h3 e.symm) (fun e => h4 e.symm)).trans R.out⟩, fun e => ?_, fun e => ?_⟩
  · rcases h.newl g e with e2 | e2
    · exact h3 e2
    · have := R.lt; omega
  · rcases h.newt g e with e2 | e2
    · exact h4 e2
    · have := R.lt; omega

set_option maxHeartbeats 3200000 in
set_option maxRecDepth 100000 in
theorem statements_any (B cb mb : Nat) (st : CkS) (lv tv : Value) (w0 : World) (aT aN aA : Addr) (hV : Vok w0 aT) (hE : Eok w0 aN aA) (hB : w0.heap.size ≤ B) (Es : List Ex) (L : List St) (m g kv : Nat) (cur : Array Value) (w : World)
    (hm : L.length = m) (hts : ∀ t ∈ st.2.1, 1 ≤ t ∧ t ≤ 4) (hl : st.2.1.length + m ≤ 1000) (hok : ∀ s ∈ L, okP Es s.cond ∧ okP Es s.grant) (hcn : st.2.2.length + cntL Es L ≤ 4000)
    (hw : Below B w0 w) (h : Cm B cb mb st.1 st.2.1 st.2.2 lv tv w) (R : Row w g cur 77) (hcur : ∀ (r : Nat) (u : Value), (stC Es 0 L)[r]? = some u → cur[r]? = some u) (g1 : g ≠ cb) (g2 : g ≠ mb) (g3 : lv.ownBlock ≠ some g) (g4 : tv.ownBlock ≠ some g) :
    Calls Tryz.prog 54 #[.pointer (some ⟨cb, 0, none⟩), .slice (some ⟨g, 0, none⟩) m kv] w (GoAns B cb mb lv tv (ckAll Es st L) w) := by
  have HM := hide hm
  have HOK := hide hok
  have HCU := hide hcur
  have HCN := hide hcn
  have HTS := hide hts
  have HLL := hide hl
  have Hw := hide hw
  have hms : m ≤ 1000 := by omega
  clear hm hok hcur hcn hts hl hw
  have hBw : B ≤ w.heap.size := by have := h.C.low; have := h.C.row.lt; omega
  go_enter Tryz.func54, Tryz.ntmps54
  go_wp2_with fail
  go_loopw [11] (fun i wr => ∃ (k : Nat) (st1 : CkS) (lv1 tv1 : Value), k ≤ m ∧ i = .int .i64 k ∧ Hid (ckAll Es st (L.take k) = some st1) ∧ Cm B cb mb st1.1 st1.2.1 st1.2.2 lv1 tv1 wr ∧ Kd B cb mb lv tv w lv1 tv1 wr) (fun i _ => m - (intOf i).toNat)
  case atStart => exact ⟨0, st, lv, tv, by omega, rfl, hide rfl, h, Kd.refl _ _ _ _ _ _⟩
  case round =>
    obtain ⟨k, st1, lv1, tv1, hk, rfl, HA, H1, K1⟩ := hrel
    by_cases hlt : k < m
    · have ilt : (k : Int) < (m : Int) := by omega
      have hkl : k < L.length := by rw [unhide HM]; exact hlt
      obtain ⟨R1, q3, q4⟩ := K1.row R g1 g2 g3 g4
      have at5 : ∀ r, r < 5 → ∀ u, (stmV Es k L[k])[r]? = some u → wr.cell? ⟨g, k * 5 + r, none⟩ = some u := fun r hr u hu => by
        rw [R1.cell]
        refine unhide HCU _ _ ?_
        rw [stC_at Es L 0 k hkl r hr, Nat.zero_add]
        exact hu
      have c0 := at5 0 (by decide) _ rfl
      have c1 := at5 1 (by decide) _ rfl
      have c2 := at5 2 (by decide) _ rfl
      have c3 := at5 3 (by decide) _ rfl
      have c4 := at5 4 (by decide) _ rfl
      simp only [Nat.add_zero] at c0
      obtain ⟨l1, l2, l3⟩ := ckAll_len (unhide HA)
      have room := cntL_room Es L k hkl
      have hin := l3 (unhide HTS)
      have hcnt := unhide HCN
      have hll := unhide HLL
      have hl1 : st1.2.1.length ≤ 999 := by rw [List.length_take] at l2; omega
      obtain ⟨ok1, ok2⟩ := unhide HOK L[k] (List.getElem_mem hkl)
      have HS := hide (show ∀ st2, ckStep Es st1 L[k] = some st2 → ckAll Es st (L.take (k + 1)) = some st2 from fun st2 e => by rw [List.take_succ_eq_append_getElem hkl, ckAll_snoc, unhide HA]; exact e)
      have HF := hide (show ckStep Es st1 L[k] = none → ckAll Es st L = none from fun e => ckAll_none Es L st (k + 1) (by rw [List.take_succ_eq_append_getElem hkl, ckAll_snoc, unhide HA]; exact e))
      have Hlt := hide hlt
      have gl := R1.lt
      have D1 := K1.low
      have hBr : B ≤ wr.heap.size := Nat.le_trans hBw D1.size
      have wcb : wr.heap.size ≠ cb := by have := H1.C.row.lt; omega
      have wmb : wr.heap.size ≠ mb := by have := H1.M.lt; omega
      have wlv : lv1.ownBlock ≠ some wr.heap.size := fun e => by have := (H1.C.lets.lt _ e).2; omega
      have wtv : tv1.ownBlock ≠ some wr.heap.size := fun e => by have := (H1.C.types.lt _ e).2; omega
      have HC := hide (fun W hW hCm => condition_any B cb mb st1 lv1 tv1 w0 aT aN aA hV hE hB hin (by omega) Es k L[k] ok1 W hW hCm (fun mm e e1 e2 => by have := cntP_at e1 e2; omega))
      have HG := hide (fun (st2 : CkS) (h2 : ckCond Es st1 L[k] = some st2) lv2 tv2 W hW hCm => grant_any B cb mb st2 lv2 tv2 w0 aT aN aA hV hE hB ((ckCond_len h2).2.2 hin) (by have := (ckCond_len h2).2.1; omega) Es k L[k] ok2 W hW hCm (fun mm e e1 e2 => by have := cntP_at e1 e2; have := (ckCond_len h2).1; omega))
      clear at5 R1 hlt ok1 ok2 room l1 l2 l3 hin hcnt hll hl1
      have HZ := hide (show ckStep Es st1 L[k] = (ckCond Es st1 L[k]).bind fun s1 => ckGrant Es s1 L[k] from rfl)
      generalize L[k] = s at c0 c1 c2 c3 c4 HS HF HC HG HZ
      clear hkl
      have v3 := formV_opt Es s.cond
      have v4 := formV_opt Es s.grant
      generalize ckStep Es st1 s = oo at HS HF HZ
      generalize ckCond Es st1 s = oc at HC HG HZ
      generalize ckGrant Es = og at HG HZ
      generalize optV Es s.cond = o3 at c3 HC HG v3
      generalize optV Es s.grant = o4 at c4 HC HG v4
      generalize s.kind = kd at c1 HC HG
      generalize s.name = nm at c2 HC HG
      rcases v3 with rfl | ⟨t3, u3, rfl⟩ <;> rcases v4 with rfl | ⟨t4, u4, rfl⟩
      all_goals
        go_wp2_with fail
        refine (unhide HC _ ?_ (H1.below ((Below.refl _ _).alloc (Nat.le_refl _) _))).mono ?_
        · exact ((unhide Hw).trans D1).alloc hBr _
        rintro r w2 (⟨ns2, ts2, tt2, lv2, tv2, hoc, rfl, H2, K2⟩ | ⟨hoc, ⟨te, ue, rfl⟩, hb2⟩)
        · have HOC := hide hoc
          obtain ⟨R2, _, _⟩ := K2.row (Row.new wr _ _) wcb wmb wlv wtv
          obtain ⟨r0, r1, r2, r3, r4⟩ := row5 R2
          have KK := (K1.trans (Kd.of_all ((Below.refl _ _).alloc (Nat.le_refl _) _) hBr)).trans K2
          have D2 := (unhide Hw).trans KK.low
          have HGG := hide (unhide HG (ns2, ts2, tt2) hoc lv2 tv2 w2 D2 H2)
          clear hoc K2 R2
          dsimp only
          go_wp2_with fail
          refine (unhide HGG).mono ?_
          rintro r w3 (⟨ns3, ts3, tt3, lv3, tv3, hog, rfl, H3, K3⟩ | ⟨hog, ⟨te, ue, rfl⟩, hb3⟩)
          · have HX := hide (unhide HS (ns3, ts3, tt3) (by rw [unhide HZ, unhide HOC]; exact hog))
            clear hog
            dsimp only
            go_wp2_with fail
            go_roundw
            case rel => exact ⟨k + 1, (ns3, ts3, tt3), lv3, tv3, unhide Hlt, by go_num, HX, H3, KK.trans K3⟩
            case measure => have := unhide Hlt; simp [intOf]; omega
          · have HX := hide (unhide HF (by rw [unhide HZ, unhide HOC]; exact hog))
            clear hog
            dsimp only
            go_wp2_with fail
            go_ret
            exact .inr ⟨unhide HX, ⟨_, _, rfl⟩, KK.low.trans hb3⟩
        · have HX := hide (unhide HF (by rw [unhide HZ, hoc]; rfl))
          clear hoc
          dsimp only
          go_wp2_with fail
          go_ret
          exact .inr ⟨unhide HX, ⟨_, _, rfl⟩, (D1.alloc hBr _).trans hb2⟩
    · have e : k = m := by omega
      subst e
      have HX := hide (show ckAll Es st L = some st1 by rw [← unhide HA, ← unhide HM, List.take_length])
      go_wp2_with fail
      go_ret
      exact .inl ⟨_, _, _, _, _, unhide HX, rfl, H1, K1⟩

end Go.Proofs.YtpbopjgmiaoomaaGreatDoor

/-
  All statements, looked at by the checker, with the exact error (written by mkeci.py). Own work.
-/
import Derived.Test.YtddpcehgopeklaaGreatDoorMXBC
import Derived.Test.YtddpcehgopeklaaGreatDoorMXBD
import Derived.Test.YtddpcehgopeklaaGreatDoorMXBH
namespace Go.Proofs.YtddpcehgopeklaaGreatDoor
open Go.RowKit
set_option linter.unusedVariables false

/-- a tree's place -/
def Ex.pos : Ex → Int
  | .int i _ | .text i _ | .bool i _ | .set i .. | .name i _ | .attr i _ | .lett i _ | .un i .. | .bin i .. | .ite i .. => i

def treeC (kd : Int) (nm : ByteArray) (st : Cs) (i : Int) (ot : Rs) (ys : List Int) : Except (Int × Int) Cs :=
  if kd = 1 then letX st.1 st.2.1 st.2.2 nm i ot ys else whenX 1 st.1 st.2.1 st.2.2 i ot ys

def condX (st : Cs) (x : Sx) : Except (Int × Int) Cs := match x.cond with
  | none => .ok st
  | some e => treeC x.kind x.name st e.pos (tyX st.1 e) (tysX st.1 e)

def grantX (st : Cs) (x : Sx) : Except (Int × Int) Cs := match x.grant with
  | none => .ok st
  | some e => whenX 4 st.1 st.2.1 st.2.2 e.pos (tyX st.1 e) (tysX st.1 e)

/-- a statement goes on -/
def stepX (st : Cs) (x : Sx) : Except (Int × Int) Cs := (condX st x).bind fun s => grantX s x

def allX : Cs → List Sx → Except (Int × Int) Cs
  | st, [] => .ok st
  | st, x :: S => (stepX st x).bind fun s => allX s S

theorem formV_optX (o : Option Ex) : formV (optX o) := by
  cases o with
  | none => exact .inl rfl
  | some e => exact .inr (Ex.form e)

theorem conditionX_tree (aT aN aA : Addr) (B cb mb : Nat) (st : Cs) (lv tv : Value) (w0 : World) (hV : Vok w0 aT) (hE : Eok w0 aN aA) (hB : w0.heap.size ≤ B) (hts : ∀ d ∈ st.1, 1 ≤ d.typ ∧ d.typ ≤ 4) (hl : st.2.1.length ≤ 1000) (j : Int) (kd : Int) (nm : ByteArray) (gv : Value) (hg : formV gv) (e : Ex) (he : e.written) (w : World) (hw : Below B w0 w) (h : Cx B cb mb st.1 st.2.1 st.2.2 lv tv w) (hz : st.2.2.length + e.cnt ≤ 4000) :
    Calls Tryz.prog 66 #[.pointer (some ⟨cb, 0, none⟩), .agg #[.int .i64 j, .int .i64 kd, .string nm, e.val, gv]] w (GoX aT aN aA B cb mb lv tv (treeC kd nm st e.pos (tyX st.1 e) (tysX st.1 e)) w) := by
  have V := hide (typeX_any aT aN aA B cb st.2.1 mb st.1 lv w0 hV hE hB hts e he)
  rw [← tysX_len st.1 e] at hz
  generalize tysX st.1 e = ys at V hz ⊢
  generalize tyX st.1 e = ot at V ⊢
  by_cases hk : kd = 1
  · subst hk
    unfold treeC
    rw [if_pos rfl]
    cases e with
    | int i n => exact conditionX_let_leaf B cb mb st.1 st.2.1 st.2.2 lv tv w0 aT aN aA hV hE hB j nm _ _ i (place_int i n) gv hg _ _ V w hw h hz hl
    | text i s => exact conditionX_let_leaf B cb mb st.1 st.2.1 st.2.2 lv tv w0 aT aN aA hV hE hB j nm _ _ i (place_text i s) gv hg _ _ V w hw h hz hl
    | bool i b => exact conditionX_let_leaf B cb mb st.1 st.2.1 st.2.2 lv tv w0 aT aN aA hV hE hB j nm _ _ i (place_bool i b) gv hg _ _ V w hw h hz hl
    | set i a n c ss => exact conditionX_let_leaf B cb mb st.1 st.2.1 st.2.2 lv tv w0 aT aN aA hV hE hB j nm _ _ i (place_set i a n c) gv hg _ _ V w hw h hz hl
    | attr i n => exact absurd he id
    | lett i n => exact absurd he id
    | name i s => exact conditionX_let_leaf B cb mb st.1 st.2.1 st.2.2 lv tv w0 aT aN aA hV hE hB j nm _ _ i (place_name i s) gv hg _ _ V w hw h hz hl
    | un i op k =>
      obtain ⟨tk, uk, vk⟩ := k.form
      simp only [Ex.val, vk] at V ⊢
      exact conditionX_let_un B cb mb st.1 st.2.1 st.2.2 lv tv w0 aT aN aA hV hE hB j nm i op tk uk gv hg _ _ V w hw h hz hl
    | bin i op k l =>
      obtain ⟨tk, uk, vk⟩ := k.form
      obtain ⟨tl, ul, vl⟩ := l.form
      simp only [Ex.val, vk, vl] at V ⊢
      exact conditionX_let_bin B cb mb st.1 st.2.1 st.2.2 lv tv w0 aT aN aA hV hE hB j nm i op tk uk tl ul gv hg _ _ V w hw h hz hl
    | ite i k l m =>
      obtain ⟨tk, uk, vk⟩ := k.form
      obtain ⟨tl, ul, vl⟩ := l.form
      obtain ⟨tm, um, vm⟩ := m.form
      simp only [Ex.val, vk, vl, vm] at V ⊢
      exact conditionX_let_ite B cb mb st.1 st.2.1 st.2.2 lv tv w0 aT aN aA hV hE hB j nm i tk uk tl ul tm um gv hg _ _ V w hw h hz hl
  · unfold treeC
    rw [if_neg hk]
    have hk2 : (kd == 1) = false := beq_eq_false_iff_ne.2 hk
    cases e with
    | int i n => exact conditionX_when_leaf B cb mb st.1 st.2.1 st.2.2 lv tv w0 aT aN aA hV hE hB j kd hk2 nm _ _ i (place_int i n) gv hg _ _ V w hw h hz hl
    | text i s => exact conditionX_when_leaf B cb mb st.1 st.2.1 st.2.2 lv tv w0 aT aN aA hV hE hB j kd hk2 nm _ _ i (place_text i s) gv hg _ _ V w hw h hz hl
    | bool i b => exact conditionX_when_leaf B cb mb st.1 st.2.1 st.2.2 lv tv w0 aT aN aA hV hE hB j kd hk2 nm _ _ i (place_bool i b) gv hg _ _ V w hw h hz hl
    | set i a n c ss => exact conditionX_when_leaf B cb mb st.1 st.2.1 st.2.2 lv tv w0 aT aN aA hV hE hB j kd hk2 nm _ _ i (place_set i a n c) gv hg _ _ V w hw h hz hl
    | attr i n => exact absurd he id
    | lett i n => exact absurd he id
    | name i s => exact conditionX_when_leaf B cb mb st.1 st.2.1 st.2.2 lv tv w0 aT aN aA hV hE hB j kd hk2 nm _ _ i (place_name i s) gv hg _ _ V w hw h hz hl
    | un i op k =>
      obtain ⟨tk, uk, vk⟩ := k.form
      simp only [Ex.val, vk] at V ⊢
      exact conditionX_when_un B cb mb st.1 st.2.1 st.2.2 lv tv w0 aT aN aA hV hE hB j kd hk2 nm i op tk uk gv hg _ _ V w hw h hz hl
    | bin i op k l =>
      obtain ⟨tk, uk, vk⟩ := k.form
      obtain ⟨tl, ul, vl⟩ := l.form
      simp only [Ex.val, vk, vl] at V ⊢
      exact conditionX_when_bin B cb mb st.1 st.2.1 st.2.2 lv tv w0 aT aN aA hV hE hB j kd hk2 nm i op tk uk tl ul gv hg _ _ V w hw h hz hl
    | ite i k l m =>
      obtain ⟨tk, uk, vk⟩ := k.form
      obtain ⟨tl, ul, vl⟩ := l.form
      obtain ⟨tm, um, vm⟩ := m.form
      simp only [Ex.val, vk, vl, vm] at V ⊢
      exact conditionX_when_ite B cb mb st.1 st.2.1 st.2.2 lv tv w0 aT aN aA hV hE hB j kd hk2 nm i tk uk tl ul tm um gv hg _ _ V w hw h hz hl

theorem grantX_tree (aT aN aA : Addr) (B cb mb : Nat) (st : Cs) (lv tv : Value) (w0 : World) (hV : Vok w0 aT) (hE : Eok w0 aN aA) (hB : w0.heap.size ≤ B) (hts : ∀ d ∈ st.1, 1 ≤ d.typ ∧ d.typ ≤ 4) (hl : st.2.1.length ≤ 1000) (j : Int) (kd : Int) (nm : ByteArray) (gv : Value) (hg : formV gv) (e : Ex) (he : e.written) (w : World) (hw : Below B w0 w) (h : Cx B cb mb st.1 st.2.1 st.2.2 lv tv w) (hz : st.2.2.length + e.cnt ≤ 4000) :
    Calls Tryz.prog 67 #[.pointer (some ⟨cb, 0, none⟩), .agg #[.int .i64 j, .int .i64 kd, .string nm, gv, e.val]] w (GoX aT aN aA B cb mb lv tv (whenX 4 st.1 st.2.1 st.2.2 e.pos (tyX st.1 e) (tysX st.1 e)) w) := by
  have V := hide (typeX_any aT aN aA B cb st.2.1 mb st.1 lv w0 hV hE hB hts e he)
  rw [← tysX_len st.1 e] at hz
  generalize tysX st.1 e = ys at V hz ⊢
  generalize tyX st.1 e = ot at V ⊢
  cases e with
  | int i n => exact grantX_leaf B cb mb st.1 st.2.1 st.2.2 lv tv w0 aT aN aA hV hE hB j kd nm _ _ i (place_int i n) gv hg _ _ V w hw h hz
  | text i s => exact grantX_leaf B cb mb st.1 st.2.1 st.2.2 lv tv w0 aT aN aA hV hE hB j kd nm _ _ i (place_text i s) gv hg _ _ V w hw h hz
  | bool i b => exact grantX_leaf B cb mb st.1 st.2.1 st.2.2 lv tv w0 aT aN aA hV hE hB j kd nm _ _ i (place_bool i b) gv hg _ _ V w hw h hz
  | set i a n c ss => exact grantX_leaf B cb mb st.1 st.2.1 st.2.2 lv tv w0 aT aN aA hV hE hB j kd nm _ _ i (place_set i a n c) gv hg _ _ V w hw h hz
  | attr i n => exact absurd he id
  | lett i n => exact absurd he id
  | name i s => exact grantX_leaf B cb mb st.1 st.2.1 st.2.2 lv tv w0 aT aN aA hV hE hB j kd nm _ _ i (place_name i s) gv hg _ _ V w hw h hz
  | un i op k =>
    obtain ⟨tk, uk, vk⟩ := k.form
    simp only [Ex.val, vk] at V ⊢
    exact grantX_un B cb mb st.1 st.2.1 st.2.2 lv tv w0 aT aN aA hV hE hB j kd nm i op tk uk gv hg _ _ V w hw h hz
  | bin i op k l =>
    obtain ⟨tk, uk, vk⟩ := k.form
    obtain ⟨tl, ul, vl⟩ := l.form
    simp only [Ex.val, vk, vl] at V ⊢
    exact grantX_bin B cb mb st.1 st.2.1 st.2.2 lv tv w0 aT aN aA hV hE hB j kd nm i op tk uk tl ul gv hg _ _ V w hw h hz
  | ite i k l m =>
    obtain ⟨tk, uk, vk⟩ := k.form
    obtain ⟨tl, ul, vl⟩ := l.form
    obtain ⟨tm, um, vm⟩ := m.form
    simp only [Ex.val, vk, vl, vm] at V ⊢
    exact grantX_ite B cb mb st.1 st.2.1 st.2.2 lv tv w0 aT aN aA hV hE hB j kd nm i tk uk tl ul tm um gv hg _ _ V w hw h hz

/-- a tree or none, as the checker takes it -/
def okO : Option Ex → Prop
  | none => True
  | some e => e.written

theorem conditionX_any (aT aN aA : Addr) (B cb mb : Nat) (st : Cs) (lv tv : Value) (w0 : World) (hV : Vok w0 aT) (hE : Eok w0 aN aA) (hB : w0.heap.size ≤ B) (hts : ∀ d ∈ st.1, 1 ≤ d.typ ∧ d.typ ≤ 4) (hl : st.2.1.length ≤ 1000) (x : Sx) (hs : okO x.cond) (w : World) (hw : Below B w0 w) (h : Cx B cb mb st.1 st.2.1 st.2.2 lv tv w) (hz : st.2.2.length + cntO x.cond ≤ 4000) :
    Calls Tryz.prog 66 #[.pointer (some ⟨cb, 0, none⟩), .agg #[.int .i64 x.at', .int .i64 x.kind, .string x.name, optX x.cond, optX x.grant]] w (GoX aT aN aA B cb mb lv tv (condX st x) w) := by
  have hg := formV_optX x.grant
  obtain ⟨j, kd, nm, co, gr⟩ := x
  cases co with
  | none => exact conditionX_none aT aN aA B cb mb st.1 st.2.1 st.2.2 lv tv j kd nm _ hg w h
  | some e => exact conditionX_tree aT aN aA B cb mb st lv tv w0 hV hE hB hts hl j kd nm _ hg e hs w hw h hz

theorem grantX_any (aT aN aA : Addr) (B cb mb : Nat) (st : Cs) (lv tv : Value) (w0 : World) (hV : Vok w0 aT) (hE : Eok w0 aN aA) (hB : w0.heap.size ≤ B) (hts : ∀ d ∈ st.1, 1 ≤ d.typ ∧ d.typ ≤ 4) (hl : st.2.1.length ≤ 1000) (x : Sx) (hs : okO x.grant) (w : World) (hw : Below B w0 w) (h : Cx B cb mb st.1 st.2.1 st.2.2 lv tv w) (hz : st.2.2.length + cntO x.grant ≤ 4000) :
    Calls Tryz.prog 67 #[.pointer (some ⟨cb, 0, none⟩), .agg #[.int .i64 x.at', .int .i64 x.kind, .string x.name, optX x.cond, optX x.grant]] w (GoX aT aN aA B cb mb lv tv (grantX st x) w) := by
  have hg := formV_optX x.cond
  obtain ⟨j, kd, nm, co, gr⟩ := x
  cases gr with
  | none => exact grantX_none aT aN aA B cb mb st.1 st.2.1 st.2.2 lv tv j kd nm _ hg w h
  | some e => exact grantX_tree aT aN aA B cb mb st lv tv w0 hV hE hB hts hl j kd nm _ hg e hs w hw h hz

theorem allX_app : ∀ (L M : List Sx) (st : Cs), allX st (L ++ M) = (allX st L).bind fun st1 => allX st1 M
  | [], M, st => rfl
  | x :: L, M, st => by
    rw [List.cons_append, allX, allX]
    cases stepX st x with
    | error f => rfl
    | ok st1 => exact allX_app L M st1

theorem allX_snoc (x : Sx) (L : List Sx) (st : Cs) : allX st (L ++ [x]) = (allX st L).bind fun st1 => stepX st1 x := by
  rw [allX_app]
  congr 1
  funext st1
  rw [allX]
  cases stepX st1 x <;> rfl

theorem allX_error (L : List Sx) (st : Cs) (k : Nat) {f : Int × Int} (h : allX st (L.take k) = .error f) : allX st L = .error f := by
  have e := allX_app (L.take k) (L.drop k) st
  rw [List.take_append_drop, h] at e
  exact e

/-- declarations of types that are there, one let for each let's type -/
def Wst (st : Cs) : Prop := ∀ d ∈ st.1, 1 ≤ d.typ ∧ d.typ ≤ 4

theorem letX_ok {D : List Dc} {ts tt ys : List Int} {nm : ByteArray} {i : Int} {ot : Rs} {st1 : Cs} (h : letX D ts tt nm i ot ys = .ok st1) : ∃ t, ot = .ok t ∧ fnd D nm = none ∧ st1 = (D ++ [⟨nm, true, ts.length, t⟩], ts ++ [t], tt ++ ys) := by
  cases ot with
  | error f => cases h
  | ok t =>
    simp only [letX] at h
    split at h
    · cases h
    · rename_i hn
      cases h
      exact ⟨t, rfl, by simpa using hn, rfl⟩

theorem whenX_ok {c : Int} {D : List Dc} {ts tt ys : List Int} {i : Int} {ot : Rs} {st1 : Cs} (h : whenX c D ts tt i ot ys = .ok st1) : ot = .ok c ∧ st1 = (D, ts, tt ++ ys) := by
  cases ot with
  | error f => cases h
  | ok t =>
    simp only [whenX] at h
    split at h
    · rename_i e
      subst e
      cases h
      exact ⟨rfl, rfl⟩
    · cases h

theorem condX_len {st st1 : Cs} {x : Sx} (h : condX st x = .ok st1) : st1.2.2.length = st.2.2.length + cntO x.cond ∧ st1.2.1.length ≤ st.2.1.length + 1 ∧ (Wst st → Wst st1) := by
  obtain ⟨j, kd, nm, co, gr⟩ := x
  cases co with
  | none => cases h; exact ⟨rfl, Nat.le_succ _, id⟩
  | some e =>
    simp only [condX, treeC] at h
    have hl := tysX_len st.1 e
    split at h
    · obtain ⟨t, h1, _, rfl⟩ := letX_ok h
      refine ⟨by simp [hl, cntO], by simp, fun hin d hd => ?_⟩
      rcases List.mem_append.1 hd with hd | hd
      · exact hin d hd
      · simp at hd
        subst hd
        exact tyX_in hin e t h1
    · obtain ⟨_, rfl⟩ := whenX_ok h
      exact ⟨by simp [hl, cntO], Nat.le_succ _, id⟩

theorem grantX_len {st st1 : Cs} {x : Sx} (h : grantX st x = .ok st1) : st1.2.2.length = st.2.2.length + cntO x.grant ∧ st1.2.1 = st.2.1 ∧ st1.1 = st.1 := by
  obtain ⟨j, kd, nm, co, gr⟩ := x
  cases gr with
  | none => cases h; exact ⟨rfl, rfl, rfl⟩
  | some e =>
    simp only [grantX] at h
    have hl := tysX_len st.1 e
    obtain ⟨_, rfl⟩ := whenX_ok h
    exact ⟨by simp [hl, cntO], rfl, rfl⟩

theorem allX_len : ∀ {L : List Sx} {st st1 : Cs}, allX st L = .ok st1 → st1.2.2.length = st.2.2.length + cntX L ∧ st1.2.1.length ≤ st.2.1.length + L.length ∧ (Wst st → Wst st1)
  | [], st, st1, h => by cases h; exact ⟨by simp [cntX], by simp, id⟩
  | x :: L, st, st1, h => by
    rw [allX, stepX] at h
    cases h1 : condX st x with
    | error f => rw [h1] at h; cases h
    | ok s1 =>
      rw [h1] at h
      change ((grantX s1 x).bind fun st1 => allX st1 L) = .ok st1 at h
      cases h2 : grantX s1 x with
      | error f => rw [h2] at h; cases h
      | ok s2 =>
        rw [h2] at h
        obtain ⟨a1, a2, a3⟩ := condX_len h1
        obtain ⟨b1, b2, b3⟩ := grantX_len h2
        obtain ⟨c1, c2, c3⟩ := allX_len (show allX s2 L = .ok st1 from h)
        rw [cntX_cons]
        refine ⟨by omega, by rw [b2] at c2; simp; omega, fun hin => c3 (by unfold Wst; rw [b3]; exact a3 hin)⟩

theorem cntX_room (L : List Sx) (k : Nat) (h : k < L.length) : cntX (L.take k) + (cntO L[k].cond + cntO L[k].grant) ≤ cntX L := by
  have e : L = L.take k ++ (L[k] :: L.drop (k + 1)) := by rw [List.getElem_cons_drop, List.take_append_drop]
  have e2 := congrArg cntX e
  rw [cntX_app, cntX_cons] at e2
  omega

end Go.Proofs.YtddpcehgopeklaaGreatDoor

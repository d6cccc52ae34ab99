/-
  Nodes in post-order, told by a walk: the same as told by a stack. Own work.
-/
import Derived.Test.YtiaijhkcnfpamaaDoorVPP
namespace Go.Proofs.YtiaijhkcnfpamaaDoor
open Go.RowKit
set_option linter.unusedVariables false

/-- the kids one after another, then the node; -1 where a kid does not stand ahead -/
def kidsF (f : Int → List Int → List Int) (top : Int) : List Int → List Int → List Int
  | [], out => out ++ [top]
  | k :: ks, out => if top ≤ k then out ++ [-1] else kidsF f top ks (f k out)

/-- the walk of the model -/
def walkF (K : List (List Int)) : Nat → Int → List Int → List Int
  | 0 => fun _ out => out ++ [-1]
  | n + 1 => fun top out => if top < 0 ∨ (K.length : Int) ≤ top ∨ K.length < out.length then out ++ [-1] else kidsF (walkF K n) top (K.getD top.toNat []) out

/-- 0, 1, 2 and so on -/
def good (l : List Int) : Prop := ∀ (i : Nat) (x : Int), l[i]? = some x → x = i

theorem good.pre {l m : List Int} (h : good (l ++ m)) : good l := fun i x hx => by
  have hi : i < l.length := (List.getElem?_eq_some_iff.1 hx).1
  exact h i x (by rw [List.getElem?_append_left hi]; exact hx)

theorem good.last {l : List Int} {x : Int} (h : good (l ++ [x])) : x = l.length := h l.length x (by simp)

theorem good.snoc {l : List Int} {x : Int} (h : good l) (e : x = l.length) : good (l ++ [x]) := fun i y hy => by
  rcases Nat.lt_trichotomy i l.length with k | k | k
  · rw [List.getElem?_append_left k] at hy; exact h i y hy
  · subst k; simp at hy; omega
  · rw [List.getElem?_append_right (by omega), List.getElem?_eq_none (by simp; omega)] at hy; cases hy

theorem good_nil : good [] := fun i x hx => by simp at hx

theorem good_iff (l : List Int) : good l ↔ ∀ i, (h : i < l.length) → l[i] = (i : Int) := by
  constructor
  · intro h i hi; exact h i _ (List.getElem?_eq_getElem hi)
  · intro h i x hx
    obtain ⟨hi, e⟩ := List.getElem?_eq_some_iff.1 hx
    rw [← e]; exact h i hi

/-- a walk only adds -/
theorem kidsF_pre {f : Int → List Int → List Int} (hf : ∀ k out, ∃ l, f k out = out ++ l) (top : Int) : ∀ (ks out : List Int), ∃ l, kidsF f top ks out = out ++ l
  | [], out => ⟨[top], rfl⟩
  | k :: ks, out => by
    rw [kidsF]
    split
    · exact ⟨[-1], rfl⟩
    · obtain ⟨l, e⟩ := hf k out
      obtain ⟨m, e2⟩ := kidsF_pre hf top ks (f k out)
      exact ⟨l ++ m, by rw [e2, e, List.append_assoc]⟩

theorem walkF_pre (K : List (List Int)) : ∀ (n : Nat) (top : Int) (out : List Int), ∃ l, walkF K n top out = out ++ l
  | 0, top, out => ⟨[-1], rfl⟩
  | n + 1, top, out => by
    rw [walkF]
    dsimp only
    split
    · exact ⟨[-1], rfl⟩
    · exact kidsF_pre (walkF_pre K n) top _ out

/-- where the walk gives 0, 1, 2 .., trees stand in post-order -/
theorem kidsF_good {K : List (List Int)} {f : Int → List Int → List Int} (hp : ∀ k out, ∃ l, f k out = out ++ l)
    (hf : ∀ k out, good (f k out) → ∃ d, Forest K out.length [(k.toNat, d)] (f k out).length ∧ 0 ≤ k) (top : Int) :
    ∀ (ks out : List Int), good (kidsF f top ks out) → ∃ fs, topsI fs = ks ∧ ∃ t, Forest K out.length fs t ∧ top = (t : Int) ∧ (kidsF f top ks out).length = t + 1
  | [], out, h => ⟨[], rfl, out.length, .nil _, by rw [kidsF] at h; exact h.last, by simp [kidsF]⟩
  | k :: ks, out, h => by
    rw [kidsF] at h ⊢
    split at h
    · have := h.last; omega
    · rename_i hk
      rw [if_neg hk]
      obtain ⟨l, e⟩ := kidsF_pre hp top ks (f k out)
      have h1 : good (f k out) := by rw [e] at h; exact h.pre
      obtain ⟨d, h2, h3⟩ := hf k out h1
      obtain ⟨fs, e1, t, h4, h5, h6⟩ := kidsF_good hp hf top ks (f k out) h
      exact ⟨(k.toNat, d) :: fs, by simp only [topsI, List.map_cons] at e1 ⊢; rw [e1]; congr 1; omega, t, h2.join h4, h5, h6⟩

theorem walkF_good (K : List (List Int)) : ∀ (n : Nat) (top : Int) (out : List Int), good (walkF K n top out) → ∃ d, Forest K out.length [(top.toNat, d)] (walkF K n top out).length ∧ 0 ≤ top
  | 0, top, out, h => by
    have := good.last (l := out) h
    omega
  | n + 1, top, out, h => by
    rw [walkF] at h ⊢
    dsimp only at h ⊢
    split at h
    · have := h.last; omega
    · rename_i hc
      rw [if_neg hc]
      obtain ⟨fs, e1, t, h4, h5, h6⟩ := kidsF_good (walkF_pre K n) (walkF_good K n) top _ out h
      have ht : top.toNat = t := by omega
      refine ⟨dep fs + 1, ?_, by omega⟩
      rw [h6, ht]
      refine .cons h4 ?_ (.nil _)
      have hl : t < K.length := by omega
      rw [ht] at e1
      rw [e1, List.getElem?_eq_getElem hl, List.getD_eq_getElem?_getD, List.getElem?_eq_getElem hl]
      rfl

/-- numbers from one on -/
def upto (a b : Nat) : List Int := (List.range' a (b - a)).map fun (i : Nat) => (i : Int)

theorem upto_self (a : Nat) : upto a a = [] := by simp [upto]

theorem upto_join {a b c : Nat} (h1 : a ≤ b) (h2 : b ≤ c) : upto a b ++ upto b c = upto a c := by
  rw [upto, upto, upto, ← List.map_append, show c - a = (b - a) + (c - b) by omega, ← List.range'_append_1, show a + (b - a) = b by omega]

theorem upto_one (a : Nat) : upto a (a + 1) = [(a : Int)] := by simp [upto]

theorem upto_len (a b : Nat) : (upto a b).length = b - a := by simp [upto]

/-- the walk over trees in post-order -/
theorem walkF_forest {K : List (List Int)} {a b : Nat} {fs : List (Nat × Nat)} (h : Forest K a fs b) :
    ∀ (n : Nat) (out : List Int), (∀ p ∈ fs, p.1 < n) → out.length = a → b ≤ K.length → (topsI fs).foldl (fun o k => walkF K n k o) out = out ++ upto a b := by
  induction h with
  | nil a => intro n out _ _ _; simp [topsI, upto_self]
  | @cons a t b ks fs hk ht hf i1 i2 =>
    intro n out hn ho hb
    have h1 := hk.le
    have h2 := hf.le
    have hlt := hk.lt
    have htn : t < n := hn _ (List.mem_cons_self ..)
    obtain ⟨n', rfl⟩ : ∃ n', n = n' + 1 := ⟨n - 1, by omega⟩
    have hw : walkF K (n' + 1) (t : Int) out = out ++ upto a (t + 1) := by
      rw [walkF]
      dsimp only
      rw [if_neg (by omega), Int.toNat_natCast, List.getD_eq_getElem?_getD, ht, Option.getD_some]
      have hq : ∀ (ks : List (Nat × Nat)) (o : List Int), (∀ p ∈ ks, p.1 < t) → kidsF (walkF K n') (t : Int) (topsI ks) o = (topsI ks).foldl (fun o k => walkF K n' k o) o ++ [(t : Int)] := by
        intro ks
        induction ks with
        | nil => intro o _; rfl
        | cons p ps ih =>
          intro o hp
          have := hp p (List.mem_cons_self ..)
          rw [show topsI (p :: ps) = (p.1 : Int) :: topsI ps from rfl, kidsF, if_neg (by omega), ih _ (fun q hq => hp q (List.mem_cons_of_mem _ hq))]
          rfl
      rw [hq ks out (fun p hp => (hlt p hp).2), i1 n' out (fun p hp => by have := (hlt p hp).2; omega) ho (by omega), List.append_assoc, ← upto_one t, upto_join h1 (by omega)]
    rw [show topsI ((t, dep ks + 1) :: fs) = (t : Int) :: topsI fs from rfl, List.foldl_cons, hw, i2 (n' + 1) _ (fun p hp => hn p (List.mem_cons_of_mem _ hp)) (by rw [List.length_append, upto_len]; omega) hb, List.append_assoc, upto_join (by omega) h2]

/-- roots whose walk gives 0, 1, 2 .. -/
theorem roots_good {K : List (List Int)} {n : Nat} : ∀ (A : List Int) (out : List Int), good (A.foldl (fun o k => walkF K n k o) out) → ∃ fs, topsI fs = A ∧ Forest K out.length fs (A.foldl (fun o k => walkF K n k o) out).length
  | [], out, _ => ⟨[], rfl, .nil _⟩
  | k :: A, out, h => by
    rw [List.foldl_cons] at h ⊢
    have hpre : ∃ l, A.foldl (fun o k => walkF K n k o) (walkF K n k out) = walkF K n k out ++ l := by
      have : ∀ (A : List Int) (o : List Int), ∃ l, A.foldl (fun o k => walkF K n k o) o = o ++ l := by
        intro A
        induction A with
        | nil => intro o; exact ⟨[], by simp⟩
        | cons x xs ih =>
          intro o
          obtain ⟨l, e⟩ := walkF_pre K n x o
          obtain ⟨m, e2⟩ := ih (walkF K n x o)
          exact ⟨l ++ m, by rw [List.foldl_cons, e2, e, List.append_assoc]⟩
      exact this A _
    obtain ⟨l, e⟩ := hpre
    have h1 : good (walkF K n k out) := by rw [e] at h; exact h.pre
    obtain ⟨d, h2, h3⟩ := walkF_good K n k out h1
    obtain ⟨fs, e1, h4⟩ := roots_good A (walkF K n k out) h
    exact ⟨(k.toNat, d) :: fs, by simp only [topsI, List.map_cons] at e1 ⊢; rw [e1]; congr 1; omega, h2.join h4⟩

/-- the depth of the model -/
def depthF (K : List (List Int)) : Nat → Int → Nat
  | 0 => fun _ => 1
  | n + 1 => fun top => ((K.getD top.toNat []).foldl (fun d k => max d (depthF K n k)) 0) + 1

theorem foldl_max (g : Int → Nat) : ∀ (ks : List Int) (d : Nat), ks.foldl (fun d k => max d (g k)) d = max d (ks.foldl (fun d k => max d (g k)) 0)
  | [], d => by simp
  | k :: ks, d => by
    rw [List.foldl_cons, List.foldl_cons, foldl_max g ks, foldl_max g ks (max 0 (g k))]
    omega

theorem depthF_forest {K : List (List Int)} {a b : Nat} {fs : List (Nat × Nat)} (h : Forest K a fs b) : ∀ (n : Nat), (∀ p ∈ fs, p.1 < n) → (∀ p ∈ fs, depthF K n (p.1 : Int) = p.2) ∧ (topsI fs).foldl (fun d k => max d (depthF K n k)) 0 = dep fs := by
  induction h with
  | nil a => intro n _; exact ⟨fun p hp => (by cases hp), rfl⟩
  | @cons a t b ks fs hk ht hf i1 i2 =>
    intro n hn
    have htn : t < n := hn _ (List.mem_cons_self ..)
    obtain ⟨n', rfl⟩ : ∃ n', n = n' + 1 := ⟨n - 1, by omega⟩
    have hlt := hk.lt
    have e1 : depthF K (n' + 1) (t : Int) = dep ks + 1 := by
      rw [depthF]
      dsimp only
      rw [Int.toNat_natCast, List.getD_eq_getElem?_getD, ht, Option.getD_some, (i1 n' (fun p hp => by have := (hlt p hp).2; omega)).2]
    obtain ⟨j1, j2⟩ := i2 (n' + 1) (fun p hp => hn p (List.mem_cons_of_mem _ hp))
    refine ⟨fun p hp => ?_, ?_⟩
    · rcases List.mem_cons.1 hp with e | e
      · subst e; exact e1
      · exact j1 p e
    · rw [show topsI ((t, dep ks + 1) :: fs) = (t : Int) :: topsI fs from rfl, List.foldl_cons, foldl_max, j2, e1, dep]
      omega

theorem good_upto (n : Nat) : good (upto 0 n) := fun i x hx => by
  rw [upto, List.getElem?_map, Option.map_eq_some_iff] at hx
  obtain ⟨j, hj, rfl⟩ := hx
  obtain ⟨h1, h2⟩ := List.getElem?_eq_some_iff.1 hj
  rw [List.getElem_range'] at h2
  omega

/-- the walk's way and the stack's way say the same -/
theorem shape_iff (K : List (List Int)) (A : List Int) :
    ((A.foldl (fun o k => walkF K K.length k o) []).length = K.length ∧ good (A.foldl (fun o k => walkF K K.length k o) []) ∧ ∀ r ∈ A, depthF K K.length r ≤ 64) ↔ ∃ S, runT K K.length [] 0 = some S ∧ topsI S = A := by
  constructor
  · rintro ⟨h1, h2, h3⟩
    obtain ⟨fs, rfl, hF⟩ := roots_good A [] h2
    rw [h1] at hF
    have hd := (depthF_forest hF K.length (fun p hp => (hF.lt p hp).2)).1
    have hr := runT_forest hF [] (fun p hp => by
      rw [← hd p hp]
      exact h3 _ (List.mem_map.2 ⟨p, hp, rfl⟩))
    exact ⟨fs, by simpa using hr, rfl⟩
  · rintro ⟨S, hr, rfl⟩
    obtain ⟨hF, hd⟩ := forest_runT K.length (.nil 0) (fun p hp => by cases hp) hr
    rw [Nat.zero_add] at hF
    have hw := walkF_forest hF K.length [] (fun p hp => (hF.lt p hp).2) rfl (Nat.le_refl _)
    rw [List.nil_append] at hw
    rw [hw]
    refine ⟨by rw [upto_len]; omega, good_upto _, fun r hr => ?_⟩
    obtain ⟨p, hp, rfl⟩ := List.mem_map.1 hr
    rw [(depthF_forest hF K.length (fun p hp => (hF.lt p hp).2)).1 p hp]
    exact hd p hp

end Go.Proofs.YtiaijhkcnfpamaaDoor

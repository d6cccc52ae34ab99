/-
  Hid, VPP, VPQ, Plain, TL, TK, Sets, VPR, QA, JT. Own work.
-/
import Derived.Test.YtjapdeehnfoonaaGreatDoorRows
import Derived.Below
import Derived.WalkKit
import Derived.Lib.ItoaNum
namespace Go.Proofs.YtjapdeehnfoonaaGreatDoor
open Go.RowKit

theorem hide {p : Prop} (h : p) : Hid p := h
theorem unhide {p : Prop} (h : Hid p) : p := h

end Go.Proofs.YtjapdeehnfoonaaGreatDoor

namespace Go.Proofs.YtjapdeehnfoonaaGreatDoor
open Go.RowKit
set_option linter.unusedVariables false

/-- the greatest depth -/
def dep : List (Nat × Nat) → Nat
  | [] => 0
  | p :: ps => max p.2 (dep ps)

theorem dep_le {ks : List (Nat × Nat)} {p : Nat × Nat} (h : p ∈ ks) : p.2 ≤ dep ks := by
  induction ks with
  | nil => cases h
  | cons q qs ih =>
    rw [dep]
    rcases List.mem_cons.1 h with e | e
    · subst e; omega
    · have := ih e; omega

def topsI (ks : List (Nat × Nat)) : List Int := ks.map fun p => (p.1 : Int)

/-- Trees side by side, in post-order: from a place on, each with its top and depth, up to a place (K: the kids of each node). -/
inductive Forest (K : List (List Int)) : Nat → List (Nat × Nat) → Nat → Prop
  | nil (a : Nat) : Forest K a [] a
  | cons {a t b : Nat} {ks fs : List (Nat × Nat)} (hk : Forest K a ks t) (ht : K[t]? = some (topsI ks)) (hf : Forest K (t + 1) fs b) : Forest K a ((t, dep ks + 1) :: fs) b

theorem Forest.le {K : List (List Int)} {a b : Nat} {fs : List (Nat × Nat)} (h : Forest K a fs b) : a ≤ b := by
  induction h with
  | nil a => exact Nat.le_refl _
  | cons hk ht hf i1 i2 => omega

theorem Forest.lt {K : List (List Int)} {a b : Nat} {fs : List (Nat × Nat)} (h : Forest K a fs b) : ∀ p ∈ fs, a ≤ p.1 ∧ p.1 < b := by
  induction h with
  | nil a => intro p hp; cases hp
  | cons hk ht hf i1 i2 =>
    intro p hp
    have h1 := hk.le
    have h2 := hf.le
    rcases List.mem_cons.1 hp with e | e
    · subst e; exact ⟨h1, by show _ < _; omega⟩
    · have := i2 p e; omega

theorem Forest.join {K : List (List Int)} {a b c : Nat} {fs gs : List (Nat × Nat)} (h : Forest K a fs b) (k : Forest K b gs c) : Forest K a (fs ++ gs) c := by
  induction h with
  | nil a => exact k
  | cons hk ht hf i1 i2 => exact .cons hk ht (i2 k)

theorem Forest.split {K : List (List Int)} : ∀ {fs gs : List (Nat × Nat)} {a c : Nat}, Forest K a (fs ++ gs) c → ∃ b, Forest K a fs b ∧ Forest K b gs c
  | [], gs, a, c, h => ⟨a, .nil a, h⟩
  | p :: fs, gs, a, c, h => by
    cases h with
    | cons hk ht hf =>
      obtain ⟨b, h1, h2⟩ := Forest.split hf
      exact ⟨b, .cons hk ht h1, h2⟩

/-- one node more on the stack -/
def stepT (S : List (Nat × Nat)) (i : Nat) (ks : List Int) : Option (List (Nat × Nat)) :=
  if S.length < ks.length then none
  else if topsI (S.drop (S.length - ks.length)) ≠ ks then none
  else if dep (S.drop (S.length - ks.length)) = 64 then none
  else some (S.take (S.length - ks.length) ++ [(i, dep (S.drop (S.length - ks.length)) + 1)])

/-- the stack behind so many nodes more -/
def runT (K : List (List Int)) : Nat → List (Nat × Nat) → Nat → Option (List (Nat × Nat))
  | 0, S, _ => some S
  | n + 1, S, i => match K[i]? with
    | none => none
    | some ks => match stepT S i ks with
      | none => none
      | some S' => runT K n S' (i + 1)

theorem runT_add (K : List (List Int)) : ∀ (m n : Nat) (S : List (Nat × Nat)) (i : Nat), runT K (m + n) S i = (runT K m S i).bind fun S' => runT K n S' (i + m)
  | 0, n, S, i => by simp [runT]
  | m + 1, n, S, i => by
    rw [show m + 1 + n = (m + n) + 1 by omega, runT, runT]
    cases K[i]? with
    | none => rfl
    | some ks =>
      dsimp only
      cases stepT S i ks with
      | none => rfl
      | some S' =>
        dsimp only
        rw [runT_add K m n S' (i + 1), show i + 1 + m = i + (m + 1) by omega]

theorem topsI_len (ks : List (Nat × Nat)) : (topsI ks).length = ks.length := by simp [topsI]

theorem stepT_hit (S ks : List (Nat × Nat)) (i : Nat) (h : dep ks + 1 ≤ 64) : stepT (S ++ ks) i (topsI ks) = some (S ++ [(i, dep ks + 1)]) := by
  have e : (S ++ ks).length - (topsI ks).length = S.length := by rw [topsI_len, List.length_append]; omega
  rw [stepT, if_neg (by rw [topsI_len, List.length_append]; omega), e, List.drop_left, if_neg (by simp), if_neg (by omega), List.take_left]

theorem stepT_of {S S' : List (Nat × Nat)} {i : Nat} {ks : List Int} (h : stepT S i ks = some S') : ∃ A B, S = A ++ B ∧ topsI B = ks ∧ dep B ≠ 64 ∧ S' = A ++ [(i, dep B + 1)] := by
  rw [stepT] at h
  split at h
  · cases h
  · split at h
    · cases h
    · split at h
      · cases h
      · rename_i h1 h2 h3
        rw [ne_eq, Decidable.not_not] at h2
        exact ⟨_, _, (List.take_append_drop (S.length - ks.length) S).symm, h2, h3, (Option.some.inj h).symm⟩

/-- trees that are not too deep are found on the stack -/
theorem runT_forest {K : List (List Int)} {a b : Nat} {fs : List (Nat × Nat)} (h : Forest K a fs b) : ∀ (S : List (Nat × Nat)), (∀ p ∈ fs, p.2 ≤ 64) → runT K (b - a) S a = some (S ++ fs) := by
  induction h with
  | nil a => intro S _; simp [runT]
  | @cons a t b ks fs hk ht hf i1 i2 =>
    intro S hd
    have h1 := hk.le
    have h2 := hf.le
    have hdk : dep ks + 1 ≤ 64 := hd _ (List.mem_cons_self ..)
    rw [show b - a = (t - a) + (1 + (b - (t + 1))) by omega, runT_add, i1 S (fun p hp => by have := dep_le hp; omega), Option.bind_some, show a + (t - a) = t by omega, runT_add]
    have e1 : runT K 1 (S ++ ks) t = some (S ++ [(t, dep ks + 1)]) := by
      rw [runT, ht]
      dsimp only
      rw [stepT_hit S ks t hdk]
      rfl
    rw [e1, Option.bind_some, i2 _ (fun p hp => hd p (List.mem_cons_of_mem _ hp)), List.append_assoc]
    rfl

/-- what lies on the stack are trees that are not too deep -/
theorem forest_runT {K : List (List Int)} : ∀ (n : Nat) {S S' : List (Nat × Nat)} {i : Nat}, Forest K 0 S i → (∀ p ∈ S, p.2 ≤ 64) → runT K n S i = some S' → Forest K 0 S' (i + n) ∧ ∀ p ∈ S', p.2 ≤ 64
  | 0, S, S', i, h, hd, hr => by
    rw [runT] at hr
    obtain rfl := Option.some.inj hr
    exact ⟨h, hd⟩
  | n + 1, S, S', i, h, hd, hr => by
    rw [runT] at hr
    cases hK : K[i]? with
    | none => rw [hK] at hr; cases hr
    | some ks =>
      rw [hK] at hr
      dsimp only at hr
      cases hs : stepT S i ks with
      | none => rw [hs] at hr; cases hr
      | some S1 =>
        rw [hs] at hr
        dsimp only at hr
        obtain ⟨A, B, rfl, hB, h64, rfl⟩ := stepT_of hs
        obtain ⟨m, f1, f2⟩ := h.split
        have f3 : Forest K 0 (A ++ [(i, dep B + 1)]) (i + 1) := f1.join (.cons f2 (by rw [hK, hB]) (.nil _))
        have hdB : dep B ≤ 64 := by
          have : ∀ (L : List (Nat × Nat)), (∀ p ∈ L, p.2 ≤ 64) → dep L ≤ 64 := by
            intro L
            induction L with
            | nil => intro _; simp [dep]
            | cons q qs ih =>
              intro hq
              have h1 := hq q (List.mem_cons_self ..)
              have h2 := ih (fun p hp => hq p (List.mem_cons_of_mem _ hp))
              rw [dep]; omega
          exact this B (fun p hp => hd p (List.mem_append_right _ hp))
        have hd1 : ∀ p ∈ A ++ [(i, dep B + 1)], p.2 ≤ 64 := fun p hp => by
          rcases List.mem_append.1 hp with k | k
          · exact hd p (List.mem_append_left _ k)
          · rw [List.mem_singleton.1 k]; show dep B + 1 ≤ 64; omega
        have := forest_runT n f3 hd1 hr
        rw [show i + (n + 1) = i + 1 + n by omega]
        exact this

end Go.Proofs.YtjapdeehnfoonaaGreatDoor

namespace Go.Proofs.YtjapdeehnfoonaaGreatDoor
open Go.RowKit
set_option linter.unusedVariables false

/-- the kids one after another, then the node; -1 where a kid does not stand ahead -/
def kidsF (f : Int → List Int → List Int) (top : Int) : List Int → List Int → List Int
  | [], out => out ++ [top]
  | k :: ks, out => if top ≤ k then out ++ [-1] else kidsF f top ks (f k out)

/-- the walk of the model -/
def walkF (K : List (List Int)) : Nat → Int → List Int → List Int
  | 0 => fun _ out => out ++ [-1]
  | n + 1 => fun top out => if top < 0 ∨ (K.length : Int) ≤ top ∨ K.length < out.length then out ++ [-1] else kidsF (walkF K n) top (K.getD top.toNat []) out

/-- 0, 1, 2 and so on -/
def good (l : List Int) : Prop := ∀ (i : Nat) (x : Int), l[i]? = some x → x = i

theorem good.pre {l m : List Int} (h : good (l ++ m)) : good l := fun i x hx => by
  have hi : i < l.length := (List.getElem?_eq_some_iff.1 hx).1
  exact h i x (by rw [List.getElem?_append_left hi]; exact hx)

theorem good.last {l : List Int} {x : Int} (h : good (l ++ [x])) : x = l.length := h l.length x (by simp)

theorem good.snoc {l : List Int} {x : Int} (h : good l) (e : x = l.length) : good (l ++ [x]) := fun i y hy => by
  rcases Nat.lt_trichotomy i l.length with k | k | k
  · rw [List.getElem?_append_left k] at hy; exact h i y hy
  · subst k; simp at hy; omega
  · rw [List.getElem?_append_right (by omega), List.getElem?_eq_none (by simp; omega)] at hy; cases hy

theorem good_nil : good [] := fun i x hx => by simp at hx

theorem good_iff (l : List Int) : good l ↔ ∀ i, (h : i < l.length) → l[i] = (i : Int) := by
  constructor
  · intro h i hi; exact h i _ (List.getElem?_eq_getElem hi)
  · intro h i x hx
    obtain ⟨hi, e⟩ := List.getElem?_eq_some_iff.1 hx
    rw [← e]; exact h i hi

/-- a walk only adds -/
theorem kidsF_pre {f : Int → List Int → List Int} (hf : ∀ k out, ∃ l, f k out = out ++ l) (top : Int) : ∀ (ks out : List Int), ∃ l, kidsF f top ks out = out ++ l
  | [], out => ⟨[top], rfl⟩
  | k :: ks, out => by
    rw [kidsF]
    split
    · exact ⟨[-1], rfl⟩
    · obtain ⟨l, e⟩ := hf k out
      obtain ⟨m, e2⟩ := kidsF_pre hf top ks (f k out)
      exact ⟨l ++ m, by rw [e2, e, List.append_assoc]⟩

theorem walkF_pre (K : List (List Int)) : ∀ (n : Nat) (top : Int) (out : List Int), ∃ l, walkF K n top out = out ++ l
  | 0, top, out => ⟨[-1], rfl⟩
  | n + 1, top, out => by
    rw [walkF]
    dsimp only
    split
    · exact ⟨[-1], rfl⟩
    · exact kidsF_pre (walkF_pre K n) top _ out

/-- where the walk gives 0, 1, 2 .., trees stand in post-order -/
theorem kidsF_good {K : List (List Int)} {f : Int → List Int → List Int} (hp : ∀ k out, ∃ l, f k out = out ++ l)
    (hf : ∀ k out, good (f k out) → ∃ d, Forest K out.length [(k.toNat, d)] (f k out).length ∧ 0 ≤ k) (top : Int) :
    ∀ (ks out : List Int), good (kidsF f top ks out) → ∃ fs, topsI fs = ks ∧ ∃ t, Forest K out.length fs t ∧ top = (t : Int) ∧ (kidsF f top ks out).length = t + 1
  | [], out, h => ⟨[], rfl, out.length, .nil _, by rw [kidsF] at h; exact h.last, by simp [kidsF]⟩
  | k :: ks, out, h => by
    rw [kidsF] at h ⊢
    split at h
    · have := h.last; omega
    · rename_i hk
      rw [if_neg hk]
      obtain ⟨l, e⟩ := kidsF_pre hp top ks (f k out)
      have h1 : good (f k out) := by rw [e] at h; exact h.pre
      obtain ⟨d, h2, h3⟩ := hf k out h1
      obtain ⟨fs, e1, t, h4, h5, h6⟩ := kidsF_good hp hf top ks (f k out) h
      exact ⟨(k.toNat, d) :: fs, by simp only [topsI, List.map_cons] at e1 ⊢; rw [e1]; congr 1; omega, t, h2.join h4, h5, h6⟩

theorem walkF_good (K : List (List Int)) : ∀ (n : Nat) (top : Int) (out : List Int), good (walkF K n top out) → ∃ d, Forest K out.length [(top.toNat, d)] (walkF K n top out).length ∧ 0 ≤ top
  | 0, top, out, h => by
    have := good.last (l := out) h
    omega
  | n + 1, top, out, h => by
    rw [walkF] at h ⊢
    dsimp only at h ⊢
    split at h
    · have := h.last; omega
    · rename_i hc
      rw [if_neg hc]
      obtain ⟨fs, e1, t, h4, h5, h6⟩ := kidsF_good (walkF_pre K n) (walkF_good K n) top _ out h
      have ht : top.toNat = t := by omega
      refine ⟨dep fs + 1, ?_, by omega⟩
      rw [h6, ht]
      refine .cons h4 ?_ (.nil _)
      have hl : t < K.length := by omega
      rw [ht] at e1
      rw [e1, List.getElem?_eq_getElem hl, List.getD_eq_getElem?_getD, List.getElem?_eq_getElem hl]
      rfl

/-- numbers from one on -/
def upto (a b : Nat) : List Int := (List.range' a (b - a)).map fun (i : Nat) => (i : Int)

theorem upto_self (a : Nat) : upto a a = [] := by simp [upto]

theorem upto_join {a b c : Nat} (h1 : a ≤ b) (h2 : b ≤ c) : upto a b ++ upto b c = upto a c := by
  rw [upto, upto, upto, ← List.map_append, show c - a = (b - a) + (c - b) by omega, ← List.range'_append_1, show a + (b - a) = b by omega]

theorem upto_one (a : Nat) : upto a (a + 1) = [(a : Int)] := by simp [upto]

theorem upto_len (a b : Nat) : (upto a b).length = b - a := by simp [upto]

/-- the walk over trees in post-order -/
theorem walkF_forest {K : List (List Int)} {a b : Nat} {fs : List (Nat × Nat)} (h : Forest K a fs b) :
    ∀ (n : Nat) (out : List Int), (∀ p ∈ fs, p.1 < n) → out.length = a → b ≤ K.length → (topsI fs).foldl (fun o k => walkF K n k o) out = out ++ upto a b := by
  induction h with
  | nil a => intro n out _ _ _; simp [topsI, upto_self]
  | @cons a t b ks fs hk ht hf i1 i2 =>
    intro n out hn ho hb
    have h1 := hk.le
    have h2 := hf.le
    have hlt := hk.lt
    have htn : t < n := hn _ (List.mem_cons_self ..)
    obtain ⟨n', rfl⟩ : ∃ n', n = n' + 1 := ⟨n - 1, by omega⟩
    have hw : walkF K (n' + 1) (t : Int) out = out ++ upto a (t + 1) := by
      rw [walkF]
      dsimp only
      rw [if_neg (by omega), Int.toNat_natCast, List.getD_eq_getElem?_getD, ht, Option.getD_some]
      have hq : ∀ (ks : List (Nat × Nat)) (o : List Int), (∀ p ∈ ks, p.1 < t) → kidsF (walkF K n') (t : Int) (topsI ks) o = (topsI ks).foldl (fun o k => walkF K n' k o) o ++ [(t : Int)] := by
        intro ks
        induction ks with
        | nil => intro o _; rfl
        | cons p ps ih =>
          intro o hp
          have := hp p (List.mem_cons_self ..)
          rw [show topsI (p :: ps) = (p.1 : Int) :: topsI ps from rfl, kidsF, if_neg (by omega), ih _ (fun q hq => hp q (List.mem_cons_of_mem _ hq))]
          rfl
      rw [hq ks out (fun p hp => (hlt p hp).2), i1 n' out (fun p hp => by have := (hlt p hp).2; omega) ho (by omega), List.append_assoc, ← upto_one t, upto_join h1 (by omega)]
    rw [show topsI ((t, dep ks + 1) :: fs) = (t : Int) :: topsI fs from rfl, List.foldl_cons, hw, i2 (n' + 1) _ (fun p hp => hn p (List.mem_cons_of_mem _ hp)) (by rw [List.length_append, upto_len]; omega) hb, List.append_assoc, upto_join (by omega) h2]

/-- roots whose walk gives 0, 1, 2 .. -/
theorem roots_good {K : List (List Int)} {n : Nat} : ∀ (A : List Int) (out : List Int), good (A.foldl (fun o k => walkF K n k o) out) → ∃ fs, topsI fs = A ∧ Forest K out.length fs (A.foldl (fun o k => walkF K n k o) out).length
  | [], out, _ => ⟨[], rfl, .nil _⟩
  | k :: A, out, h => by
    rw [List.foldl_cons] at h ⊢
    have hpre : ∃ l, A.foldl (fun o k => walkF K n k o) (walkF K n k out) = walkF K n k out ++ l := by
      have : ∀ (A : List Int) (o : List Int), ∃ l, A.foldl (fun o k => walkF K n k o) o = o ++ l := by
        intro A
        induction A with
        | nil => intro o; exact ⟨[], by simp⟩
        | cons x xs ih =>
          intro o
          obtain ⟨l, e⟩ := walkF_pre K n x o
          obtain ⟨m, e2⟩ := ih (walkF K n x o)
          exact ⟨l ++ m, by rw [List.foldl_cons, e2, e, List.append_assoc]⟩
      exact this A _
    obtain ⟨l, e⟩ := hpre
    have h1 : good (walkF K n k out) := by rw [e] at h; exact h.pre
    obtain ⟨d, h2, h3⟩ := walkF_good K n k out h1
    obtain ⟨fs, e1, h4⟩ := roots_good A (walkF K n k out) h
    exact ⟨(k.toNat, d) :: fs, by simp only [topsI, List.map_cons] at e1 ⊢; rw [e1]; congr 1; omega, h2.join h4⟩

/-- the depth of the model -/
def depthF (K : List (List Int)) : Nat → Int → Nat
  | 0 => fun _ => 1
  | n + 1 => fun top => ((K.getD top.toNat []).foldl (fun d k => max d (depthF K n k)) 0) + 1

theorem foldl_max (g : Int → Nat) : ∀ (ks : List Int) (d : Nat), ks.foldl (fun d k => max d (g k)) d = max d (ks.foldl (fun d k => max d (g k)) 0)
  | [], d => by simp
  | k :: ks, d => by
    rw [List.foldl_cons, List.foldl_cons, foldl_max g ks, foldl_max g ks (max 0 (g k))]
    omega

theorem depthF_forest {K : List (List Int)} {a b : Nat} {fs : List (Nat × Nat)} (h : Forest K a fs b) : ∀ (n : Nat), (∀ p ∈ fs, p.1 < n) → (∀ p ∈ fs, depthF K n (p.1 : Int) = p.2) ∧ (topsI fs).foldl (fun d k => max d (depthF K n k)) 0 = dep fs := by
  induction h with
  | nil a => intro n _; exact ⟨fun p hp => (by cases hp), rfl⟩
  | @cons a t b ks fs hk ht hf i1 i2 =>
    intro n hn
    have htn : t < n := hn _ (List.mem_cons_self ..)
    obtain ⟨n', rfl⟩ : ∃ n', n = n' + 1 := ⟨n - 1, by omega⟩
    have hlt := hk.lt
    have e1 : depthF K (n' + 1) (t : Int) = dep ks + 1 := by
      rw [depthF]
      dsimp only
      rw [Int.toNat_natCast, List.getD_eq_getElem?_getD, ht, Option.getD_some, (i1 n' (fun p hp => by have := (hlt p hp).2; omega)).2]
    obtain ⟨j1, j2⟩ := i2 (n' + 1) (fun p hp => hn p (List.mem_cons_of_mem _ hp))
    refine ⟨fun p hp => ?_, ?_⟩
    · rcases List.mem_cons.1 hp with e | e
      · subst e; exact e1
      · exact j1 p e
    · rw [show topsI ((t, dep ks + 1) :: fs) = (t : Int) :: topsI fs from rfl, List.foldl_cons, foldl_max, j2, e1, dep]
      omega

theorem good_upto (n : Nat) : good (upto 0 n) := fun i x hx => by
  rw [upto, List.getElem?_map, Option.map_eq_some_iff] at hx
  obtain ⟨j, hj, rfl⟩ := hx
  obtain ⟨h1, h2⟩ := List.getElem?_eq_some_iff.1 hj
  rw [List.getElem_range'] at h2
  omega

/-- the walk's way and the stack's way say the same -/
theorem shape_iff (K : List (List Int)) (A : List Int) :
    ((A.foldl (fun o k => walkF K K.length k o) []).length = K.length ∧ good (A.foldl (fun o k => walkF K K.length k o) []) ∧ ∀ r ∈ A, depthF K K.length r ≤ 64) ↔ ∃ S, runT K K.length [] 0 = some S ∧ topsI S = A := by
  constructor
  · rintro ⟨h1, h2, h3⟩
    obtain ⟨fs, rfl, hF⟩ := roots_good A [] h2
    rw [h1] at hF
    have hd := (depthF_forest hF K.length (fun p hp => (hF.lt p hp).2)).1
    have hr := runT_forest hF [] (fun p hp => by
      rw [← hd p hp]
      exact h3 _ (List.mem_map.2 ⟨p, hp, rfl⟩))
    exact ⟨fs, by simpa using hr, rfl⟩
  · rintro ⟨S, hr, rfl⟩
    obtain ⟨hF, hd⟩ := forest_runT K.length (.nil 0) (fun p hp => by cases hp) hr
    rw [Nat.zero_add] at hF
    have hw := walkF_forest hF K.length [] (fun p hp => (hF.lt p hp).2) rfl (Nat.le_refl _)
    rw [List.nil_append] at hw
    rw [hw]
    refine ⟨by rw [upto_len]; omega, good_upto _, fun r hr => ?_⟩
    obtain ⟨p, hp, rfl⟩ := List.mem_map.1 hr
    rw [(depthF_forest hF K.length (fun p hp => (hF.lt p hp).2)).1 p hp]
    exact hd p hp

end Go.Proofs.YtjapdeehnfoonaaGreatDoor

namespace Go.Proofs.YtjapdeehnfoonaaGreatDoor

open Go.RowKit

theorem ret_bool {a b : Bool} (h : a = b) : Ending.returned (.bool a) = .returned (.bool b) := by rw [h]

/-- may this byte stand in a name? -/
def nmI (c : Int) : Bool := decide (97 ≤ c ∧ c ≤ 122 ∨ 48 ≤ c ∧ c ≤ 57 ∨ c = 46 ∨ c = 95 ∨ c = 45 ∨ c = 58)

def dgI (c : Int) : Bool := decide (48 ≤ c ∧ c ≤ 57)

/-- all bytes may stand in a name -/
def allNm (l : List UInt8) : Bool := l.all fun c => nmI (c.toNat : Int)

/-- is it a name? -/
def vnB (s : ByteArray) : Bool := decide (1 ≤ s.size ∧ s.size ≤ 32) && allNm s.data.toList

theorem take_snoc (s : ByteArray) (k : Nat) (h : k < s.size) : s.data.toList.take (k + 1) = s.data.toList.take k ++ [s[k]] := by
  rw [List.take_succ_eq_append_getElem (by simpa using h)]; rfl

theorem allNm_snoc (l : List UInt8) (c : UInt8) : allNm (l ++ [c]) = (allNm l && nmI (c.toNat : Int)) := by
  simp [allNm, List.all_append]

theorem allNm_false (s : ByteArray) (k : Nat) (h : k < s.size) (hn : nmI ((s[k]).toNat : Int) = false) : allNm s.data.toList = false := by
  rw [← List.take_append_drop (k + 1) s.data.toList, allNm, List.all_append, take_snoc s k h, List.all_append]
  simp [hn]

end Go.Proofs.YtjapdeehnfoonaaGreatDoor

namespace Go.Proofs.YtjapdeehnfoonaaGreatDoor
open Go.RowKit

def ofL (l : List UInt8) : ByteArray := ⟨l.toArray⟩
def toL (s : ByteArray) : List UInt8 := s.data.toList

theorem ofL_toL (s : ByteArray) : ofL (toL s) = s := by cases s; simp [ofL, toL]
theorem toL_ofL (l : List UInt8) : toL (ofL l) = l := by simp [ofL, toL]

theorem toL_size (s : ByteArray) : (toL s).length = s.size := by simp [toL]

/-- a digit -/
def dgB (c : UInt8) : Bool := dgI (c.toNat : Int)

/-- the number of the digits -/
def lvV (d : List UInt8) : Int := d.foldl (fun n x => n * 10 + ((x.toNat : Int) - 48)) 0

theorem lvV_snoc (d : List UInt8) (x : UInt8) : lvV (d ++ [x]) = lvV d * 10 + ((x.toNat : Int) - 48) := by simp [lvV, List.foldl_append]

theorem lvV_bound : ∀ (k : Nat) (d : List UInt8), d.length = k → d.all dgB = true → 0 ≤ lvV d ∧ lvV d < 10 ^ k
  | 0, d, h, _ => by
    have : d = [] := List.eq_nil_of_length_eq_zero h
    subst this; simp [lvV]
  | k + 1, d, h, hd => by
    have hne : d ≠ [] := fun e => by subst e; simp at h
    have e := List.dropLast_concat_getLast hne
    rw [← e] at hd ⊢
    rw [List.all_append, Bool.and_eq_true] at hd
    obtain ⟨i1, i2⟩ := lvV_bound k d.dropLast (by simp; omega) hd.1
    have hx := hd.2
    simp only [List.all_cons, List.all_nil, Bool.and_true, dgB, dgI, decide_eq_true_eq] at hx
    rw [lvV_snoc, Int.pow_succ]
    omega

theorem toL_inj {x y : ByteArray} (h : toL x = toL y) : x = y := by rw [← ofL_toL x, h, ofL_toL]

theorem empty_of_size {s : ByteArray} (h : s.size = 0) : s = ByteArray.empty := by
  cases s with | mk d => cases d with | mk l => simp [ByteArray.size] at h; subst h; rfl

theorem nonempty_of_size {s : ByteArray} (h : s.size ≠ 0) : s.toList.isEmpty = false := by
  rw [ByteArray.toList_eq]
  cases s with | mk d => cases d with | mk l => simp [ByteArray.size] at h ⊢; exact h

theorem pow17 (k : Nat) (h : k ≤ 17) : (10 : Int) ^ k ≤ 100000000000000000 := by
  have h1 : 10 ^ k ≤ 10 ^ 17 := Nat.pow_le_pow_right (n := 10) (by decide) h
  have e1 : 10 ^ 17 = 100000000000000000 := rfl
  show ((10 : Nat) : Int) ^ k ≤ _
  rw [← Int.natCast_pow]
  omega

theorem dgB_iff (c : UInt8) : dgB c = true ↔ 48 ≤ (c.toNat : Int) ∧ (c.toNat : Int) ≤ 57 := by simp [dgB, dgI]

end Go.Proofs.YtjapdeehnfoonaaGreatDoor

namespace Go.Proofs.YtjapdeehnfoonaaGreatDoor
open Go.RowKit

def ltI (c : Int) : Bool := decide (97 ≤ c ∧ c ≤ 122)
def ltB (c : UInt8) : Bool := ltI (c.toNat : Int)
def wdI (c : Int) : Bool := ltI c || dgI c || decide (c = 95)
def wdB (c : UInt8) : Bool := wdI (c.toNat : Int)
def nmB (c : UInt8) : Bool := nmI (c.toNat : Int)

/-- where a run of bytes ends that begins at a place -/
def endS (p : UInt8 → Bool) (s : ByteArray) (j : Nat) : Nat := j + (((toL s).drop j).takeWhile p).length

theorem drop_cons (s : ByteArray) (j : Nat) (h : j < s.size) : (toL s).drop j = s[j] :: (toL s).drop (j + 1) := by
  have h' : j < (toL s).length := by rw [toL_size]; exact h
  rw [List.drop_eq_getElem_cons h']
  rfl

theorem endS_step {p : UInt8 → Bool} {s : ByteArray} {j : Nat} (h : j < s.size) (hp : p s[j] = true) : endS p s j = endS p s (j + 1) := by
  rw [endS, endS, drop_cons s j h, List.takeWhile_cons, if_pos hp]; simp; omega

theorem endS_stop {p : UInt8 → Bool} {s : ByteArray} {j : Nat} (h : j < s.size) (hp : p s[j] = false) : endS p s j = j := by
  rw [endS, drop_cons s j h, List.takeWhile_cons, if_neg (by simp [hp])]; rfl

theorem endS_end {p : UInt8 → Bool} {s : ByteArray} {j : Nat} (h : s.size ≤ j) : endS p s j = j := by
  rw [endS, List.drop_of_length_le (by rw [toL_size]; exact h)]; rfl

theorem endS_le {p : UInt8 → Bool} {s : ByteArray} {j : Nat} (h : j ≤ s.size) : j ≤ endS p s j ∧ endS p s j ≤ s.size := by
  rw [endS]
  have h1 := (List.takeWhile_prefix p (l := (toL s).drop j)).length_le
  have h2 : ((toL s).drop j).length = s.size - j := by rw [List.length_drop, toL_size]
  omega

/-- the bytes of a run -/
def runL (p : UInt8 → Bool) (r : List UInt8) : Nat := (r.takeWhile p).length

theorem runL_le (p : UInt8 → Bool) (r : List UInt8) : runL p r ≤ r.length := (List.takeWhile_prefix p).length_le

theorem endS_runL (p : UInt8 → Bool) (s : ByteArray) (j : Nat) : endS p s j = j + runL p ((toL s).drop j) := rfl

theorem toL_extract (s : ByteArray) (i j : Nat) : toL (s.extract i j) = ((toL s).drop i).take (j - i) := by
  simp [toL, ByteArray.data_extract]

theorem toL_rest (s : ByteArray) (i : Nat) : toL (s.extract i s.size) = (toL s).drop i := by
  rw [toL_extract, List.take_of_length_le (by rw [List.length_drop, toL_size]; exact Nat.le_refl _)]

theorem endS_zero (p : UInt8 → Bool) (s : ByteArray) : endS p s 0 = runL p (toL s) := by simp [endS_runL]

def wordsL : List (List UInt8) := [[108, 101, 116], [119, 104, 101, 110], [101, 108, 115, 101], [100, 101, 110, 121], [103, 114, 97, 110, 116], [105, 102], [116, 104, 101, 110], [110, 111, 116], [97, 110, 100], [111, 114], [105, 110], [119, 105, 116, 104, 105, 110], [115, 105, 122, 101], [116, 114, 117, 101], [102, 97, 108, 115, 101]]

def isWd (l : List UInt8) : Bool := wordsL.contains l

def signs2 : List (List UInt8) := [[61, 62], [61, 61], [33, 61], [60, 61]]
def signs1 : List UInt8 := [60, 43, 45, 42, 47, 37, 124, 38, 92, 40, 41, 123, 125, 44, 59, 61]

/-- a token, or what is wrong -/
inductive One where
  | bad (code : Int)
  | tok (kind num : Int) (text : List UInt8) (w : Nat)

/-- a number goes on as a word would -/
def follows (r : List UInt8) (w : Nat) : Bool := match r[w]? with
  | some x => ltB x || decide (x = 95)
  | none => false

def oneWord (r : List UInt8) : One :=
  if 32 < runL wdB r then .bad 3 else .tok (if isWd (r.take (runL wdB r)) then 4 else 3) 0 (r.take (runL wdB r)) (runL wdB r)

def oneNum (r : List UInt8) : One :=
  if 19 < runL dgB r ∨ follows r (runL dgB r) = true ∨ 9223372036854775807 < lvV (r.take (runL dgB r)) then .bad 3 else .tok 1 (lvV (r.take (runL dgB r))) [] (runL dgB r)

def oneText (r : List UInt8) : One :=
  if 32 < runL nmB r ∨ r[runL nmB r]? ≠ some 34 then .bad 3 else .tok 2 0 (r.take (runL nmB r)) (runL nmB r + 2)

def oneSign (c : UInt8) (r : List UInt8) : One :=
  if signs2.contains (r.take 2) then .tok 5 0 (r.take 2) 2 else if signs1.contains c then .tok 5 0 [c] 1 else .bad 2

def oneF : List UInt8 → One
  | [] => .bad 0
  | c :: r => if ltB c then oneWord (c :: r) else if dgB c then oneNum (c :: r) else if c = 34 then oneText r else oneSign c (c :: r)

structure Tok where
  kind : Int
  num : Int
  text : ByteArray
  at_ : Nat

/-- what is left behind blanks and comments (on: within one) -/
def blk : Bool → List UInt8 → List UInt8
  | _, [] => []
  | false, c :: r => if c = 32 ∨ c = 10 ∨ c = 9 then blk false r else if c = 35 then blk true r else c :: r
  | true, c :: r => if c = 10 then blk false r else blk true r

theorem blk_le : ∀ (o : Bool) (l : List UInt8), (blk o l).length ≤ l.length
  | _, [] => by simp [blk]
  | false, c :: r => by
    rw [blk]
    split
    · have := blk_le false r; simp; omega
    · split
      · have := blk_le true r; simp; omega
      · exact Nat.le_refl _
  | true, c :: r => by
    rw [blk]
    split
    · have := blk_le false r; simp; omega
    · have := blk_le true r; simp; omega

theorem blk_idem : ∀ (o : Bool) (l : List UInt8), blk false (blk o l) = blk o l
  | _, [] => by simp [blk]
  | false, c :: r => by
    rw [blk]
    split
    · exact blk_idem false r
    · split
      · exact blk_idem true r
      · rw [blk, if_neg (by assumption), if_neg (by assumption)]
  | true, c :: r => by
    rw [blk]
    split
    · exact blk_idem false r
    · exact blk_idem true r

/-- the tokens, what is wrong, and where -/
structure Res where
  toks : List Tok
  code : Int
  at_ : Nat

/-- tokens of a rest of a text of n bytes -/
def scanF (n : Nat) : Nat → List UInt8 → List Tok → Res
  | 0, _, out => ⟨out, 0, 0⟩
  | f + 1, l, out => match blk false l with
    | [] => ⟨out, 0, 0⟩
    | c :: r => match oneF (c :: r) with
      | .bad code => ⟨[], code, n - (r.length + 1)⟩
      | .tok k m s w => scanF n f ((c :: r).drop w) (out ++ [⟨k, m, ofL s, n - (r.length + 1)⟩])

theorem scanF_blk (n f : Nat) (l : List UInt8) (out : List Tok) : scanF n f (blk false l) out = scanF n f l out := by
  cases f with
  | zero => rfl
  | succ f => rw [scanF, scanF, blk_idem]

theorem scanF_blk' (n f : Nat) {l l' : List UInt8} (h : blk false l = blk false l') (out : List Tok) : scanF n f l out = scanF n f l' out := by
  rw [← scanF_blk, h, scanF_blk]

/-- the whole of Scan -/
def scanR (t : ByteArray) : Res := if 4000 < t.size then ⟨[], 1, 0⟩ else scanF t.size (t.size + 1) (toL t) []

/-- where blanks end that begin at a place -/
def blkS (o : Bool) (t : ByteArray) (j : Nat) : Nat := t.size - (blk o ((toL t).drop j)).length

/-- a token's bounds -/
def One.okW : One → List UInt8 → Prop
  | .bad _, _ => True
  | .tok _ _ s w, r => 1 ≤ w ∧ w ≤ r.length ∧ s.length ≤ w

theorem runL_pos {p : UInt8 → Bool} {c : UInt8} {r : List UInt8} (h : p c = true) : 1 ≤ runL p (c :: r) := by
  rw [runL, List.takeWhile_cons, if_pos h]; simp

theorem oneF_ok (r : List UInt8) : (oneF r).okW r := by
  cases r with
  | nil => simp [oneF, One.okW]
  | cons c r =>
    rw [oneF]
    split
    case isTrue h =>
      rw [oneWord]
      split
      · exact trivial
      · have h1 := runL_pos (p := wdB) (c := c) (r := r) (by rw [wdB, wdI]; rw [ltB] at h; simp [h])
        have h2 := runL_le wdB (c :: r)
        exact ⟨h1, h2, by rw [List.length_take]; omega⟩
    case isFalse h =>
      split
      case isTrue h =>
        rw [oneNum]
        split
        · exact trivial
        · exact ⟨runL_pos h, runL_le _ _, Nat.zero_le _⟩
      case isFalse h =>
        split
        case isTrue h =>
          rw [oneText]
          split
          · exact trivial
          · rename_i h1
            rw [not_or, Decidable.not_not] at h1
            have h2 := (List.getElem?_eq_some_iff.1 h1.2).1
            exact ⟨by omega, by simp; omega, by rw [List.length_take]; omega⟩
        case isFalse h =>
          rw [oneSign]
          split
          case isTrue h =>
            have h2 : 2 ≤ (c :: r).length := by
              cases r with
              | nil => exfalso; revert h; simp [signs2]
              | cons d r => simp
            exact ⟨by omega, h2, by rw [List.length_take]; omega⟩
          case isFalse h =>
            split
            · exact ⟨by omega, by simp, by simp⟩
            · exact trivial

/-- one token taken -/
theorem scanF_tok {n f : Nat} {c : UInt8} {r : List UInt8} {out : List Tok} {k m : Int} {s : List UInt8} {w : Nat} (hb : blk false (c :: r) = c :: r) (h : oneF (c :: r) = .tok k m s w) :
    scanF n (f + 1) (c :: r) out = scanF n f ((c :: r).drop w) (out ++ [⟨k, m, ofL s, n - (r.length + 1)⟩]) := by
  rw [scanF, hb]; simp only [h]

theorem scanF_bad {n f : Nat} {c : UInt8} {r : List UInt8} {out : List Tok} {code : Int} (hb : blk false (c :: r) = c :: r) (h : oneF (c :: r) = .bad code) :
    scanF n (f + 1) (c :: r) out = ⟨[], code, n - (r.length + 1)⟩ := by
  rw [scanF, hb]; simp only [h]

theorem scanF_nil {n f : Nat} {out : List Tok} : scanF n f [] out = ⟨out, 0, 0⟩ := by
  cases f <;> simp [scanF, blk]

end Go.Proofs.YtjapdeehnfoonaaGreatDoor

namespace Go.Proofs.YtjapdeehnfoonaaGreatDoor
open Go.RowKit

/-- The name at a place. -/
def nth (ss : List ByteArray) (k : Nat) : ByteArray := ss.getD k ByteArray.empty

theorem nth_eq (ss : List ByteArray) (k : Nat) (h : k < ss.length) : nth ss k = ss[k] := by
  simp [nth, List.getD, h]

/-- A slice of strings in memory: its elements. -/
structure Strs (w : World) (a : Option Addr) (n c : Nat) (ss : List ByteArray) : Prop where
  len : n = ss.length
  cap : n ≤ c
  small : c ≤ maxLen
  sizes : ∀ j, j < n → (nth ss j).size ≤ maxLen
  cells : ∀ j, j < n → ∃ b off, a = some ⟨b, off, none⟩ ∧ b < w.heap.size ∧ w.cell? ⟨b, off + j, none⟩ = some (.string (nth ss j))

theorem Strs.below {w w' : World} {B : Nat} {a : Option Addr} {n c : Nat} {ss : List ByteArray} (h : Strs w a n c ss) (hb : Below B w w') (hB : w.heap.size ≤ B) : Strs w' a n c ss :=
  ⟨h.len, h.cap, h.small, h.sizes, fun j hj => by
    obtain ⟨b, off, ha, hlt, hc⟩ := h.cells j hj
    exact ⟨b, off, ha, Nat.lt_of_lt_of_le hlt hb.size, by rw [← hc]; exact hb.cell (p := ⟨b, off + j, none⟩) (Nat.lt_of_lt_of_le hlt hB)⟩⟩

/-- All cells at one address. -/
theorem Strs.at {w : World} {a : Option Addr} {n c : Nat} {ss : List ByteArray} (h : Strs w a n c ss) (hn : 0 < n) :
    ∃ b off, a = some ⟨b, off, none⟩ ∧ b < w.heap.size ∧ ∀ j, j < n → w.cell? ⟨b, off + j, none⟩ = some (.string (nth ss j)) := by
  obtain ⟨b, off, ha, hlt, _⟩ := h.cells 0 hn
  refine ⟨b, off, ha, hlt, fun j hj => ?_⟩
  obtain ⟨b', off', ha', _, hc'⟩ := h.cells j hj
  rw [ha] at ha'
  simp only [Option.some.injEq, Addr.mk.injEq, and_true] at ha'
  obtain ⟨rfl, rfl⟩ := ha'
  exact hc'

/-- The order of texts. -/
def sl (a b : ByteArray) : Bool := Op.bytesLess a.toList b.toList

theorem bytesLess_lt : ∀ (x y : List UInt8), Op.bytesLess x y = decide (x < y)
  | [], [] => by simp [Op.bytesLess]
  | _ :: _, [] => by simp [Op.bytesLess]
  | [], _ :: _ => by simp [Op.bytesLess]
  | a :: x, b :: y => by
    rw [Op.bytesLess, bytesLess_lt x y]
    simp only [List.cons_lt_cons_iff]
    by_cases h1 : a < b <;> by_cases h2 : a = b <;> by_cases h3 : x < y <;> simp [h1, h2, h3]

theorem sl_iff (a b : ByteArray) : sl a b = true ↔ a.data.toList < b.data.toList := by
  rw [sl, bytesLess_lt, ByteArray.toList_eq, ByteArray.toList_eq]; simp

theorem sl_trans {a b c : ByteArray} (h : sl a b = true) (k : sl b c = true) : sl a c = true := by
  rw [sl_iff] at *; exact List.lt_trans h k

theorem sl_irrefl (a : ByteArray) : sl a a = false := by
  rw [Bool.eq_false_iff]; intro h; rw [sl_iff] at h; exact List.lt_irrefl _ h

theorem bytes_ext {a b : ByteArray} (h : a.data.toList = b.data.toList) : a = b := by
  cases a with | mk x => cases b with | mk y => cases x; cases y; simp at h; subst h; rfl

theorem sl_tri (a b : ByteArray) (h1 : sl a b = false) (h2 : sl b a = false) : a = b := by
  apply bytes_ext
  rw [Bool.eq_false_iff] at h1 h2
  rw [Ne, sl_iff] at h1 h2
  exact List.le_antisymm (List.not_lt.1 h2) (List.not_lt.1 h1)

theorem sl_asymm {a b : ByteArray} (h : sl a b = true) : sl b a = false := by
  rw [Bool.eq_false_iff]; intro k; have := sl_trans h k; rw [sl_irrefl] at this; cases this

/-- each name behind it is greater -/
def risB (ss : List ByteArray) : Bool := decide (ss.Pairwise fun a b => sl a b = true)

/-- each is a name -/
def allB (ss : List ByteArray) : Bool := ss.all vnB

/-- is it a scope set? -/
def setB (ss : List ByteArray) : Bool := decide (ss.length ≤ 64) && (allB ss && risB ss)

theorem allB_iff (ss : List ByteArray) : allB ss = true ↔ ∀ j, j < ss.length → vnB (nth ss j) = true := by
  rw [allB, List.all_eq_true]
  constructor
  · intro h j hj; rw [nth_eq ss j hj]; exact h _ (List.getElem_mem hj)
  · intro h x hx
    obtain ⟨j, hj, rfl⟩ := List.getElem_of_mem hx
    rw [← nth_eq ss j hj]; exact h j hj

theorem allB_of (ss : List ByteArray) (h : ∀ j, j < ss.length → vnB (nth ss j) = true) : allB ss = true := (allB_iff ss).2 h

theorem allB_not (ss : List ByteArray) (j : Nat) (hj : j < ss.length) (h : vnB (nth ss j) = false) : allB ss = false := by
  rw [Bool.eq_false_iff]; intro k; rw [(allB_iff ss).1 k j hj] at h; cases h

theorem risB_iff (ss : List ByteArray) : risB ss = true ↔ ∀ i j, i < j → j < ss.length → sl (nth ss i) (nth ss j) = true := by
  rw [risB, decide_eq_true_eq, List.pairwise_iff_getElem]
  constructor
  · intro h i j hij hj; rw [nth_eq ss i (by omega), nth_eq ss j hj]; exact h i j (by omega) hj hij
  · intro h i j hi hj hij; rw [← nth_eq ss i hi, ← nth_eq ss j hj]; exact h i j hij hj

theorem risB_not (ss : List ByteArray) (i j : Nat) (hij : i < j) (hj : j < ss.length) (h : sl (nth ss i) (nth ss j) = false) : risB ss = false := by
  rw [Bool.eq_false_iff]; intro k; rw [(risB_iff ss).1 k i j hij hj] at h; cases h

theorem rise_far (ss : List ByteArray) (n : Nat) (h : ∀ i, 0 < i → i < n → sl (nth ss (i - 1)) (nth ss i) = true) : ∀ d i, i + d + 1 < n → sl (nth ss i) (nth ss (i + d + 1)) = true := by
  intro d
  induction d with
  | zero => intro i hi; have := h (i + 1) (by omega) hi; simpa using this
  | succ d ih =>
    intro i hi
    have h1 := ih i (by omega)
    have h2 := h (i + (d + 1) + 1) (by omega) hi
    rw [show i + (d + 1) + 1 - 1 = i + d + 1 from by omega] at h2
    exact sl_trans h1 h2

theorem risB_of_near (ss : List ByteArray) (h : ∀ i, 0 < i → i < ss.length → sl (nth ss (i - 1)) (nth ss i) = true) : risB ss = true := by
  rw [risB_iff]
  intro i j hij hj
  have := rise_far ss ss.length h (j - i - 1) i (by omega)
  rw [show i + (j - i - 1) + 1 = j from by omega] at this
  exact this

theorem setB_long (ss : List ByteArray) (h : 64 < ss.length) : setB ss = false := by
  have : ¬ ss.length ≤ 64 := by omega
  simp [setB, this]

theorem setB_short (ss : List ByteArray) (h : ss.length ≤ 64) : setB ss = (allB ss && risB ss) := by
  simp [setB, h]

end Go.Proofs.YtjapdeehnfoonaaGreatDoor

namespace Go.Proofs.YtjapdeehnfoonaaGreatDoor
open Go.RowKit
set_option linter.unusedVariables false

structure Nd where
  op : Int
  num : Int
  text : ByteArray
  names : List ByteArray
  kids : List Int

structure St where
  kind : Int
  name : ByteArray
  cond : Int
  grant : Int

/-- how many kids -/
def kidN (op : Int) : Int := if 1 ≤ op ∧ op ≤ 7 then 0 else if 8 ≤ op ∧ op ≤ 10 then 1 else if 11 ≤ op ∧ op ≤ 26 then 2 else if op = 27 then 3 else -1

/-- could it be a name of the language? -/
def identB (s : ByteArray) : Bool := match toL s with
  | [] => false
  | c :: r => decide ((c :: r).length ≤ 32) && ltB c && (c :: r).all wdB && !isWd (c :: r)

/-- could it stand between quotes? -/
def quotedB (s : ByteArray) : Bool := decide (s.size ≤ 32) && (toL s).all nmB

/-- are the fields of a node as written right? -/
def fieldsB (x : Nd) : Bool :=
  decide ((x.kids.length : Int) = kidN x.op) &&
  (if x.op = 1 then decide (0 ≤ x.num) && decide (x.text.size = 0) && decide (x.names.length = 0)
   else if x.op = 2 then quotedB x.text && decide (x.num = 0) && decide (x.names.length = 0)
   else if x.op = 3 then decide (x.num = 0 ∨ x.num = 1) && decide (x.text.size = 0) && decide (x.names.length = 0)
   else if x.op = 4 then setB x.names && decide (x.num = 0) && decide (x.text.size = 0)
   else if x.op = 5 then identB x.text && decide (x.num = 0) && decide (x.names.length = 0)
   else if x.op = 6 ∨ x.op = 7 then false
   else decide (x.num = 0) && decide (x.text.size = 0) && decide (x.names.length = 0))

/-- a statement, as the model asks for it -/
def stmtS (last : Bool) (s : St) : Bool :=
  if s.kind = 1 then !last && identB s.name && decide (0 ≤ s.cond) && decide (s.grant = -1)
  else if s.kind = 2 then !last && decide (s.name.size = 0) && decide (0 ≤ s.cond) && decide (-1 ≤ s.grant)
  else if s.kind = 3 then last && decide (s.name.size = 0) && decide (s.cond = -1) && decide (-1 ≤ s.grant)
  else false

/-- a statement, as the program asks for it -/
def stmtI (s : St) : Bool :=
  if s.kind = 1 then identB s.name && decide (s.grant = -1)
  else if s.kind = 2 then decide (s.name.size = 0)
  else if s.kind = 3 then decide (s.name.size = 0) && decide (s.cond = -1)
  else false

def rootsOf (s : St) : List Int := (if 0 ≤ s.cond then [s.cond] else []) ++ (if 0 ≤ s.grant then [s.grant] else [])
def askedOf (s : St) : List Int := (if s.kind ≠ 3 then [s.cond] else []) ++ (if s.grant ≠ -1 then [s.grant] else [])

def stmtsS : List St → Bool
  | [] => true
  | s :: r => stmtS r.isEmpty s && stmtsS r

def stmtsI : List St → Bool
  | [] => true
  | s :: r => stmtI s && (decide (s.kind = 3) == r.isEmpty) && stmtsI r

/-- where no place asked for is negative, the two say the same of the statements -/
theorem stmts_same : ∀ (L : List St), (∀ x ∈ L.flatMap askedOf, 0 ≤ x) → (stmtsI L = true ↔ stmtsS L = true)
  | [], _ => Iff.rfl
  | s :: r, h => by
    have ih := stmts_same r (fun x hx => h x (by rw [List.flatMap_cons]; exact List.mem_append_right _ hx))
    have hs : ∀ x ∈ askedOf s, 0 ≤ x := fun x hx => h x (by rw [List.flatMap_cons]; exact List.mem_append_left _ hx)
    rw [stmtsI, stmtsS, Bool.and_eq_true, Bool.and_eq_true, Bool.and_eq_true, ih]
    have e : (stmtI s = true ∧ (decide (s.kind = 3) == r.isEmpty) = true) ↔ stmtS r.isEmpty s = true := by
      have hc : s.kind ≠ 3 → 0 ≤ s.cond := fun k => hs _ (by rw [askedOf, if_pos k]; simp)
      have hg : s.grant ≠ -1 → 0 ≤ s.grant := fun k => hs _ (by rw [askedOf, if_pos k]; simp)
      generalize r.isEmpty = last
      unfold stmtI stmtS
      by_cases k1 : s.kind = 1
      · simp [k1]
        have := hc (by omega)
        cases last <;> simp [this]
      · by_cases k2 : s.kind = 2
        · simp [k2]
          have h1 := hc (by omega)
          have h2 : -1 ≤ s.grant := by by_cases k : s.grant = -1; omega; have := hg k; omega
          cases last <;> simp [h1, h2]
        · by_cases k3 : s.kind = 3
          · simp [k3]
            have h2 : -1 ≤ s.grant := by by_cases k : s.grant = -1; omega; have := hg k; omega
            cases last <;> simp [h2]
          · simp [k1, k2, k3]
    rw [← e, and_assoc]

theorem roots_asked : ∀ {last : Bool} {s : St}, stmtS last s = true → rootsOf s = askedOf s ∧ ∀ x ∈ askedOf s, 0 ≤ x := by
  intro last s h
  unfold stmtS at h
  unfold rootsOf askedOf
  by_cases k1 : s.kind = 1
  · simp [k1] at h
    obtain ⟨⟨_, h1⟩, h2⟩ := h
    simp [k1, h1, h2]
  · by_cases k2 : s.kind = 2
    · simp [k2] at h
      obtain ⟨⟨_, h1⟩, h2⟩ := h
      by_cases hg : s.grant = -1
      · simp [k2, h1, hg]
      · have : 0 ≤ s.grant := by omega
        simp [k2, h1, hg, this]
    · by_cases k3 : s.kind = 3
      · simp [k3] at h
        obtain ⟨⟨_, h1⟩, h2⟩ := h
        by_cases hg : s.grant = -1
        · simp [k3, h1, hg]
        · have : 0 ≤ s.grant := by omega
          simp [k3, h1, hg, this]
      · simp [k1, k2, k3] at h

theorem roots_all : ∀ {L : List St}, stmtsS L = true → L.flatMap rootsOf = L.flatMap askedOf ∧ ∀ x ∈ L.flatMap askedOf, 0 ≤ x
  | [], _ => ⟨rfl, fun x hx => by cases hx⟩
  | s :: r, h => by
    rw [stmtsS, Bool.and_eq_true] at h
    obtain ⟨e1, h1⟩ := roots_asked h.1
    obtain ⟨e2, h2⟩ := roots_all h.2
    refine ⟨by rw [List.flatMap_cons, List.flatMap_cons, e1, e2], fun x hx => ?_⟩
    rw [List.flatMap_cons] at hx
    rcases List.mem_append.1 hx with k | k
    · exact h1 x k
    · exact h2 x k

/-- valid, by the model's walk -/
def ValidS (N : List Nd) (L : List St) : Prop :=
  stmtsS L = true ∧ ((L.flatMap rootsOf).foldl (fun o k => walkF (N.map Nd.kids) N.length k o) []).length = N.length ∧ good ((L.flatMap rootsOf).foldl (fun o k => walkF (N.map Nd.kids) N.length k o) []) ∧ ∀ r ∈ L.flatMap rootsOf, depthF (N.map Nd.kids) N.length r ≤ 64

/-- valid, by the program's stack -/
def ValidI (N : List Nd) (L : List St) : Prop := stmtsI L = true ∧ ∃ S, runT (N.map Nd.kids) N.length [] 0 = some S ∧ topsI S = L.flatMap askedOf

theorem valid_same (N : List Nd) (L : List St) : ValidI N L ↔ ValidS N L := by
  have hs := shape_iff (N.map Nd.kids) (L.flatMap askedOf)
  rw [List.length_map] at hs
  constructor
  · rintro ⟨h1, S, h2, h3⟩
    have h0 : ∀ x ∈ L.flatMap askedOf, 0 ≤ x := by
      rw [← h3]
      intro x hx
      obtain ⟨p, _, rfl⟩ := List.mem_map.1 hx
      omega
    have h4 := (stmts_same L h0).1 h1
    have e := (roots_all h4).1
    unfold ValidS
    rw [e]
    exact ⟨h4, hs.2 ⟨S, h2, h3⟩⟩
  · rintro ⟨h1, h2⟩
    obtain ⟨e, h0⟩ := roots_all h1
    rw [e] at h2
    exact ⟨(stmts_same L h0).2 h1, hs.1 h2⟩

end Go.Proofs.YtjapdeehnfoonaaGreatDoor

namespace Go.Proofs.YtjapdeehnfoonaaGreatDoor
open Go.RowKit
set_option linter.unusedVariables false

/-- a tree; a set bears where its names lie -/
inductive Ex where
  | int (i n : Int)
  | text (i : Int) (s : ByteArray)
  | bool (i : Int) (b : Bool)
  | set (i : Int) (a : Option Addr) (n c : Nat) (ss : List ByteArray)
  | name (i : Int) (s : ByteArray)
  | attr (i n : Int)
  | lett (i n : Int)
  | un (i op : Int) (k : Ex)
  | bin (i op : Int) (l r : Ex)
  | ite (i : Int) (c t e : Ex)

def Ex.val : Ex → Value
  | .int i n => .iface 123 (.agg #[.int .i64 i, .int .i64 n])
  | .text i s => .iface 125 (.agg #[.int .i64 i, .string s])
  | .bool i b => .iface 127 (.agg #[.int .i64 i, .bool b])
  | .set i a n c _ => .iface 129 (.agg #[.int .i64 i, .slice a n c])
  | .name i s => .iface 131 (.agg #[.int .i64 i, .string s])
  | .attr i n => .iface 132 (.agg #[.int .i64 i, .int .i64 n])
  | .lett i n => .iface 133 (.agg #[.int .i64 i, .int .i64 n])
  | .un i op k => .iface 89 (.agg #[.int .i64 i, .int .i64 op, k.val])
  | .bin i op l r => .iface 91 (.agg #[.int .i64 i, .int .i64 op, l.val, r.val])
  | .ite i c t e => .iface 135 (.agg #[.int .i64 i, c.val, t.val, e.val])

def Ex.op : Ex → Int
  | .int .. => 1 | .text .. => 2 | .bool .. => 3 | .set .. => 4 | .name .. => 5 | .attr .. => 6 | .lett .. => 7
  | .un _ op _ => op | .bin _ op _ _ => op | .ite .. => 27

def Ex.cnt : Ex → Nat
  | .un _ _ k => k.cnt + 1
  | .bin _ _ l r => l.cnt + r.cnt + 1
  | .ite _ c t e => c.cnt + t.cnt + e.cnt + 1
  | _ => 1

/-- the level of an operator -/
def lvN (op : Int) : Int :=
  if op = 27 then 0 else if op = 26 then 1 else if op = 25 then 2 else if op = 9 then 3 else if 19 ≤ op ∧ op ≤ 24 then 4
  else if op = 11 ∨ op = 12 ∨ op = 16 ∨ op = 18 then 5 else if op = 13 ∨ op = 14 ∨ op = 15 ∨ op = 17 then 6 else if op = 8 then 7 else 8

theorem lvN_pos (op : Int) : 0 ≤ lvN op := by unfold lvN; repeat' split <;> try decide
theorem lvN_top (op : Int) : lvN op ≤ 8 := by unfold lvN; repeat' split <;> try decide

def signs : List ByteArray := [⟨#[43]⟩, ⟨#[45]⟩, ⟨#[42]⟩, ⟨#[47]⟩, ⟨#[37]⟩, ⟨#[124]⟩, ⟨#[38]⟩, ⟨#[92]⟩, ⟨#[61, 61]⟩, ⟨#[33, 61]⟩, ⟨#[60]⟩, ⟨#[60, 61]⟩, ⟨#[105, 110]⟩, ⟨#[119, 105, 116, 104, 105, 110]⟩, ⟨#[97, 110, 100]⟩, ⟨#[111, 114]⟩]

def signB (op : Int) : ByteArray := signs.getD (op - 11).toNat ⟨#[]⟩

theorem signB_size (op : Int) : (signB op).size ≤ 6 := by
  unfold signB
  generalize (op - 11).toNat = k
  match k with
  | 0 | 1 | 2 | 3 | 4 | 5 | 6 | 7 | 8 | 9 | 10 | 11 | 12 | 13 | 14 | 15 => simp [signs, ByteArray.size]
  | k + 16 => simp [signs, List.getD, ByteArray.size]

def numB (k : Nat) : ByteArray := ⟨(Lib.decDigits k).toArray⟩

theorem numB_len : ∀ (k n : Nat), n < 10 ^ (k + 1) → (Lib.decDigits n).length ≤ k + 1
  | 0, n, h => by
    have h10 : n < 10 := by simpa using h
    rw [Lib.decDigits, dif_pos h10]
    simp
  | k + 1, n, h => by
    by_cases h10 : n < 10
    · rw [Lib.decDigits, dif_pos h10]
      simp
    · rw [Lib.decDigits, dif_neg h10]
      have := numB_len k (n / 10) (by have : (10 : Nat) ^ (k + 1 + 1) = 10 ^ (k + 1) * 10 := Nat.pow_succ ..; omega)
      simp
      omega

theorem numB_size {n : Nat} (h : n ≤ 9223372036854775807) : (numB n).size ≤ 19 := by
  have := numB_len 18 n (by omega)
  simpa [numB, ByteArray.size] using this

/-- the names of a set, each in quotes, with commas between -/
def itemsT (first : Bool) : List ByteArray → ByteArray
  | [] => ⟨#[]⟩
  | x :: r => (if first then ⟨#[]⟩ else ⟨#[44, 32]⟩) ++ (⟨#[34]⟩ ++ x ++ ⟨#[34]⟩) ++ itemsT false r

theorem app_nil (a : ByteArray) : a ++ (⟨#[]⟩ : ByteArray) = a := ByteArray.append_empty
theorem nil_app (a : ByteArray) : (⟨#[]⟩ : ByteArray) ++ a = a := ByteArray.empty_append

theorem itemsT_snoc (x : ByteArray) : ∀ (f : Bool) (l : List ByteArray), itemsT f (l ++ [x]) = itemsT f l ++ itemsT (f && l.isEmpty) [x]
  | f, [] => by simp [itemsT, nil_app]
  | f, y :: r => by
    rw [List.cons_append, itemsT, itemsT, itemsT_snoc x false r, ByteArray.append_assoc]
    simp [ByteArray.append_assoc]

theorem itemsT_size : ∀ (f : Bool) (l : List ByteArray), (∀ x ∈ l, x.size ≤ 32) → (itemsT f l).size ≤ 36 * l.length
  | f, [], _ => by simp [itemsT, ByteArray.size]
  | f, x :: r, h => by
    have h1 := itemsT_size false r (fun y hy => h y (List.mem_cons_of_mem _ hy))
    have h2 := h x (List.mem_cons_self ..)
    rw [itemsT]
    simp only [ByteArray.size_append, List.length_cons]
    have : (if f = true then (⟨#[]⟩ : ByteArray) else ⟨#[44, 32]⟩).size ≤ 2 := by cases f <;> simp [ByteArray.size]
    have e : (⟨#[34]⟩ : ByteArray).size = 1 := rfl
    omega

def setT (ss : List ByteArray) : ByteArray := ⟨#[123]⟩ ++ itemsT true ss ++ ⟨#[125]⟩

def par (b : Bool) (s : ByteArray) : ByteArray := if b then ⟨#[40]⟩ ++ s ++ ⟨#[41]⟩ else s

theorem par_size (b : Bool) (s : ByteArray) : (par b s).size ≤ s.size + 2 := by
  have e1 : (⟨#[40]⟩ : ByteArray).size = 1 := rfl
  have e2 : (⟨#[41]⟩ : ByteArray).size = 1 := rfl
  cases b
  · simp [par]
  · simp only [par, if_true, ByteArray.size_append]
    omega

/-- the level that the left side of an operator is written for -/
def leftN (op : Int) : Int := if lvN op = 4 then 5 else lvN op

/-- a tree, with no parentheses about it -/
def Ex.pr : Ex → ByteArray
  | .int _ n => numB n.toNat
  | .text _ s => ⟨#[34]⟩ ++ s ++ ⟨#[34]⟩
  | .bool _ b => if b then ⟨#[116, 114, 117, 101]⟩ else ⟨#[102, 97, 108, 115, 101]⟩
  | .set _ _ _ _ ss => setT ss
  | .name _ s => s
  | .attr .. => ⟨#[]⟩
  | .lett .. => ⟨#[]⟩
  | .un _ op k => if op = 8 then ⟨#[45]⟩ ++ par (decide (lvN k.op < 7)) k.pr else if op = 9 then ⟨#[110, 111, 116, 32]⟩ ++ par (decide (lvN k.op < 3)) k.pr
    else ⟨#[115, 105, 122, 101, 40]⟩ ++ k.pr ++ ⟨#[41]⟩
  | .bin _ op l r => par (decide (lvN l.op < leftN op)) l.pr ++ (⟨#[32]⟩ ++ signB op ++ ⟨#[32]⟩) ++ par (decide (lvN r.op < lvN op + 1)) r.pr
  | .ite _ c t e => ⟨#[105, 102, 32]⟩ ++ c.pr ++ ⟨#[32, 116, 104, 101, 110, 32]⟩ ++ t.pr ++ ⟨#[32, 101, 108, 115, 101, 32]⟩ ++ e.pr

/-- a tree, for a place that wants a level -/
def Ex.put (e : Ex) (want : Int) : ByteArray := par (decide (lvN e.op < want)) e.pr

theorem put_zero (e : Ex) : e.put 0 = e.pr := by
  have := lvN_pos e.op
  rw [Ex.put, par, decide_eq_false (by omega)]
  rfl

theorem put_in {e : Ex} {want : Int} (h : want ≤ lvN e.op) : e.put want = e.pr := by
  rw [Ex.put, par, decide_eq_false (by omega)]
  rfl

theorem put_par {e : Ex} {want : Int} (h : lvN e.op < want) : e.put want = ⟨#[40]⟩ ++ e.pr ++ ⟨#[41]⟩ := by
  rw [Ex.put, par, decide_eq_true h]
  rfl

/-- what a printed tree is like -/
def Ex.fit (w : World) : Ex → Prop
  | .int _ n => 0 ≤ n ∧ n ≤ 9223372036854775807
  | .text _ s => s.size ≤ 32
  | .bool .. => True
  | .set _ a n c ss => Strs w a n c ss ∧ n ≤ 64 ∧ ∀ x ∈ ss, x.size ≤ 32
  | .name _ s => s.size ≤ 32
  | .attr .. => False
  | .lett .. => False
  | .un _ op k => (8 ≤ op ∧ op ≤ 10) ∧ k.fit w
  | .bin _ op l r => (11 ≤ op ∧ op ≤ 26) ∧ l.fit w ∧ r.fit w
  | .ite _ c t e => c.fit w ∧ t.fit w ∧ e.fit w

theorem Ex.fit_below {w w' : World} {B : Nat} (hb : Below B w w') (hB : w.heap.size ≤ B) : ∀ (e : Ex), e.fit w → e.fit w'
  | .int .., h => h
  | .text .., h => h
  | .bool .., h => h
  | .set .., h => ⟨h.1.below hb hB, h.2⟩
  | .name .., h => h
  | .attr .., h => h
  | .lett .., h => h
  | .un _ _ k, h => ⟨h.1, k.fit_below hb hB h.2⟩
  | .bin _ _ l r, h => ⟨h.1, l.fit_below hb hB h.2.1, r.fit_below hb hB h.2.2⟩
  | .ite _ c t e, h => ⟨c.fit_below hb hB h.1, t.fit_below hb hB h.2.1, e.fit_below hb hB h.2.2⟩

theorem Ex.pr_size {w : World} : ∀ (e : Ex), e.fit w → e.pr.size ≤ 4000 * e.cnt
  | .int _ n, h => by
    have := numB_size (n := n.toNat) (by have := h.2; omega)
    simp only [Ex.pr, Ex.cnt]
    omega
  | .text _ s, h => by
    have h1 : s.size ≤ 32 := h
    have e : (⟨#[34]⟩ : ByteArray).size = 1 := rfl
    simp only [Ex.pr, Ex.cnt, ByteArray.size_append]
    omega
  | .bool _ b, _ => by
    have e1 : (⟨#[116, 114, 117, 101]⟩ : ByteArray).size = 4 := rfl
    have e2 : (⟨#[102, 97, 108, 115, 101]⟩ : ByteArray).size = 5 := rfl
    cases b <;> simp only [Ex.pr, Ex.cnt, if_true, Bool.false_eq_true, if_false] <;> omega
  | .set _ _ n _ ss, h => by
    have h1 := itemsT_size true ss h.2.2
    have h2 := h.1.len
    have h3 := h.2.1
    have e1 : (⟨#[123]⟩ : ByteArray).size = 1 := rfl
    have e2 : (⟨#[125]⟩ : ByteArray).size = 1 := rfl
    simp only [Ex.pr, Ex.cnt, setT, ByteArray.size_append]
    omega
  | .name _ s, h => by
    have h1 : s.size ≤ 32 := h
    simp only [Ex.pr, Ex.cnt]
    omega
  | .attr .., h => absurd h id
  | .lett .., h => absurd h id
  | .un _ op k, h => by
    have h1 := k.pr_size h.2
    have p1 := par_size (decide (lvN k.op < 7)) k.pr
    have p2 := par_size (decide (lvN k.op < 3)) k.pr
    have e1 : (⟨#[45]⟩ : ByteArray).size = 1 := rfl
    have e2 : (⟨#[110, 111, 116, 32]⟩ : ByteArray).size = 4 := rfl
    have e3 : (⟨#[115, 105, 122, 101, 40]⟩ : ByteArray).size = 5 := rfl
    have e4 : (⟨#[41]⟩ : ByteArray).size = 1 := rfl
    simp only [Ex.pr, Ex.cnt]
    split
    · simp only [ByteArray.size_append]; omega
    · split <;> simp only [ByteArray.size_append] <;> omega
  | .bin _ op l r, h => by
    have h1 := l.pr_size h.2.1
    have h2 := r.pr_size h.2.2
    have p1 := par_size (decide (lvN l.op < leftN op)) l.pr
    have p2 := par_size (decide (lvN r.op < lvN op + 1)) r.pr
    have e1 : (⟨#[32]⟩ : ByteArray).size = 1 := rfl
    have e2 := signB_size op
    simp only [Ex.pr, Ex.cnt, ByteArray.size_append]
    omega
  | .ite _ c t e, h => by
    have h1 := c.pr_size h.1
    have h2 := t.pr_size h.2.1
    have h3 := e.pr_size h.2.2
    have e1 : (⟨#[105, 102, 32]⟩ : ByteArray).size = 3 := rfl
    have e2 : (⟨#[32, 116, 104, 101, 110, 32]⟩ : ByteArray).size = 6 := rfl
    have e3 : (⟨#[32, 101, 108, 115, 101, 32]⟩ : ByteArray).size = 6 := rfl
    simp only [Ex.pr, Ex.cnt, ByteArray.size_append]
    omega

theorem Ex.put_size {w : World} (e : Ex) (h : e.fit w) (want : Int) : (e.put want).size ≤ 4000 * e.cnt + 2 := by
  have h1 := e.pr_size h
  have h2 := par_size (decide (lvN e.op < want)) e.pr
  rw [Ex.put]
  omega

/-- it is the tree of a node -/
inductive IsT (N : List Nd) : Nat → Ex → Prop
  | int {i : Nat} {x : Nd} (h : N[i]? = some x) (ho : x.op = 1) (hk : x.kids = []) : IsT N i (.int i x.num)
  | text {i : Nat} {x : Nd} (h : N[i]? = some x) (ho : x.op = 2) (hk : x.kids = []) : IsT N i (.text i x.text)
  | bool {i : Nat} {x : Nd} (h : N[i]? = some x) (ho : x.op = 3) (hk : x.kids = []) : IsT N i (.bool i (decide (x.num = 1)))
  | set {i : Nat} {x : Nd} (h : N[i]? = some x) (ho : x.op = 4) (hk : x.kids = []) (a : Option Addr) (n c : Nat) : IsT N i (.set i a n c x.names)
  | name {i : Nat} {x : Nd} (h : N[i]? = some x) (ho : x.op = 5) (hk : x.kids = []) : IsT N i (.name i x.text)
  | attr {i : Nat} {x : Nd} (h : N[i]? = some x) (ho : x.op = 6) (hk : x.kids = []) : IsT N i (.attr i x.num)
  | lett {i : Nat} {x : Nd} (h : N[i]? = some x) (ho : x.op = 7) (hk : x.kids = []) : IsT N i (.lett i x.num)
  | un {i k : Nat} {x : Nd} {e : Ex} (h : N[i]? = some x) (ho : 8 ≤ x.op ∧ x.op ≤ 10) (hk : x.kids = [(k : Int)]) (hi : k < i) (t : IsT N k e) : IsT N i (.un i x.op e)
  | bin {i k l : Nat} {x : Nd} {e f : Ex} (h : N[i]? = some x) (ho : 11 ≤ x.op ∧ x.op ≤ 26) (hk : x.kids = [(k : Int), (l : Int)]) (hi : k < i ∧ l < i) (t : IsT N k e) (u : IsT N l f) : IsT N i (.bin i x.op e f)
  | ite {i k l m : Nat} {x : Nd} {e f g : Ex} (h : N[i]? = some x) (ho : x.op = 27) (hk : x.kids = [(k : Int), (l : Int), (m : Int)]) (hi : k < i ∧ l < i ∧ m < i) (t : IsT N k e) (u : IsT N l f) (v : IsT N m g) : IsT N i (.ite i e f g)

theorem IsT.lt {N : List Nd} {i : Nat} {e : Ex} (h : IsT N i e) : i < N.length := by
  cases h <;> exact (List.getElem?_eq_some_iff.1 (by assumption)).1

theorem IsT.op {N : List Nd} {i : Nat} {e : Ex} (h : IsT N i e) : ∃ x, N[i]? = some x ∧ x.op = e.op := by
  cases h <;> exact ⟨_, by assumption, by first | assumption | rfl⟩

def cnts (Es : List Ex) : Nat := (Es.map Ex.cnt).sum

/-- the trees of a forest have as many nodes as it has -/
theorem forest_cnt {N : List Nd} {a b : Nat} {fs : List (Nat × Nat)} (h : Forest (N.map Nd.kids) a fs b) : ∀ (Es : List Ex), Es.length = fs.length → (∀ j, (h1 : j < fs.length) → (h2 : j < Es.length) → IsT N fs[j].1 Es[j]) → a + cnts Es = b := by
  induction h with
  | nil a =>
    intro Es hl _
    have : Es = [] := List.eq_nil_of_length_eq_zero hl
    subst this
    simp [cnts]
  | @cons a t b ks fs hk ht hf i1 i2 =>
    intro Es hl hE
    match Es, hl with
    | e :: Es, hl =>
      have he : IsT N t e := hE 0 (by simp) (by simp)
      have hr := i2 Es (by simpa using hl) (fun j h1 h2 => hE (j + 1) (by simpa using h1) (by simpa using h2))
      have hkid : ∃ x, N[t]? = some x ∧ x.kids = topsI ks := by
        rw [List.getElem?_map] at ht
        cases hx : N[t]? with
        | none => rw [hx] at ht; cases ht
        | some x => rw [hx] at ht; exact ⟨x, rfl, Option.some.inj ht⟩
      obtain ⟨x, hx, hxk⟩ := hkid
      have key : a + e.cnt = t + 1 := by
        have kk : ∀ (Fs : List Ex) (qs : List Nat), x.kids = qs.map (fun (q : Nat) => (q : Int)) → Fs.length = qs.length → (∀ j, (h1 : j < qs.length) → (h2 : j < Fs.length) → IsT N qs[j] Fs[j]) → a + cnts Fs = t := by
          intro Fs qs hq hFl hF
          have e1 : ks.map (fun p => p.1) = qs := by
            have := hxk.symm.trans hq
            rw [topsI] at this
            have h2 := congrArg (List.map Int.toNat) this
            simpa [List.map_map, Function.comp_def] using h2
          have e2 : ks.length = Fs.length := by rw [hFl, ← e1, List.length_map]
          exact (i1 Fs e2.symm (fun j h1 h2 => by
            have := hF j (by rw [← e1, List.length_map]; exact h1) h2
            have e3 : qs[j]'(by rw [← e1, List.length_map]; exact h1) = ks[j].1 := by simp [← e1]
            rw [← e3]
            exact this))
        have one : ∀ {y : Nd}, N[t]? = some y → y = x := fun h => Option.some.inj (h.symm.trans hx)
        have none' : x.kids = [] → a = t := fun h0 => by
          have := kk [] [] (by rw [h0]; rfl) rfl (fun j h => absurd h (by simp))
          simpa [cnts] using this
        cases he with
        | int h ho hk => rw [none' (one h ▸ hk)]; rfl
        | text h ho hk => rw [none' (one h ▸ hk)]; rfl
        | bool h ho hk => rw [none' (one h ▸ hk)]; rfl
        | set h ho hk a n c => rw [none' (one h ▸ hk)]; rfl
        | name h ho hk => rw [none' (one h ▸ hk)]; rfl
        | attr h ho hk => rw [none' (one h ▸ hk)]; rfl
        | lett h ho hk => rw [none' (one h ▸ hk)]; rfl
        | @un i k y e h ho hk hi u =>
          have := kk [e] [k] (by rw [← one h, hk]; rfl) rfl (fun j h1 h2 => by
            have : j = 0 := by simpa using h1
            subst this
            exact u)
          simp [cnts] at this
          simp only [Ex.cnt]
          omega
        | @bin i k l y e f h ho hk hi u v =>
          have := kk [e, f] [k, l] (by rw [← one h, hk]; rfl) rfl (fun j h1 h2 => by
            match j, h1 with
            | 0, _ => exact u
            | 1, _ => exact v)
          simp [cnts] at this
          simp only [Ex.cnt]
          omega
        | @ite i k l m y e f g h ho hk hi u v z =>
          have := kk [e, f, g] [k, l, m] (by rw [← one h, hk]; rfl) rfl (fun j h1 h2 => by
            match j, h1 with
            | 0, _ => exact u
            | 1, _ => exact v
            | 2, _ => exact z)
          simp [cnts] at this
          simp only [Ex.cnt]
          omega
      have e5 : cnts (e :: Es) = e.cnt + cnts Es := by simp [cnts]
      rw [e5]
      omega

end Go.Proofs.YtjapdeehnfoonaaGreatDoor

namespace Go.Proofs.YtjapdeehnfoonaaGreatDoor
open Go.RowKit
set_option linter.unusedVariables false

def attrTy (n : Int) : Int := if n < 2 then 3 else if n < 4 then 2 else 4

/-- the type that an operator gives over the types of its kids; 0: they do not fit -/
def tyOp (op : Int) : List Int → Int
  | [a] => if op = 8 ∧ a = 2 then 2 else if op = 9 ∧ a = 1 then 1 else if op = 10 ∧ a = 4 then 2 else 0
  | [a, b] => if (11 ≤ op ∧ op ≤ 15) ∧ a = 2 ∧ b = 2 then 2 else if (16 ≤ op ∧ op ≤ 18) ∧ a = 4 ∧ b = 4 then 4
    else if (op = 19 ∨ op = 20) ∧ a = b then 1 else if (op = 21 ∨ op = 22) ∧ a = 2 ∧ b = 2 then 1 else if op = 23 ∧ a = 3 ∧ b = 4 then 1
    else if op = 24 ∧ a = 4 ∧ b = 4 then 1 else if (op = 25 ∨ op = 26) ∧ a = 1 ∧ b = 1 then 1 else 0
  | [a, b, c] => if a = 1 ∧ b = c then b else 0
  | _ => 0

/-- a type, or none -/
def nz (t : Int) : Option Int := if t = 0 then none else some t

/-- the type of a typed policy's tree, under the types of its lets -/
def tyE (ts : List Int) : Ex → Option Int
  | .int .. => some 2
  | .text .. => some 3
  | .bool .. => some 1
  | .set .. => some 4
  | .name .. => none
  | .attr _ n => some (attrTy n)
  | .lett _ n => if 0 ≤ n then ts[n.toNat]? else none
  | .un _ op k => match tyE ts k with
    | some a => nz (tyOp op [a])
    | none => none
  | .bin _ op l r => match tyE ts l with
    | some a => match tyE ts r with
      | some b => nz (tyOp op [a, b])
      | none => none
    | none => none
  | .ite _ c t e => match tyE ts c with
    | some a => match tyE ts t with
      | some b => match tyE ts e with
        | some d => nz (tyOp 27 [a, b, d])
        | none => none
      | none => none
    | none => none

/-- the kids of a tree -/
def Ex.kids : Ex → List Ex
  | .un _ _ k => [k]
  | .bin _ _ l r => [l, r]
  | .ite _ c t e => [c, t, e]
  | _ => []

/-- the types of all its nodes, in their order -/
def tysE (ts : List Int) : Ex → List Int
  | .un i op k => tysE ts k ++ [(tyE ts (.un i op k)).getD 0]
  | .bin i op l r => tysE ts l ++ tysE ts r ++ [(tyE ts (.bin i op l r)).getD 0]
  | .ite i c t e => tysE ts c ++ tysE ts t ++ tysE ts e ++ [(tyE ts (.ite i c t e)).getD 0]
  | e => [(tyE ts e).getD 0]

theorem tysE_len (ts : List Int) : ∀ (e : Ex), (tysE ts e).length = e.cnt
  | .int .. | .text .. | .bool .. | .set .. | .name .. | .attr .. | .lett .. => rfl
  | .un _ _ k => by simp [tysE, Ex.cnt, tysE_len ts k]
  | .bin _ _ l r => by simp [tysE, Ex.cnt, tysE_len ts l, tysE_len ts r]; omega
  | .ite _ c t e => by simp [tysE, Ex.cnt, tysE_len ts c, tysE_len ts t, tysE_len ts e]; omega

theorem attrTy_pos (n : Int) : 1 ≤ attrTy n ∧ attrTy n ≤ 4 := by unfold attrTy; repeat' split <;> try decide

theorem nz_some {t a : Int} (h : nz t = some a) : t = a ∧ a ≠ 0 := by
  unfold nz at h
  split at h
  · cases h
  · cases h; exact ⟨rfl, by assumption⟩

/-- what a typed tree is like -/
def Ex.typed : Ex → Prop
  | .name .. => False
  | .attr _ n => 0 ≤ n ∧ n < 6
  | .un _ op k => (8 ≤ op ∧ op ≤ 10) ∧ k.typed
  | .bin _ op l r => (11 ≤ op ∧ op ≤ 26) ∧ l.typed ∧ r.typed
  | .ite _ c t e => c.typed ∧ t.typed ∧ e.typed
  | _ => True

end Go.Proofs.YtjapdeehnfoonaaGreatDoor

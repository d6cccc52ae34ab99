/-
  VPP, VPQ, VPR. Own work.
-/
import Derived.Test.YtddpcehgopeklaaGreatDoorMXAA
import Derived.Test.YtddpcehgopeklaaGreatDoorMXAC
import Derived.Test.YtddpcehgopeklaaGreatDoorMXAD
namespace Go.Proofs.YtddpcehgopeklaaGreatDoor
open Go.RowKit
set_option linter.unusedVariables false

/-- the greatest depth -/
def dep : List (Nat × Nat) → Nat
  | [] => 0
  | p :: ps => max p.2 (dep ps)

theorem dep_le {ks : List (Nat × Nat)} {p : Nat × Nat} (h : p ∈ ks) : p.2 ≤ dep ks := by
  induction ks with
  | nil => cases h
  | cons q qs ih =>
    rw [dep]
    rcases List.mem_cons.1 h with e | e
    · subst e; omega
    · have := ih e; omega

def topsI (ks : List (Nat × Nat)) : List Int := ks.map fun p => (p.1 : Int)

/-- Trees side by side, in post-order: from a place on, each with its top and depth, up to a place (K: the kids of each node). -/
inductive Forest (K : List (List Int)) : Nat → List (Nat × Nat) → Nat → Prop
  | nil (a : Nat) : Forest K a [] a
  | cons {a t b : Nat} {ks fs : List (Nat × Nat)} (hk : Forest K a ks t) (ht : K[t]? = some (topsI ks)) (hf : Forest K (t + 1) fs b) : Forest K a ((t, dep ks + 1) :: fs) b

theorem Forest.le {K : List (List Int)} {a b : Nat} {fs : List (Nat × Nat)} (h : Forest K a fs b) : a ≤ b := by
  induction h with
  | nil a => exact Nat.le_refl _
  | cons hk ht hf i1 i2 => omega

theorem Forest.lt {K : List (List Int)} {a b : Nat} {fs : List (Nat × Nat)} (h : Forest K a fs b) : ∀ p ∈ fs, a ≤ p.1 ∧ p.1 < b := by
  induction h with
  | nil a => intro p hp; cases hp
  | cons hk ht hf i1 i2 =>
    intro p hp
    have h1 := hk.le
    have h2 := hf.le
    rcases List.mem_cons.1 hp with e | e
    · subst e; exact ⟨h1, by show _ < _; omega⟩
    · have := i2 p e; omega

theorem Forest.join {K : List (List Int)} {a b c : Nat} {fs gs : List (Nat × Nat)} (h : Forest K a fs b) (k : Forest K b gs c) : Forest K a (fs ++ gs) c := by
  induction h with
  | nil a => exact k
  | cons hk ht hf i1 i2 => exact .cons hk ht (i2 k)

theorem Forest.split {K : List (List Int)} : ∀ {fs gs : List (Nat × Nat)} {a c : Nat}, Forest K a (fs ++ gs) c → ∃ b, Forest K a fs b ∧ Forest K b gs c
  | [], gs, a, c, h => ⟨a, .nil a, h⟩
  | p :: fs, gs, a, c, h => by
    cases h with
    | cons hk ht hf =>
      obtain ⟨b, h1, h2⟩ := Forest.split hf
      exact ⟨b, .cons hk ht h1, h2⟩

/-- one node more on the stack -/
def stepT (S : List (Nat × Nat)) (i : Nat) (ks : List Int) : Option (List (Nat × Nat)) :=
  if S.length < ks.length then none
  else if topsI (S.drop (S.length - ks.length)) ≠ ks then none
  else if dep (S.drop (S.length - ks.length)) = 64 then none
  else some (S.take (S.length - ks.length) ++ [(i, dep (S.drop (S.length - ks.length)) + 1)])

/-- the stack behind so many nodes more -/
def runT (K : List (List Int)) : Nat → List (Nat × Nat) → Nat → Option (List (Nat × Nat))
  | 0, S, _ => some S
  | n + 1, S, i => match K[i]? with
    | none => none
    | some ks => match stepT S i ks with
      | none => none
      | some S' => runT K n S' (i + 1)

theorem runT_add (K : List (List Int)) : ∀ (m n : Nat) (S : List (Nat × Nat)) (i : Nat), runT K (m + n) S i = (runT K m S i).bind fun S' => runT K n S' (i + m)
  | 0, n, S, i => by simp [runT]
  | m + 1, n, S, i => by
    rw [show m + 1 + n = (m + n) + 1 by omega, runT, runT]
    cases K[i]? with
    | none => rfl
    | some ks =>
      dsimp only
      cases stepT S i ks with
      | none => rfl
      | some S' =>
        dsimp only
        rw [runT_add K m n S' (i + 1), show i + 1 + m = i + (m + 1) by omega]

theorem topsI_len (ks : List (Nat × Nat)) : (topsI ks).length = ks.length := by simp [topsI]

theorem stepT_hit (S ks : List (Nat × Nat)) (i : Nat) (h : dep ks + 1 ≤ 64) : stepT (S ++ ks) i (topsI ks) = some (S ++ [(i, dep ks + 1)]) := by
  have e : (S ++ ks).length - (topsI ks).length = S.length := by rw [topsI_len, List.length_append]; omega
  rw [stepT, if_neg (by rw [topsI_len, List.length_append]; omega), e, List.drop_left, if_neg (by simp), if_neg (by omega), List.take_left]

theorem stepT_of {S S' : List (Nat × Nat)} {i : Nat} {ks : List Int} (h : stepT S i ks = some S') : ∃ A B, S = A ++ B ∧ topsI B = ks ∧ dep B ≠ 64 ∧ S' = A ++ [(i, dep B + 1)] := by
  rw [stepT] at h
  split at h
  · cases h
  · split at h
    · cases h
    · split at h
      · cases h
      · rename_i h1 h2 h3
        rw [ne_eq, Decidable.not_not] at h2
        exact ⟨_, _, (List.take_append_drop (S.length - ks.length) S).symm, h2, h3, (Option.some.inj h).symm⟩

/-- trees that are not too deep are found on the stack -/
theorem runT_forest {K : List (List Int)} {a b : Nat} {fs : List (Nat × Nat)} (h : Forest K a fs b) : ∀ (S : List (Nat × Nat)), (∀ p ∈ fs, p.2 ≤ 64) → runT K (b - a) S a = some (S ++ fs) := by
  induction h with
  | nil a => intro S _; simp [runT]
  | @cons a t b ks fs hk ht hf i1 i2 =>
    intro S hd
    have h1 := hk.le
    have h2 := hf.le
    have hdk : dep ks + 1 ≤ 64 := hd _ (List.mem_cons_self ..)
    rw [show b - a = (t - a) + (1 + (b - (t + 1))) by omega, runT_add, i1 S (fun p hp => by have := dep_le hp; omega), Option.bind_some, show a + (t - a) = t by omega, runT_add]
    have e1 : runT K 1 (S ++ ks) t = some (S ++ [(t, dep ks + 1)]) := by
      rw [runT, ht]
      dsimp only
      rw [stepT_hit S ks t hdk]
      rfl
    rw [e1, Option.bind_some, i2 _ (fun p hp => hd p (List.mem_cons_of_mem _ hp)), List.append_assoc]
    rfl

/-- what lies on the stack are trees that are not too deep -/
theorem forest_runT {K : List (List Int)} : ∀ (n : Nat) {S S' : List (Nat × Nat)} {i : Nat}, Forest K 0 S i → (∀ p ∈ S, p.2 ≤ 64) → runT K n S i = some S' → Forest K 0 S' (i + n) ∧ ∀ p ∈ S', p.2 ≤ 64
  | 0, S, S', i, h, hd, hr => by
    rw [runT] at hr
    obtain rfl := Option.some.inj hr
    exact ⟨h, hd⟩
  | n + 1, S, S', i, h, hd, hr => by
    rw [runT] at hr
    cases hK : K[i]? with
    | none => rw [hK] at hr; cases hr
    | some ks =>
      rw [hK] at hr
      dsimp only at hr
      cases hs : stepT S i ks with
      | none => rw [hs] at hr; cases hr
      | some S1 =>
        rw [hs] at hr
        dsimp only at hr
        obtain ⟨A, B, rfl, hB, h64, rfl⟩ := stepT_of hs
        obtain ⟨m, f1, f2⟩ := h.split
        have f3 : Forest K 0 (A ++ [(i, dep B + 1)]) (i + 1) := f1.join (.cons f2 (by rw [hK, hB]) (.nil _))
        have hdB : dep B ≤ 64 := by
          have : ∀ (L : List (Nat × Nat)), (∀ p ∈ L, p.2 ≤ 64) → dep L ≤ 64 := by
            intro L
            induction L with
            | nil => intro _; simp [dep]
            | cons q qs ih =>
              intro hq
              have h1 := hq q (List.mem_cons_self ..)
              have h2 := ih (fun p hp => hq p (List.mem_cons_of_mem _ hp))
              rw [dep]; omega
          exact this B (fun p hp => hd p (List.mem_append_right _ hp))
        have hd1 : ∀ p ∈ A ++ [(i, dep B + 1)], p.2 ≤ 64 := fun p hp => by
          rcases List.mem_append.1 hp with k | k
          · exact hd p (List.mem_append_left _ k)
          · rw [List.mem_singleton.1 k]; show dep B + 1 ≤ 64; omega
        have := forest_runT n f3 hd1 hr
        rw [show i + (n + 1) = i + 1 + n by omega]
        exact this

end Go.Proofs.YtddpcehgopeklaaGreatDoor

namespace Go.Proofs.YtddpcehgopeklaaGreatDoor
open Go.RowKit
set_option linter.unusedVariables false

/-- the kids one after another, then the node; -1 where a kid does not stand ahead -/
def kidsF (f : Int → List Int → List Int) (top : Int) : List Int → List Int → List Int
  | [], out => out ++ [top]
  | k :: ks, out => if top ≤ k then out ++ [-1] else kidsF f top ks (f k out)

/-- the walk of the model -/
def walkF (K : List (List Int)) : Nat → Int → List Int → List Int
  | 0 => fun _ out => out ++ [-1]
  | n + 1 => fun top out => if top < 0 ∨ (K.length : Int) ≤ top ∨ K.length < out.length then out ++ [-1] else kidsF (walkF K n) top (K.getD top.toNat []) out

/-- 0, 1, 2 and so on -/
def good (l : List Int) : Prop := ∀ (i : Nat) (x : Int), l[i]? = some x → x = i

theorem good.pre {l m : List Int} (h : good (l ++ m)) : good l := fun i x hx => by
  have hi : i < l.length := (List.getElem?_eq_some_iff.1 hx).1
  exact h i x (by rw [List.getElem?_append_left hi]; exact hx)

theorem good.last {l : List Int} {x : Int} (h : good (l ++ [x])) : x = l.length := h l.length x (by simp)

theorem good.snoc {l : List Int} {x : Int} (h : good l) (e : x = l.length) : good (l ++ [x]) := fun i y hy => by
  rcases Nat.lt_trichotomy i l.length with k | k | k
  · rw [List.getElem?_append_left k] at hy; exact h i y hy
  · subst k; simp at hy; omega
  · rw [List.getElem?_append_right (by omega), List.getElem?_eq_none (by simp; omega)] at hy; cases hy

theorem good_iff (l : List Int) : good l ↔ ∀ i, (h : i < l.length) → l[i] = (i : Int) := by
  constructor
  · intro h i hi; exact h i _ (List.getElem?_eq_getElem hi)
  · intro h i x hx
    obtain ⟨hi, e⟩ := List.getElem?_eq_some_iff.1 hx
    rw [← e]; exact h i hi

/-- a walk only adds -/
theorem kidsF_pre {f : Int → List Int → List Int} (hf : ∀ k out, ∃ l, f k out = out ++ l) (top : Int) : ∀ (ks out : List Int), ∃ l, kidsF f top ks out = out ++ l
  | [], out => ⟨[top], rfl⟩
  | k :: ks, out => by
    rw [kidsF]
    split
    · exact ⟨[-1], rfl⟩
    · obtain ⟨l, e⟩ := hf k out
      obtain ⟨m, e2⟩ := kidsF_pre hf top ks (f k out)
      exact ⟨l ++ m, by rw [e2, e, List.append_assoc]⟩

theorem walkF_pre (K : List (List Int)) : ∀ (n : Nat) (top : Int) (out : List Int), ∃ l, walkF K n top out = out ++ l
  | 0, top, out => ⟨[-1], rfl⟩
  | n + 1, top, out => by
    rw [walkF]
    dsimp only
    split
    · exact ⟨[-1], rfl⟩
    · exact kidsF_pre (walkF_pre K n) top _ out

/-- where the walk gives 0, 1, 2 .., trees stand in post-order -/
theorem kidsF_good {K : List (List Int)} {f : Int → List Int → List Int} (hp : ∀ k out, ∃ l, f k out = out ++ l)
    (hf : ∀ k out, good (f k out) → ∃ d, Forest K out.length [(k.toNat, d)] (f k out).length ∧ 0 ≤ k) (top : Int) :
    ∀ (ks out : List Int), good (kidsF f top ks out) → ∃ fs, topsI fs = ks ∧ ∃ t, Forest K out.length fs t ∧ top = (t : Int) ∧ (kidsF f top ks out).length = t + 1
  | [], out, h => ⟨[], rfl, out.length, .nil _, by rw [kidsF] at h; exact h.last, by simp [kidsF]⟩
  | k :: ks, out, h => by
    rw [kidsF] at h ⊢
    split at h
    · have := h.last; omega
    · rename_i hk
      rw [if_neg hk]
      obtain ⟨l, e⟩ := kidsF_pre hp top ks (f k out)
      have h1 : good (f k out) := by rw [e] at h; exact h.pre
      obtain ⟨d, h2, h3⟩ := hf k out h1
      obtain ⟨fs, e1, t, h4, h5, h6⟩ := kidsF_good hp hf top ks (f k out) h
      exact ⟨(k.toNat, d) :: fs, by simp only [topsI, List.map_cons] at e1 ⊢; rw [e1]; congr 1; omega, t, h2.join h4, h5, h6⟩

theorem walkF_good (K : List (List Int)) : ∀ (n : Nat) (top : Int) (out : List Int), good (walkF K n top out) → ∃ d, Forest K out.length [(top.toNat, d)] (walkF K n top out).length ∧ 0 ≤ top
  | 0, top, out, h => by
    have := good.last (l := out) h
    omega
  | n + 1, top, out, h => by
    rw [walkF] at h ⊢
    dsimp only at h ⊢
    split at h
    · have := h.last; omega
    · rename_i hc
      rw [if_neg hc]
      obtain ⟨fs, e1, t, h4, h5, h6⟩ := kidsF_good (walkF_pre K n) (walkF_good K n) top _ out h
      have ht : top.toNat = t := by omega
      refine ⟨dep fs + 1, ?_, by omega⟩
      rw [h6, ht]
      refine .cons h4 ?_ (.nil _)
      have hl : t < K.length := by omega
      rw [ht] at e1
      rw [e1, List.getElem?_eq_getElem hl, List.getD_eq_getElem?_getD, List.getElem?_eq_getElem hl]
      rfl

/-- numbers from one on -/
def upto (a b : Nat) : List Int := (List.range' a (b - a)).map fun (i : Nat) => (i : Int)

theorem upto_self (a : Nat) : upto a a = [] := by simp [upto]

theorem upto_join {a b c : Nat} (h1 : a ≤ b) (h2 : b ≤ c) : upto a b ++ upto b c = upto a c := by
  rw [upto, upto, upto, ← List.map_append, show c - a = (b - a) + (c - b) by omega, ← List.range'_append_1, show a + (b - a) = b by omega]

theorem upto_one (a : Nat) : upto a (a + 1) = [(a : Int)] := by simp [upto]

theorem upto_len (a b : Nat) : (upto a b).length = b - a := by simp [upto]

/-- the walk over trees in post-order -/
theorem walkF_forest {K : List (List Int)} {a b : Nat} {fs : List (Nat × Nat)} (h : Forest K a fs b) :
    ∀ (n : Nat) (out : List Int), (∀ p ∈ fs, p.1 < n) → out.length = a → b ≤ K.length → (topsI fs).foldl (fun o k => walkF K n k o) out = out ++ upto a b := by
  induction h with
  | nil a => intro n out _ _ _; simp [topsI, upto_self]
  | @cons a t b ks fs hk ht hf i1 i2 =>
    intro n out hn ho hb
    have h1 := hk.le
    have h2 := hf.le
    have hlt := hk.lt
    have htn : t < n := hn _ (List.mem_cons_self ..)
    obtain ⟨n', rfl⟩ : ∃ n', n = n' + 1 := ⟨n - 1, by omega⟩
    have hw : walkF K (n' + 1) (t : Int) out = out ++ upto a (t + 1) := by
      rw [walkF]
      dsimp only
      rw [if_neg (by omega), Int.toNat_natCast, List.getD_eq_getElem?_getD, ht, Option.getD_some]
      have hq : ∀ (ks : List (Nat × Nat)) (o : List Int), (∀ p ∈ ks, p.1 < t) → kidsF (walkF K n') (t : Int) (topsI ks) o = (topsI ks).foldl (fun o k => walkF K n' k o) o ++ [(t : Int)] := by
        intro ks
        induction ks with
        | nil => intro o _; rfl
        | cons p ps ih =>
          intro o hp
          have := hp p (List.mem_cons_self ..)
          rw [show topsI (p :: ps) = (p.1 : Int) :: topsI ps from rfl, kidsF, if_neg (by omega), ih _ (fun q hq => hp q (List.mem_cons_of_mem _ hq))]
          rfl
      rw [hq ks out (fun p hp => (hlt p hp).2), i1 n' out (fun p hp => by have := (hlt p hp).2; omega) ho (by omega), List.append_assoc, ← upto_one t, upto_join h1 (by omega)]
    rw [show topsI ((t, dep ks + 1) :: fs) = (t : Int) :: topsI fs from rfl, List.foldl_cons, hw, i2 (n' + 1) _ (fun p hp => hn p (List.mem_cons_of_mem _ hp)) (by rw [List.length_append, upto_len]; omega) hb, List.append_assoc, upto_join (by omega) h2]

/-- roots whose walk gives 0, 1, 2 .. -/
theorem roots_good {K : List (List Int)} {n : Nat} : ∀ (A : List Int) (out : List Int), good (A.foldl (fun o k => walkF K n k o) out) → ∃ fs, topsI fs = A ∧ Forest K out.length fs (A.foldl (fun o k => walkF K n k o) out).length
  | [], out, _ => ⟨[], rfl, .nil _⟩
  | k :: A, out, h => by
    rw [List.foldl_cons] at h ⊢
    have hpre : ∃ l, A.foldl (fun o k => walkF K n k o) (walkF K n k out) = walkF K n k out ++ l := by
      have : ∀ (A : List Int) (o : List Int), ∃ l, A.foldl (fun o k => walkF K n k o) o = o ++ l := by
        intro A
        induction A with
        | nil => intro o; exact ⟨[], by simp⟩
        | cons x xs ih =>
          intro o
          obtain ⟨l, e⟩ := walkF_pre K n x o
          obtain ⟨m, e2⟩ := ih (walkF K n x o)
          exact ⟨l ++ m, by rw [List.foldl_cons, e2, e, List.append_assoc]⟩
      exact this A _
    obtain ⟨l, e⟩ := hpre
    have h1 : good (walkF K n k out) := by rw [e] at h; exact h.pre
    obtain ⟨d, h2, h3⟩ := walkF_good K n k out h1
    obtain ⟨fs, e1, h4⟩ := roots_good A (walkF K n k out) h
    exact ⟨(k.toNat, d) :: fs, by simp only [topsI, List.map_cons] at e1 ⊢; rw [e1]; congr 1; omega, h2.join h4⟩

/-- the depth of the model -/
def depthF (K : List (List Int)) : Nat → Int → Nat
  | 0 => fun _ => 1
  | n + 1 => fun top => ((K.getD top.toNat []).foldl (fun d k => max d (depthF K n k)) 0) + 1

theorem foldl_max (g : Int → Nat) : ∀ (ks : List Int) (d : Nat), ks.foldl (fun d k => max d (g k)) d = max d (ks.foldl (fun d k => max d (g k)) 0)
  | [], d => by simp
  | k :: ks, d => by
    rw [List.foldl_cons, List.foldl_cons, foldl_max g ks, foldl_max g ks (max 0 (g k))]
    omega

theorem depthF_forest {K : List (List Int)} {a b : Nat} {fs : List (Nat × Nat)} (h : Forest K a fs b) : ∀ (n : Nat), (∀ p ∈ fs, p.1 < n) → (∀ p ∈ fs, depthF K n (p.1 : Int) = p.2) ∧ (topsI fs).foldl (fun d k => max d (depthF K n k)) 0 = dep fs := by
  induction h with
  | nil a => intro n _; exact ⟨fun p hp => (by cases hp), rfl⟩
  | @cons a t b ks fs hk ht hf i1 i2 =>
    intro n hn
    have htn : t < n := hn _ (List.mem_cons_self ..)
    obtain ⟨n', rfl⟩ : ∃ n', n = n' + 1 := ⟨n - 1, by omega⟩
    have hlt := hk.lt
    have e1 : depthF K (n' + 1) (t : Int) = dep ks + 1 := by
      rw [depthF]
      dsimp only
      rw [Int.toNat_natCast, List.getD_eq_getElem?_getD, ht, Option.getD_some, (i1 n' (fun p hp => by have := (hlt p hp).2; omega)).2]
    obtain ⟨j1, j2⟩ := i2 (n' + 1) (fun p hp => hn p (List.mem_cons_of_mem _ hp))
    refine ⟨fun p hp => ?_, ?_⟩
    · rcases List.mem_cons.1 hp with e | e
      · subst e; exact e1
      · exact j1 p e
    · rw [show topsI ((t, dep ks + 1) :: fs) = (t : Int) :: topsI fs from rfl, List.foldl_cons, foldl_max, j2, e1, dep]
      omega

theorem good_upto (n : Nat) : good (upto 0 n) := fun i x hx => by
  rw [upto, List.getElem?_map, Option.map_eq_some_iff] at hx
  obtain ⟨j, hj, rfl⟩ := hx
  obtain ⟨h1, h2⟩ := List.getElem?_eq_some_iff.1 hj
  rw [List.getElem_range'] at h2
  omega

/-- the walk's way and the stack's way say the same -/
theorem shape_iff (K : List (List Int)) (A : List Int) :
    ((A.foldl (fun o k => walkF K K.length k o) []).length = K.length ∧ good (A.foldl (fun o k => walkF K K.length k o) []) ∧ ∀ r ∈ A, depthF K K.length r ≤ 64) ↔ ∃ S, runT K K.length [] 0 = some S ∧ topsI S = A := by
  constructor
  · rintro ⟨h1, h2, h3⟩
    obtain ⟨fs, rfl, hF⟩ := roots_good A [] h2
    rw [h1] at hF
    have hd := (depthF_forest hF K.length (fun p hp => (hF.lt p hp).2)).1
    have hr := runT_forest hF [] (fun p hp => by
      rw [← hd p hp]
      exact h3 _ (List.mem_map.2 ⟨p, hp, rfl⟩))
    exact ⟨fs, by simpa using hr, rfl⟩
  · rintro ⟨S, hr, rfl⟩
    obtain ⟨hF, hd⟩ := forest_runT K.length (.nil 0) (fun p hp => by cases hp) hr
    rw [Nat.zero_add] at hF
    have hw := walkF_forest hF K.length [] (fun p hp => (hF.lt p hp).2) rfl (Nat.le_refl _)
    rw [List.nil_append] at hw
    rw [hw]
    refine ⟨by rw [upto_len]; omega, good_upto _, fun r hr => ?_⟩
    obtain ⟨p, hp, rfl⟩ := List.mem_map.1 hr
    rw [(depthF_forest hF K.length (fun p hp => (hF.lt p hp).2)).1 p hp]
    exact hd p hp

end Go.Proofs.YtddpcehgopeklaaGreatDoor

namespace Go.Proofs.YtddpcehgopeklaaGreatDoor
open Go.RowKit
set_option linter.unusedVariables false

structure Nd where
  op : Int
  num : Int
  text : ByteArray
  names : List ByteArray
  kids : List Int

structure St where
  kind : Int
  name : ByteArray
  cond : Int
  grant : Int

/-- how many kids -/
def kidN (op : Int) : Int := if 1 ≤ op ∧ op ≤ 7 then 0 else if 8 ≤ op ∧ op ≤ 10 then 1 else if 11 ≤ op ∧ op ≤ 26 then 2 else if op = 27 then 3 else -1

/-- could it be a name of the language? -/
def identB (s : ByteArray) : Bool := match toL s with
  | [] => false
  | c :: r => decide ((c :: r).length ≤ 32) && ltB c && (c :: r).all wdB && !isWd (c :: r)

/-- could it stand between quotes? -/
def quotedB (s : ByteArray) : Bool := decide (s.size ≤ 32) && (toL s).all nmB

/-- are the fields of a node as written right? -/
def fieldsB (x : Nd) : Bool :=
  decide ((x.kids.length : Int) = kidN x.op) &&
  (if x.op = 1 then decide (0 ≤ x.num) && decide (x.text.size = 0) && decide (x.names.length = 0)
   else if x.op = 2 then quotedB x.text && decide (x.num = 0) && decide (x.names.length = 0)
   else if x.op = 3 then decide (x.num = 0 ∨ x.num = 1) && decide (x.text.size = 0) && decide (x.names.length = 0)
   else if x.op = 4 then setB x.names && decide (x.num = 0) && decide (x.text.size = 0)
   else if x.op = 5 then identB x.text && decide (x.num = 0) && decide (x.names.length = 0)
   else if x.op = 6 ∨ x.op = 7 then false
   else decide (x.num = 0) && decide (x.text.size = 0) && decide (x.names.length = 0))

/-- a statement, as the model asks for it -/
def stmtS (last : Bool) (s : St) : Bool :=
  if s.kind = 1 then !last && identB s.name && decide (0 ≤ s.cond) && decide (s.grant = -1)
  else if s.kind = 2 then !last && decide (s.name.size = 0) && decide (0 ≤ s.cond) && decide (-1 ≤ s.grant)
  else if s.kind = 3 then last && decide (s.name.size = 0) && decide (s.cond = -1) && decide (-1 ≤ s.grant)
  else false

/-- a statement, as the program asks for it -/
def stmtI (s : St) : Bool :=
  if s.kind = 1 then identB s.name && decide (s.grant = -1)
  else if s.kind = 2 then decide (s.name.size = 0)
  else if s.kind = 3 then decide (s.name.size = 0) && decide (s.cond = -1)
  else false

def rootsOf (s : St) : List Int := (if 0 ≤ s.cond then [s.cond] else []) ++ (if 0 ≤ s.grant then [s.grant] else [])
def askedOf (s : St) : List Int := (if s.kind ≠ 3 then [s.cond] else []) ++ (if s.grant ≠ -1 then [s.grant] else [])

def stmtsS : List St → Bool
  | [] => true
  | s :: r => stmtS r.isEmpty s && stmtsS r

def stmtsI : List St → Bool
  | [] => true
  | s :: r => stmtI s && (decide (s.kind = 3) == r.isEmpty) && stmtsI r

/-- where no place asked for is negative, the two say the same of the statements -/
theorem stmts_same : ∀ (L : List St), (∀ x ∈ L.flatMap askedOf, 0 ≤ x) → (stmtsI L = true ↔ stmtsS L = true)
  | [], _ => Iff.rfl
  | s :: r, h => by
    have ih := stmts_same r (fun x hx => h x (by rw [List.flatMap_cons]; exact List.mem_append_right _ hx))
    have hs : ∀ x ∈ askedOf s, 0 ≤ x := fun x hx => h x (by rw [List.flatMap_cons]; exact List.mem_append_left _ hx)
    rw [stmtsI, stmtsS, Bool.and_eq_true, Bool.and_eq_true, Bool.and_eq_true, ih]
    have e : (stmtI s = true ∧ (decide (s.kind = 3) == r.isEmpty) = true) ↔ stmtS r.isEmpty s = true := by
      have hc : s.kind ≠ 3 → 0 ≤ s.cond := fun k => hs _ (by rw [askedOf, if_pos k]; simp)
      have hg : s.grant ≠ -1 → 0 ≤ s.grant := fun k => hs _ (by rw [askedOf, if_pos k]; simp)
      generalize r.isEmpty = last
      unfold stmtI stmtS
      by_cases k1 : s.kind = 1
      · simp [k1]
        have := hc (by omega)
        cases last <;> simp [this]
      · by_cases k2 : s.kind = 2
        · simp [k2]
          have h1 := hc (by omega)
          have h2 : -1 ≤ s.grant := by by_cases k : s.grant = -1; omega; have := hg k; omega
          cases last <;> simp [h1, h2]
        · by_cases k3 : s.kind = 3
          · simp [k3]
            have h2 : -1 ≤ s.grant := by by_cases k : s.grant = -1; omega; have := hg k; omega
            cases last <;> simp [h2]
          · simp [k1, k2, k3]
    rw [← e, and_assoc]

theorem roots_asked : ∀ {last : Bool} {s : St}, stmtS last s = true → rootsOf s = askedOf s ∧ ∀ x ∈ askedOf s, 0 ≤ x := by
  intro last s h
  unfold stmtS at h
  unfold rootsOf askedOf
  by_cases k1 : s.kind = 1
  · simp [k1] at h
    obtain ⟨⟨_, h1⟩, h2⟩ := h
    simp [k1, h1, h2]
  · by_cases k2 : s.kind = 2
    · simp [k2] at h
      obtain ⟨⟨_, h1⟩, h2⟩ := h
      by_cases hg : s.grant = -1
      · simp [k2, h1, hg]
      · have : 0 ≤ s.grant := by omega
        simp [k2, h1, hg, this]
    · by_cases k3 : s.kind = 3
      · simp [k3] at h
        obtain ⟨⟨_, h1⟩, h2⟩ := h
        by_cases hg : s.grant = -1
        · simp [k3, h1, hg]
        · have : 0 ≤ s.grant := by omega
          simp [k3, h1, hg, this]
      · simp [k1, k2, k3] at h

theorem roots_all : ∀ {L : List St}, stmtsS L = true → L.flatMap rootsOf = L.flatMap askedOf ∧ ∀ x ∈ L.flatMap askedOf, 0 ≤ x
  | [], _ => ⟨rfl, fun x hx => by cases hx⟩
  | s :: r, h => by
    rw [stmtsS, Bool.and_eq_true] at h
    obtain ⟨e1, h1⟩ := roots_asked h.1
    obtain ⟨e2, h2⟩ := roots_all h.2
    refine ⟨by rw [List.flatMap_cons, List.flatMap_cons, e1, e2], fun x hx => ?_⟩
    rw [List.flatMap_cons] at hx
    rcases List.mem_append.1 hx with k | k
    · exact h1 x k
    · exact h2 x k

/-- valid, by the model's walk -/
def ValidS (N : List Nd) (L : List St) : Prop :=
  stmtsS L = true ∧ ((L.flatMap rootsOf).foldl (fun o k => walkF (N.map Nd.kids) N.length k o) []).length = N.length ∧ good ((L.flatMap rootsOf).foldl (fun o k => walkF (N.map Nd.kids) N.length k o) []) ∧ ∀ r ∈ L.flatMap rootsOf, depthF (N.map Nd.kids) N.length r ≤ 64

/-- valid, by the program's stack -/
def ValidI (N : List Nd) (L : List St) : Prop := stmtsI L = true ∧ ∃ S, runT (N.map Nd.kids) N.length [] 0 = some S ∧ topsI S = L.flatMap askedOf

theorem valid_same (N : List Nd) (L : List St) : ValidI N L ↔ ValidS N L := by
  have hs := shape_iff (N.map Nd.kids) (L.flatMap askedOf)
  rw [List.length_map] at hs
  constructor
  · rintro ⟨h1, S, h2, h3⟩
    have h0 : ∀ x ∈ L.flatMap askedOf, 0 ≤ x := by
      rw [← h3]
      intro x hx
      obtain ⟨p, _, rfl⟩ := List.mem_map.1 hx
      omega
    have h4 := (stmts_same L h0).1 h1
    have e := (roots_all h4).1
    unfold ValidS
    rw [e]
    exact ⟨h4, hs.2 ⟨S, h2, h3⟩⟩
  · rintro ⟨h1, h2⟩
    obtain ⟨e, h0⟩ := roots_all h1
    rw [e] at h2
    exact ⟨(stmts_same L h0).2 h1, hs.1 h2⟩

end Go.Proofs.YtddpcehgopeklaaGreatDoor

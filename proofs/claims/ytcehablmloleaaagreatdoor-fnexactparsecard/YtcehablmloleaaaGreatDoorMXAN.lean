/-
  GC, GD, GE, TM, TB, TO, MKL, HE, PickH. Own work.
-/
import Derived.Test.YtcehablmloleaaaGreatDoorMXAM
import Derived.Test.YtcehablmloleaaaGreatDoorMXAB
import Derived.Test.YtcehablmloleaaaGreatDoorMXAD
import Derived.Test.YtcehablmloleaaaGreatDoorMXAF
import Derived.Test.YtcehablmloleaaaGreatDoorMXAG
import Derived.Test.YtcehablmloleaaaGreatDoorShelf
import Derived.Sort.OwnSorted
import Derived.Test.YtcehablmloleaaaGreatDoorMXAC
namespace Go.Proofs.YtcehablmloleaaaGreatDoor
open Go.RowKit
set_option linter.unusedVariables false

/-- a name or a comma -/
def scT (t : Tok) : Prop := t.kind = 2 ∨ see kComma t = true

/-- the names among tokens -/
def nms : List Tok → List ByteArray
  | [] => []
  | t :: r => if t.kind = 2 then t.text :: nms r else nms r

theorem scI_cut : ∀ (ts : List Tok) (a ss : List ByteArray) (q : List Tok), scI ts a = (ss, true, q) → ∃ c, ts = c ++ q ∧ (∀ x ∈ c, scT x) ∧ ss = a ++ nms c
  | [], a, ss, q, h => by simp [scI] at h
  | [t], a, ss, q, h => by
    rw [scI] at h
    by_cases hc : okSc t
    · rw [if_pos hc] at h
      simp only [Prod.mk.injEq, true_and] at h
      exact ⟨[t], by rw [← h.2]; rfl, fun x hx => by rw [List.mem_singleton.1 hx]; exact .inl hc.1, by rw [← h.1, nms, if_pos hc.1]; rfl⟩
    · rw [if_neg hc] at h
      simp at h
  | t :: d :: r, a, ss, q, h => by
    rw [scI] at h
    by_cases hc : okSc t
    · rw [if_pos hc] at h
      cases hk : see kComma d
      · rw [hk, if_neg (by decide)] at h
        simp only [Prod.mk.injEq, true_and] at h
        exact ⟨[t], by rw [← h.2]; rfl, fun x hx => by rw [List.mem_singleton.1 hx]; exact .inl hc.1, by rw [← h.1, nms, if_pos hc.1]; rfl⟩
      · rw [hk, if_pos rfl] at h
        obtain ⟨c, h1, h2, h3⟩ := scI_cut r _ ss q h
        have nk : d.kind ≠ 2 := by rcases see_kind hk with e | e <;> omega
        refine ⟨t :: d :: c, by rw [h1]; rfl, fun x hx => ?_, by rw [h3, nms, if_pos hc.1, nms, if_neg nk, List.append_assoc]; rfl⟩
        rcases List.mem_cons.1 hx with rfl | hx
        · exact .inl hc.1
        · rcases List.mem_cons.1 hx with rfl | hx
          · exact .inr hk
          · exact h2 x hx
    · rw [if_neg hc] at h
      simp at h

theorem scR_cut {ts q : List Tok} {ss : List ByteArray} (h : scR ts = (ss, true, q)) : ∃ c, ts = c ++ q ∧ (∀ x ∈ c, scT x) ∧ ss = nms c := by
  rw [scR] at h
  split at h
  · simp only [Prod.mk.injEq, true_and] at h
    exact ⟨[], by rw [← h.2]; rfl, (fun x hx => by cases hx), by rw [← h.1]; rfl⟩
  · obtain ⟨c, h1, h2, h3⟩ := scI_cut ts [] ss q h
    exact ⟨c, h1, h2, by simpa using h3⟩

/-- tokens that are a tree of a level -/
inductive G : Nat → List Tok → Pt → Prop
  | up {k : Nat} {c : List Tok} {p : Pt} (hk : k < 8) (g : G (k + 1) c p) : G k c p
  | ite {t u v : Tok} {a b d : List Tok} {pa pb pd : Pt} (ht : see kIf t = true) (hu : see kThen u = true) (hv : see kElse v = true) (ga : G 0 a pa) (gb : G 0 b pb) (gd : G 0 d pd) : G 0 (t :: (a ++ u :: (b ++ v :: d))) (.ite t.at_ pa pb pd)
  | bin {k : Nat} {l r : List Tok} {t : Tok} {op : Int} {pl pr : Pt} (hk : k = 1 ∨ k = 2 ∨ k = 5 ∨ k = 6) (gl : G k l pl) (ht : opOf k t = some op) (gr : G (k + 1) r pr) : G k (l ++ t :: r) (.bin t.at_ op pl pr)
  | cmp {l r : List Tok} {t : Tok} {op : Int} {pl pr : Pt} (gl : G 5 l pl) (ht : opOf 4 t = some op) (gr : G 5 r pr) : G 4 (l ++ t :: r) (.bin t.at_ op pl pr)
  | not {t : Tok} {r : List Tok} {p : Pt} (ht : see kNot t = true) (g : G 3 r p) : G 3 (t :: r) (.un t.at_ 9 p)
  | neg {t : Tok} {r : List Tok} {p : Pt} (ht : see kMinus t = true) (g : G 7 r p) : G 7 (t :: r) (.un t.at_ 8 p)
  | par {t u : Tok} {r : List Tok} {p : Pt} (ht : see kLpar t = true) (g : G 0 r p) (hu : see kRpar u = true) : G 8 (t :: (r ++ [u])) p
  | size {t u v : Tok} {r : List Tok} {p : Pt} (ht : see kSize t = true) (hu : see kLpar u = true) (g : G 0 r p) (hv : see kRpar v = true) : G 8 (t :: u :: (r ++ [v])) (.un t.at_ 10 p)
  | set {t u : Tok} {c : List Tok} (ht : see kLbr t = true) (hc : ∀ x ∈ c, scT x) (hu : see kRbr u = true) : G 8 (t :: (c ++ [u])) (.set t.at_ (nms c))
  | num {t : Tok} (h : t.kind = 1) : G 8 [t] (.int t.at_ t.num)
  | text {t : Tok} (h : t.kind = 2) : G 8 [t] (.text t.at_ t.text)
  | name {t : Tok} (h : t.kind = 3) : G 8 [t] (.name t.at_ t.text)
  | tru {t : Tok} (h : see kTrue t = true) : G 8 [t] (.bool t.at_ true)
  | fls {t : Tok} (h : see kFalse t = true) : G 8 [t] (.bool t.at_ false)

theorem G.lift {c : List Tok} {p : Pt} : ∀ (n k : Nat), k + n ≤ 8 → G (k + n) c p → G k c p
  | 0, k, _, h => h
  | n + 1, k, hk, h => .up (by omega) (G.lift n (k + 1) (by omega) (by rw [Nat.add_right_comm]; exact h))

theorem G.le8 {k : Nat} {c : List Tok} {p : Pt} (h : G k c p) : k ≤ 8 := by
  cases h <;> omega

theorem G.low {k j : Nat} {c : List Tok} {p : Pt} (h : G k c p) (hj : j ≤ k) : G j c p := by
  have h8 := h.le8
  obtain ⟨n, rfl⟩ : ∃ n, k = j + n := ⟨k - j, by omega⟩
  exact G.lift n j h8 h

/-- what a rule has read -/
def Tr : NT → List Tok → Pt → List Tok → Prop
  | .more k e0, ts, e, q => ∀ c0, G k c0 e0 → ∃ c, ts = c ++ q ∧ G k (c0 ++ c) e
  | .beh s, ts, e, q => ∃ t c, ts = t :: (c ++ q) ∧ see s t = true ∧ G 0 c e
  | .encl, ts, e, q => ∃ t c u, ts = t :: (c ++ u :: q) ∧ see kLpar t = true ∧ see kRpar u = true ∧ G 0 c e
  | .chain k, ts, e, q => ∃ c, ts = c ++ q ∧ G k c e
  | .opd k, ts, e, q => ∃ c, ts = c ++ q ∧ G (k + 1) c e
  | .expr, ts, e, q => ∃ c, ts = c ++ q ∧ G 0 c e
  | .neg, ts, e, q => ∃ c, ts = c ++ q ∧ G 3 c e
  | .cmp, ts, e, q => ∃ c, ts = c ++ q ∧ G 4 c e
  | .una, ts, e, q => ∃ c, ts = c ++ q ∧ G 7 c e
  | .prim, ts, e, q => ∃ c, ts = c ++ q ∧ G 8 c e

theorem D.tree {nt : NT} {ts : List Tok} {x : PR} (d : D nt ts x) : nt.good → ∀ e q, x = .ok e q → Tr nt ts e q := by
  induction d with
  | beh_no | expr_if1 | expr_if2 | expr_if3 | chain_bad | more_bad | neg_bad | cmp_bad | cmp_two_bad | una_bad | size_bad | set_bad | set_end | prim_nil | prim_no | encl_bad | encl_end => intro _ e q h; cases h
  | @beh s t r x h d ih =>
    intro _ e q hx
    obtain ⟨c, hc, g⟩ := ih trivial e q hx
    exact ⟨t, c, by rw [hc], h, g⟩
  | expr_no h d ih =>
    intro _ e q hx
    obtain ⟨c, hc, g⟩ := ih (.inl rfl) e q hx
    exact ⟨c, hc, g.low (by omega)⟩
  | @expr_if t r q p o a b c h d1 d2 d3 i1 i2 i3 =>
    intro _ e q hx
    cases hx
    obtain ⟨t1, c1, h1, s1, g1⟩ := i1 trivial _ _ rfl
    obtain ⟨t2, c2, h2, s2, g2⟩ := i2 trivial _ _ rfl
    obtain ⟨t3, c3, h3, s3, g3⟩ := i3 trivial _ _ rfl
    injection h1 with h0 h1
    subst h0
    exact ⟨t :: (c1 ++ t2 :: (c2 ++ t3 :: c3)), by rw [h1, h2, h3]; simp, .ite s1 s2 s3 g1 g2 g3⟩
  | chain d1 d2 i1 i2 =>
    intro hg e q hx
    obtain ⟨c, hc, g⟩ := i1 (by simp only [NT.good] at hg ⊢; omega) _ _ rfl
    have hk8 := g.le8
    obtain ⟨c', hc', g'⟩ := i2 hg e q hx c (g.low (by omega))
    exact ⟨c ++ c', by rw [List.append_assoc, ← hc']; exact hc, g'⟩
  | @more_no k e0 ts h =>
    intro hg e q hx
    cases hx
    exact fun c0 g => ⟨[], rfl, by rw [List.append_nil]; exact g⟩
  | @more k e0 f t r q op x h d1 d2 i1 i2 =>
    intro hg e q' hx c0 g0
    obtain ⟨c, hc, g⟩ := i1 (by simp only [NT.good] at hg ⊢; omega) _ _ rfl
    obtain ⟨c', hc', g'⟩ := i2 hg e q' hx (c0 ++ t :: c) (.bin hg g0 h g)
    exact ⟨t :: (c ++ c'), by rw [List.cons_append, List.append_assoc, ← hc', ← hc], by rw [List.append_assoc] at g'; exact g'⟩
  | opd1 d ih => intro _ e q hx; exact ih (.inr (.inl rfl)) e q hx
  | opd2 d ih => intro _ e q hx; exact ih trivial e q hx
  | opd4 d ih => intro _ e q hx; exact ih (.inr (.inr (.inl rfl))) e q hx
  | opd5 d ih => intro _ e q hx; exact ih (.inr (.inr (.inr rfl))) e q hx
  | opd6 d ih => intro _ e q hx; exact ih trivial e q hx
  | neg_no h d ih => intro _ e q hx; obtain ⟨c, hc, g⟩ := ih trivial e q hx; exact ⟨c, hc, g.low (by omega)⟩
  | @neg t r q e h d ih => intro _ e q hx; cases hx; obtain ⟨c, hc, g⟩ := ih trivial _ _ rfl; exact ⟨t :: c, by rw [hc]; rfl, .not h g⟩
  | cmp_one d h ih => intro _ e q hx; cases hx; obtain ⟨c, hc, g⟩ := ih (.inr (.inr (.inl rfl))) _ _ rfl; exact ⟨c, hc, g.low (by omega)⟩
  | @cmp_two ts r q e f t op d h d2 i1 i2 =>
    intro _ e q hx
    cases hx
    obtain ⟨c, hc, g⟩ := i1 (.inr (.inr (.inl rfl))) _ _ rfl
    obtain ⟨c', hc', g'⟩ := i2 (.inr (.inr (.inl rfl))) _ _ rfl
    exact ⟨c ++ t :: c', by rw [List.append_assoc, List.cons_append, ← hc']; exact hc, .cmp g h g'⟩
  | una_no h d ih => intro _ e q hx; obtain ⟨c, hc, g⟩ := ih trivial e q hx; exact ⟨c, hc, g.low (by omega)⟩
  | @una t r q e h d ih => intro _ e q hx; cases hx; obtain ⟨c, hc, g⟩ := ih trivial _ _ rfl; exact ⟨t :: c, by rw [hc]; rfl, .neg h g⟩
  | @num t r h => intro _ e q hx; cases hx; exact ⟨[t], rfl, .num h⟩
  | @text t r h => intro _ e q hx; cases hx; exact ⟨[t], rfl, .text h⟩
  | @name t r h => intro _ e q hx; cases hx; exact ⟨[t], rfl, .name h⟩
  | @tru t r h => intro _ e q hx; cases hx; exact ⟨[t], rfl, .tru h⟩
  | @fls t r h => intro _ e q hx; cases hx; exact ⟨[t], rfl, .fls h⟩
  | @size t r q e h d ih =>
    intro _ e q hx
    cases hx
    obtain ⟨t1, c, u, hc, s1, s2, g⟩ := ih trivial _ _ rfl
    exact ⟨t :: t1 :: (c ++ [u]), by rw [hc]; simp, .size h s1 g s2⟩
  | @par t r x h d ih =>
    intro _ e q hx
    obtain ⟨t1, c, u, hc, s1, s2, g⟩ := ih trivial e q hx
    exact ⟨t1 :: (c ++ [u]), by rw [hc]; simp, .par s1 g s2⟩
  | @set t u r q ss h hs hq =>
    intro _ e q hx
    cases hx
    obtain ⟨c, hc, h1, h2⟩ := scR_cut hs
    exact ⟨t :: (c ++ [u]), by rw [hc]; simp, by rw [h2]; exact .set h h1 hq⟩
  | @encl ts r e t d h ih =>
    intro _ e q hx
    cases hx
    obtain ⟨t1, c, hc, s1, g⟩ := ih trivial _ _ rfl
    exact ⟨t1, c, t, hc, s1, h, g⟩

/-- a token that a tree can end with -/
def endT (t : Tok) : Bool := (!decide (t.kind = 4) && !decide (t.kind = 5)) || see kRpar t || see kRbr t || see kTrue t || see kFalse t

/-- brackets -/
def opnT (t : Tok) : Bool := see kLpar t || see kLbr t
def clsT (t : Tok) : Bool := see kRpar t || see kRbr t

structure LS where
  pe : Bool
  d : Int
  i : Int
  acc : Int

def dL (d : Int) (t : Tok) : Int := if clsT t then (if opnT t then d + 1 else d) - 1 else if opnT t then d + 1 else d

def stepL (of : List (List UInt8)) (s : LS) (t : Tok) : LS :=
  ⟨endT t, dL s.d t, s.i + 1, if dL s.d t > 0 ∨ s.pe = false then s.acc else if of.any (fun x => see x t) then s.i else s.acc⟩

theorem any_no {of : List (List UInt8)} {t : Tok} {s : List UInt8} (h : see s t = true) (hn : s ∉ of) : of.any (fun x => see x t) = false := by
  rw [List.any_eq_false]
  intro x hx hs
  have := see_ne h (s' := x) (fun e => hn (by rw [e]; exact hx))
  rw [this] at hs
  cases hs

/-- what is at a word that is no bracket -/
theorem dL_word {s : List UInt8} {t : Tok} (h : see s t = true) (hs : s ∉ [kLpar, kLbr, kRpar, kRbr]) (d : Int) : dL d t = d := by
  have e1 := see_ne h (s' := kLpar) (fun e => hs (by rw [e]; decide))
  have e2 := see_ne h (s' := kLbr) (fun e => hs (by rw [e]; decide))
  have e3 := see_ne h (s' := kRpar) (fun e => hs (by rw [e]; decide))
  have e4 := see_ne h (s' := kRbr) (fun e => hs (by rw [e]; decide))
  simp [dL, opnT, clsT, e1, e2, e3, e4]

theorem end_word {s : List UInt8} {t : Tok} (h : see s t = true) (hs : s ∉ [kRpar, kRbr, kTrue, kFalse]) : endT t = false := by
  have e1 := see_ne h (s' := kRpar) (fun e => hs (by rw [e]; decide))
  have e2 := see_ne h (s' := kRbr) (fun e => hs (by rw [e]; decide))
  have e3 := see_ne h (s' := kTrue) (fun e => hs (by rw [e]; decide))
  have e4 := see_ne h (s' := kFalse) (fun e => hs (by rw [e]; decide))
  have hk := see_kind h
  rw [endT, e1, e2, e3, e4]
  rcases hk with hk | hk <;> simp [hk]

theorem see_kind_no {s : List UInt8} {t : Tok} (h4 : t.kind ≠ 4) (h5 : t.kind ≠ 5) : see s t = false := by
  simp [see, h4, h5]

theorem dL_leaf {t : Tok} (h4 : t.kind ≠ 4) (h5 : t.kind ≠ 5) (d : Int) : dL d t = d := by
  simp [dL, opnT, clsT, see_kind_no h4 h5]

theorem end_leaf {t : Tok} (h4 : t.kind ≠ 4) (h5 : t.kind ≠ 5) : endT t = true := by
  simp [endT, h4, h5]

theorem ops_bars {k : Nat} {s : List UInt8} {op : Int} (h : (s, op) ∈ opsOf k) : s ∉ [kLpar, kLbr, kRpar, kRbr, kTrue, kFalse, kIf, kThen, kElse, kNot, kSemi, kArrow] := by
  match k, h with
  | 0, h | 3, h => cases h
  | 1, h => revert h; simp only [opsOf, List.mem_cons, List.mem_nil_iff, Prod.mk.injEq, or_false]; rintro ⟨rfl, rfl⟩; decide
  | 2, h => revert h; simp only [opsOf, List.mem_cons, List.mem_nil_iff, Prod.mk.injEq, or_false]; rintro ⟨rfl, rfl⟩; decide
  | 4, h => revert h; simp only [opsOf, List.mem_cons, List.mem_nil_iff, Prod.mk.injEq, or_false]; rintro (⟨rfl, rfl⟩ | ⟨rfl, rfl⟩ | ⟨rfl, rfl⟩ | ⟨rfl, rfl⟩ | ⟨rfl, rfl⟩ | ⟨rfl, rfl⟩) <;> decide
  | 5, h => revert h; simp only [opsOf, List.mem_cons, List.mem_nil_iff, Prod.mk.injEq, or_false]; rintro (⟨rfl, rfl⟩ | ⟨rfl, rfl⟩ | ⟨rfl, rfl⟩ | ⟨rfl, rfl⟩) <;> decide
  | 6, h => revert h; simp only [opsOf, List.mem_cons, List.mem_nil_iff, Prod.mk.injEq, or_false]; rintro (⟨rfl, rfl⟩ | ⟨rfl, rfl⟩ | ⟨rfl, rfl⟩ | ⟨rfl, rfl⟩) <;> decide
  | k + 7, h => cases h

theorem ops_word {k : Nat} {t : Tok} {op : Int} (h : opOf k t = some op) : (∀ d, dL d t = d) ∧ endT t = false ∧ (∀ s ∈ [kLpar, kLbr, kRpar, kRbr, kTrue, kFalse, kIf, kThen, kElse, kNot, kSemi, kArrow], see s t = false) := by
  obtain ⟨s, h1, h2⟩ := opOf_see h
  have hb := ops_bars h1
  refine ⟨fun d => dL_word h2 (fun e => hb ?_) d, end_word h2 (fun e => hb ?_), fun x hx => see_ne h2 (fun e => hb (by rw [e]; exact hx))⟩
  · simp only [List.mem_cons, List.mem_nil_iff, or_false] at e ⊢; grind
  · simp only [List.mem_cons, List.mem_nil_iff, or_false] at e ⊢; grind

/-- tokens of a set, within -/
theorem fold_sc (of : List (List UInt8)) : ∀ (c : List Tok), (∀ x ∈ c, scT x) → ∀ (s : LS), 0 < s.d → ∃ pe, c.foldl (stepL of) s = ⟨pe, s.d, s.i + c.length, s.acc⟩
  | [], _, s, _ => ⟨s.pe, by simp⟩
  | t :: c, h, s, hd => by
    have hdl : dL s.d t = s.d := by
      rcases h t (List.mem_cons_self ..) with e | e
      · exact dL_leaf (by omega) (by omega) _
      · exact dL_word e (by decide) _
    have e1 : stepL of s t = ⟨endT t, s.d, s.i + 1, s.acc⟩ := by rw [stepL, hdl, if_pos (.inl hd)]
    obtain ⟨pe, he⟩ := fold_sc of c (fun x hx => h x (List.mem_cons_of_mem _ hx)) ⟨endT t, s.d, s.i + 1, s.acc⟩ hd
    refine ⟨pe, ?_⟩
    rw [List.foldl_cons, e1, he]
    simp only [List.length_cons, LS.mk.injEq, true_and, and_true]
    omega

theorem dL_open {t : Tok} (h : see kLpar t = true ∨ see kLbr t = true) (d : Int) : dL d t = d + 1 := by
  rcases h with h | h
  · simp [dL, opnT, clsT, h, see_ne h (s' := kRpar) (by decide), see_ne h (s' := kRbr) (by decide)]
  · simp [dL, opnT, clsT, h, see_ne h (s' := kRpar) (by decide), see_ne h (s' := kRbr) (by decide)]

theorem dL_close {t : Tok} (h : see kRpar t = true ∨ see kRbr t = true) (d : Int) : dL d t = d - 1 := by
  rcases h with h | h
  · simp [dL, opnT, clsT, h, see_ne h (s' := kLpar) (by decide), see_ne h (s' := kLbr) (by decide)]
  · simp [dL, opnT, clsT, h, see_ne h (s' := kLpar) (by decide), see_ne h (s' := kLbr) (by decide)]

theorem end_close {t : Tok} (h : see kRpar t = true ∨ see kRbr t = true) : endT t = true := by
  rcases h with h | h <;> simp [endT, h]

theorem end_true {t : Tok} (h : see kTrue t = true ∨ see kFalse t = true) : endT t = true := by
  rcases h with h | h <;> simp [endT, h]

theorem stepL_deep (of : List (List UInt8)) {s : LS} {t : Tok} (h : 0 < dL s.d t) : stepL of s t = ⟨endT t, dL s.d t, s.i + 1, s.acc⟩ := by
  rw [stepL, if_pos (.inl h)]

theorem stepL_first (of : List (List UInt8)) {s : LS} {t : Tok} (h : s.pe = false) : stepL of s t = ⟨endT t, dL s.d t, s.i + 1, s.acc⟩ := by
  rw [stepL, if_pos (.inr h)]

theorem stepL_no (of : List (List UInt8)) {s : LS} {t : Tok} {x : List UInt8} (h : see x t = true) (hx : x ∉ of) : stepL of s t = ⟨endT t, dL s.d t, s.i + 1, s.acc⟩ := by
  rw [stepL, any_no h hx]
  simp

/-- within brackets nothing is found -/
theorem G.deep (of : List (List UInt8)) {k : Nat} {c : List Tok} {p : Pt} (g : G k c p) : ∀ (s : LS), 0 < s.d → c.foldl (stepL of) s = ⟨true, s.d, s.i + c.length, s.acc⟩ := by
  induction g with
  | up hk g ih => exact ih
  | @ite t u v a b d pa pb pd ht hu hv ga gb gd ia ib id =>
    intro s hs
    have e1 := dL_word ht (by decide) s.d
    have e2 := dL_word hu (by decide) s.d
    have e3 := dL_word hv (by decide) s.d
    rw [List.foldl_cons, stepL_deep of (by rw [e1]; exact hs), List.foldl_append, ia _ (by show 0 < dL s.d t; rw [e1]; exact hs), List.foldl_cons, stepL_deep of (by show 0 < dL (dL s.d t) u; rw [e1, e2]; exact hs), List.foldl_append, ib _ (by show 0 < dL (dL s.d t) u; rw [e1, e2]; exact hs), List.foldl_cons, stepL_deep of (by show 0 < dL (dL (dL s.d t) u) v; rw [e1, e2, e3]; exact hs), id _ (by show 0 < dL (dL (dL s.d t) u) v; rw [e1, e2, e3]; exact hs)]
    simp only [e1, e2, e3, LS.mk.injEq, true_and, and_true, List.length_cons, List.length_append]
    omega
  | @bin k l r t op pl pr hk gl ht gr il ir =>
    intro s hs
    have e1 := (ops_word ht).1
    rw [List.foldl_append, il s hs, List.foldl_cons, stepL_deep of (by rw [e1]; exact hs), ir _ (by show 0 < dL _ t; rw [e1]; exact hs)]
    simp only [e1, LS.mk.injEq, true_and, and_true, List.length_cons, List.length_append]
    omega
  | @cmp l r t op pl pr gl ht gr il ir =>
    intro s hs
    have e1 := (ops_word ht).1
    rw [List.foldl_append, il s hs, List.foldl_cons, stepL_deep of (by rw [e1]; exact hs), ir _ (by show 0 < dL _ t; rw [e1]; exact hs)]
    simp only [e1, LS.mk.injEq, true_and, and_true, List.length_cons, List.length_append]
    omega
  | @not t r p ht g ih =>
    intro s hs
    have e1 := dL_word ht (by decide) s.d
    rw [List.foldl_cons, stepL_deep of (by rw [e1]; exact hs), ih _ (by show 0 < dL _ t; rw [e1]; exact hs)]
    simp only [e1, LS.mk.injEq, true_and, and_true, List.length_cons]
    omega
  | @neg t r p ht g ih =>
    intro s hs
    have e1 := dL_word ht (by decide) s.d
    rw [List.foldl_cons, stepL_deep of (by rw [e1]; exact hs), ih _ (by show 0 < dL _ t; rw [e1]; exact hs)]
    simp only [e1, LS.mk.injEq, true_and, and_true, List.length_cons]
    omega
  | @par t u r p ht g hu ih =>
    intro s hs
    have e1 := dL_open (.inl ht) s.d
    have e2 := dL_close (.inl hu) (s.d + 1)
    rw [List.foldl_cons, stepL_deep of (by rw [e1]; omega), List.foldl_append, ih _ (by show 0 < dL _ t; rw [e1]; omega), List.foldl_cons, List.foldl_nil, stepL_deep of (by show 0 < dL (dL _ t) u; rw [e1, e2]; omega)]
    simp only [e1, e2, LS.mk.injEq, List.length_cons, List.length_append, List.length_nil]
    exact ⟨end_close (.inl hu), by omega, by omega, trivial⟩
  | @size t u v r p ht hu g hv ih =>
    intro s hs
    have e0 := dL_word ht (by decide) s.d
    have e1 := dL_open (.inl hu) s.d
    have e2 := dL_close (.inl hv) (s.d + 1)
    rw [List.foldl_cons, stepL_deep of (by rw [e0]; omega), List.foldl_cons, stepL_deep of (by show 0 < dL (dL _ t) u; rw [e0, e1]; omega), List.foldl_append, ih _ (by show 0 < dL (dL _ t) u; rw [e0, e1]; omega), List.foldl_cons, List.foldl_nil, stepL_deep of (by show 0 < dL (dL (dL _ t) u) v; rw [e0, e1, e2]; omega)]
    simp only [e0, e1, e2, LS.mk.injEq, List.length_cons, List.length_append, List.length_nil]
    exact ⟨end_close (.inl hv), by omega, by omega, trivial⟩
  | @set t u c ht hc hu =>
    intro s hs
    have e1 := dL_open (.inr ht) s.d
    have e2 := dL_close (.inr hu) (s.d + 1)
    obtain ⟨pe, he⟩ := fold_sc of c hc ⟨endT t, s.d + 1, s.i + 1, s.acc⟩ (by show 0 < s.d + 1; omega)
    rw [List.foldl_cons, stepL_deep of (by rw [e1]; omega), e1, List.foldl_append, he, List.foldl_cons, List.foldl_nil, stepL_deep of (by show 0 < dL (s.d + 1) u; rw [e2]; omega)]
    simp only [e2, LS.mk.injEq, List.length_cons, List.length_append, List.length_nil]
    exact ⟨end_close (.inr hu), by omega, by omega, trivial⟩
  | @num t h | @text t h | @name t h =>
    intro s hs
    have e1 := dL_leaf (t := t) (by omega) (by omega) s.d
    rw [List.foldl_cons, List.foldl_nil, stepL_deep of (by rw [e1]; exact hs), e1, end_leaf (by omega) (by omega)]
    rfl
  | @tru t h =>
    intro s hs
    have e1 := dL_word h (by decide) s.d
    rw [List.foldl_cons, List.foldl_nil, stepL_deep of (by rw [e1]; exact hs), e1, end_true (.inl h)]
    rfl
  | @fls t h =>
    intro s hs
    have e1 := dL_word h (by decide) s.d
    rw [List.foldl_cons, List.foldl_nil, stepL_deep of (by rw [e1]; exact hs), e1, end_true (.inr h)]
    rfl

end Go.Proofs.YtcehablmloleaaaGreatDoor

namespace Go.Proofs.YtcehablmloleaaaGreatDoor
open Go.RowKit
set_option linter.unusedVariables false

theorem ops_other {k m : Nat} {t : Tok} {op : Int} (h : opOf k t = some op) (hk : m < k) : (opsL m).any (fun x => see x t) = false := by
  obtain ⟨s, h1, h2⟩ := opOf_see h
  refine any_no h2 (fun hm => ?_)
  have hs : s ∈ opsL k := List.mem_map.2 ⟨_, h1, rfl⟩
  have key : ∀ (a b : List (List UInt8)), (∀ x ∈ a, x ∉ b) → s ∈ a → s ∈ b → False := fun a b h ha hb => h s ha hb
  match k, m, hk with
  | 2, 1, _ => exact key (opsL 2) (opsL 1) (by decide) hs hm
  | 4, 1, _ => exact key (opsL 4) (opsL 1) (by decide) hs hm
  | 4, 2, _ => exact key (opsL 4) (opsL 2) (by decide) hs hm
  | 5, 1, _ => exact key (opsL 5) (opsL 1) (by decide) hs hm
  | 5, 2, _ => exact key (opsL 5) (opsL 2) (by decide) hs hm
  | 5, 4, _ => exact key (opsL 5) (opsL 4) (by decide) hs hm
  | 6, 1, _ => exact key (opsL 6) (opsL 1) (by decide) hs hm
  | 6, 2, _ => exact key (opsL 6) (opsL 2) (by decide) hs hm
  | 6, 4, _ => exact key (opsL 6) (opsL 4) (by decide) hs hm
  | 6, 5, _ => exact key (opsL 6) (opsL 5) (by decide) hs hm
  | _, 0, _ => cases hm
  | _, 3, _ => cases hm
  | 1, m + 1, h => omega
  | 3, _, _ => cases hs
  | k + 7, _, _ => cases hs

theorem ops_same {k : Nat} {t : Tok} {op : Int} (h : opOf k t = some op) : (opsL k).any (fun x => see x t) = true := by
  obtain ⟨s, h1, h2⟩ := opOf_see h
  exact List.any_eq_true.2 ⟨s, List.mem_map.2 ⟨_, h1, rfl⟩, h2⟩

theorem opsL_bars {k : Nat} {s : List UInt8} (h : s ∈ opsL k) : s ∉ [kLpar, kLbr, kRpar, kRbr, kTrue, kFalse, kIf, kThen, kElse, kNot, kSemi, kArrow] := by
  obtain ⟨⟨x, op⟩, h1, h2⟩ := List.mem_map.1 h
  rw [← h2]
  exact ops_bars h1

theorem G.flat (m : Nat) {k : Nat} {c : List Tok} {p : Pt} (g : G k c p) : 1 ≤ k → ∀ (s : LS), s.d = 0 → s.pe = false → ∃ acc, c.foldl (stepL (opsL m)) s = ⟨true, 0, s.i + c.length, acc⟩ ∧ (m < k → acc = s.acc) := by
  induction g with
  | up hk g ih =>
    intro h1 s hs hp
    obtain ⟨acc, e, ha⟩ := ih (by omega) s hs hp
    exact ⟨acc, e, fun h => ha (by omega)⟩
  | ite => intro h1; omega
  | @bin k l r t op pl pr hk gl ht gr il ir =>
    intro h1 s hs hp
    obtain ⟨e1, e2, e3⟩ := ops_word ht
    obtain ⟨acc, e, ha⟩ := il h1 s hs hp
    have es : stepL (opsL m) ⟨true, 0, s.i + l.length, acc⟩ t = ⟨false, 0, s.i + l.length + 1, if (opsL m).any (fun x => see x t) then s.i + l.length else acc⟩ := by
      rw [stepL, e1, e2, if_neg (by rintro (h | h); exact absurd h (Int.lt_irrefl 0); cases h)]
    obtain ⟨acc', e', ha'⟩ := ir (by omega) ⟨false, 0, s.i + l.length + 1, if (opsL m).any (fun x => see x t) then s.i + l.length else acc⟩ rfl rfl
    refine ⟨acc', ?_, fun h => ?_⟩
    · rw [List.foldl_append, e, List.foldl_cons, es, e']
      simp only [LS.mk.injEq, true_and, and_true, List.length_cons, List.length_append]
      omega
    · have := ha' (by omega)
      rw [ops_other ht h, if_neg (by decide), ha h] at this
      exact this
  | @cmp l r t op pl pr gl ht gr il ir =>
    intro h1 s hs hp
    obtain ⟨e1, e2, e3⟩ := ops_word ht
    obtain ⟨acc, e, ha⟩ := il (by omega) s hs hp
    have es : stepL (opsL m) ⟨true, 0, s.i + l.length, acc⟩ t = ⟨false, 0, s.i + l.length + 1, if (opsL m).any (fun x => see x t) then s.i + l.length else acc⟩ := by
      rw [stepL, e1, e2, if_neg (by rintro (h | h); exact absurd h (Int.lt_irrefl 0); cases h)]
    obtain ⟨acc', e', ha'⟩ := ir (by omega) ⟨false, 0, s.i + l.length + 1, if (opsL m).any (fun x => see x t) then s.i + l.length else acc⟩ rfl rfl
    refine ⟨acc', ?_, fun h => ?_⟩
    · rw [List.foldl_append, e, List.foldl_cons, es, e']
      simp only [LS.mk.injEq, true_and, and_true, List.length_cons, List.length_append]
      omega
    · have := ha' (by omega)
      rw [ops_other ht h, if_neg (by decide), ha (by omega)] at this
      exact this
  | @not t r p ht g ih =>
    intro h1 s hs hp
    have e1 := dL_word ht (by decide) s.d
    have e2 := end_word ht (by decide)
    obtain ⟨acc, e, ha⟩ := ih h1 ⟨false, 0, s.i + 1, s.acc⟩ rfl rfl
    refine ⟨acc, ?_, ha⟩
    rw [List.foldl_cons, stepL_first _ hp, e1, e2, hs, e]
    simp only [LS.mk.injEq, true_and, and_true, List.length_cons]
    omega
  | @neg t r p ht g ih =>
    intro h1 s hs hp
    have e1 := dL_word ht (by decide) s.d
    have e2 := end_word ht (by decide)
    obtain ⟨acc, e, ha⟩ := ih h1 ⟨false, 0, s.i + 1, s.acc⟩ rfl rfl
    refine ⟨acc, ?_, ha⟩
    rw [List.foldl_cons, stepL_first _ hp, e1, e2, hs, e]
    simp only [LS.mk.injEq, true_and, and_true, List.length_cons]
    omega
  | @par t u r p ht g hu ih =>
    intro h1 s hs hp
    have e1 := dL_open (.inl ht) s.d
    have e2 := dL_close (.inl hu) (s.d + 1)
    refine ⟨s.acc, ?_, fun _ => rfl⟩
    rw [List.foldl_cons, stepL_first _ hp, e1, List.foldl_append, g.deep (opsL m) _ (by show 0 < s.d + 1; omega), List.foldl_cons, List.foldl_nil, stepL_no _ hu (fun h => opsL_bars h (by decide))]
    simp only [e2, LS.mk.injEq, List.length_cons, List.length_append, List.length_nil]
    exact ⟨end_close (.inl hu), by omega, by omega, trivial⟩
  | @size t u v r p ht hu g hv ih =>
    intro h1 s hs hp
    have e0 := dL_word ht (by decide) s.d
    have e1 := dL_open (.inl hu) s.d
    have e2 := dL_close (.inl hv) (s.d + 1)
    refine ⟨s.acc, ?_, fun _ => rfl⟩
    rw [List.foldl_cons, stepL_first _ hp, e0, List.foldl_cons, stepL_deep _ (by show 0 < dL s.d u; rw [e1]; omega), List.foldl_append, g.deep (opsL m) _ (by show 0 < dL s.d u; rw [e1]; omega), List.foldl_cons, List.foldl_nil, stepL_no _ hv (fun h => opsL_bars h (by decide))]
    simp only [e1, e2, LS.mk.injEq, List.length_cons, List.length_append, List.length_nil]
    exact ⟨end_close (.inl hv), by omega, by omega, trivial⟩
  | @set t u c ht hc hu =>
    intro h1 s hs hp
    have e1 := dL_open (.inr ht) s.d
    have e2 := dL_close (.inr hu) (s.d + 1)
    obtain ⟨pe, he⟩ := fold_sc (opsL m) c hc ⟨endT t, s.d + 1, s.i + 1, s.acc⟩ (by show 0 < s.d + 1; omega)
    refine ⟨s.acc, ?_, fun _ => rfl⟩
    rw [List.foldl_cons, stepL_first _ hp, e1, List.foldl_append, he, List.foldl_cons, List.foldl_nil, stepL_no _ hu (fun h => opsL_bars h (by decide))]
    simp only [e2, LS.mk.injEq, List.length_cons, List.length_append, List.length_nil]
    exact ⟨end_close (.inr hu), by omega, by omega, trivial⟩
  | @num t h | @text t h | @name t h =>
    intro h1 s hs hp
    refine ⟨s.acc, ?_, fun _ => rfl⟩
    have e1 := dL_leaf (t := t) (by omega) (by omega) s.d
    rw [List.foldl_cons, List.foldl_nil, stepL_first _ hp, e1, end_leaf (by omega) (by omega), hs]
    rfl
  | @tru t h =>
    intro h1 s hs hp
    refine ⟨s.acc, ?_, fun _ => rfl⟩
    have e1 := dL_word h (by decide) s.d
    rw [List.foldl_cons, List.foldl_nil, stepL_first _ hp, e1, end_true (.inl h), hs]
    rfl
  | @fls t h =>
    intro h1 s hs hp
    refine ⟨s.acc, ?_, fun _ => rfl⟩
    have e1 := dL_word h (by decide) s.d
    rw [List.foldl_cons, List.foldl_nil, stepL_first _ hp, e1, end_true (.inr h), hs]
    rfl

/-- the last operator of a level among tokens that begin at a place -/
def lastR (m : Nat) (c : List Tok) (i : Int) : Int := (c.foldl (stepL (opsL m)) ⟨false, 0, i, -1⟩).acc

theorem G.last_no {m k : Nat} {c : List Tok} {p : Pt} (g : G k c p) (h : m < k) (i : Int) : lastR m c i = -1 := by
  obtain ⟨acc, e, ha⟩ := g.flat m (by omega) ⟨false, 0, i, -1⟩ rfl rfl
  rw [lastR, e]
  exact ha h

theorem G.last_at {m k k' : Nat} {l r : List Tok} {t : Tok} {op : Int} {pl pr : Pt} (gl : G k l pl) (hk : 1 ≤ k) (ht : opOf m t = some op) (gr : G k' r pr) (h : m < k') (i : Int) : lastR m (l ++ t :: r) i = i + l.length := by
  obtain ⟨acc, e, ha⟩ := gl.flat m hk ⟨false, 0, i, -1⟩ rfl rfl
  obtain ⟨e1, e2, e3⟩ := ops_word ht
  have es : stepL (opsL m) ⟨true, 0, i + l.length, acc⟩ t = ⟨false, 0, i + l.length + 1, i + l.length⟩ := by
    rw [stepL, e1, e2, if_neg (by rintro (h | h); exact absurd h (Int.lt_irrefl 0); cases h), ops_same ht]
    rfl
  obtain ⟨acc', e', ha'⟩ := gr.flat m (by omega) ⟨false, 0, i + l.length + 1, i + l.length⟩ rfl rfl
  rw [lastR, List.foldl_append, e, List.foldl_cons, es, e']
  exact ha' h

/-- how a tree of a level comes about -/
theorem G.cut0 {c : List Tok} {p : Pt} (g : G 0 c p) : (∃ t u v a b d pa pb pd, c = t :: (a ++ u :: (b ++ v :: d)) ∧ p = .ite t.at_ pa pb pd ∧ see kIf t = true ∧ see kThen u = true ∧ see kElse v = true ∧ G 0 a pa ∧ G 0 b pb ∧ G 0 d pd) ∨ G 1 c p := by
  cases g with
  | up hk g => exact .inr g
  | ite ht hu hv ga gb gd => exact .inl ⟨_, _, _, _, _, _, _, _, _, rfl, rfl, ht, hu, hv, ga, gb, gd⟩
  | bin hk => omega

theorem G.cutB {k : Nat} {c : List Tok} {p : Pt} (g : G k c p) (hk : k = 1 ∨ k = 2 ∨ k = 5 ∨ k = 6) : (∃ l t r op pl pr, c = l ++ t :: r ∧ p = .bin t.at_ op pl pr ∧ opOf k t = some op ∧ G k l pl ∧ G (k + 1) r pr) ∨ G (k + 1) c p := by
  cases g with
  | up hk g => exact .inr g
  | bin hk gl ht gr => exact .inl ⟨_, _, _, _, _, _, rfl, rfl, ht, gl, gr⟩
  | _ => omega

theorem G.cut3 {c : List Tok} {p : Pt} (g : G 3 c p) : (∃ t r q, c = t :: r ∧ p = .un t.at_ 9 q ∧ see kNot t = true ∧ G 3 r q) ∨ G 4 c p := by
  cases g with
  | up hk g => exact .inr g
  | not ht g => exact .inl ⟨_, _, _, rfl, rfl, ht, g⟩
  | bin hk => omega

theorem G.cut4 {c : List Tok} {p : Pt} (g : G 4 c p) : (∃ l t r op pl pr, c = l ++ t :: r ∧ p = .bin t.at_ op pl pr ∧ opOf 4 t = some op ∧ G 5 l pl ∧ G 5 r pr) ∨ G 5 c p := by
  cases g with
  | up hk g => exact .inr g
  | cmp gl ht gr => exact .inl ⟨_, _, _, _, _, _, rfl, rfl, ht, gl, gr⟩
  | bin hk => omega

theorem G.cut7 {c : List Tok} {p : Pt} (g : G 7 c p) : (∃ t r q, c = t :: r ∧ p = .un t.at_ 8 q ∧ see kMinus t = true ∧ G 7 r q) ∨ G 8 c p := by
  cases g with
  | up hk g => exact .inr g
  | neg ht g => exact .inl ⟨_, _, _, rfl, rfl, ht, g⟩
  | bin hk => omega

/-- the first token -/
theorem G.head {k : Nat} {c : List Tok} {p : Pt} (g : G k c p) : ∃ t r, c = t :: r ∧ (1 ≤ k → see kIf t = false) ∧ (4 ≤ k → see kNot t = false) ∧ (8 ≤ k → see kMinus t = false) := by
  induction g with
  | up hk g ih =>
    obtain ⟨t, r, e, h1, h2, h3⟩ := ih
    exact ⟨t, r, e, fun h => h1 (by omega), fun h => h2 (by omega), fun h => h3 (by omega)⟩
  | ite => exact ⟨_, _, rfl, fun h => by omega, fun h => by omega, fun h => by omega⟩
  | @bin k l r t op pl pr hk gl ht gr il ir =>
    obtain ⟨u, q, e, h1, h2, h3⟩ := il
    exact ⟨u, q ++ t :: r, by rw [e]; rfl, h1, h2, h3⟩
  | @cmp l r t op pl pr gl ht gr il ir =>
    obtain ⟨u, q, e, h1, h2, h3⟩ := il
    exact ⟨u, q ++ t :: r, by rw [e]; rfl, fun _ => h1 (by omega), fun _ => h2 (by omega), fun h => by omega⟩
  | not ht g => exact ⟨_, _, rfl, fun _ => see_ne ht (by decide), fun h => by omega, fun h => by omega⟩
  | neg ht g => exact ⟨_, _, rfl, fun _ => see_ne ht (by decide), fun _ => see_ne ht (by decide), fun h => by omega⟩
  | par ht g hu => exact ⟨_, _, rfl, fun _ => see_ne ht (by decide), fun _ => see_ne ht (by decide), fun _ => see_ne ht (by decide)⟩
  | size ht hu g hv => exact ⟨_, _, rfl, fun _ => see_ne ht (by decide), fun _ => see_ne ht (by decide), fun _ => see_ne ht (by decide)⟩
  | set ht hc hu => exact ⟨_, _, rfl, fun _ => see_ne ht (by decide), fun _ => see_ne ht (by decide), fun _ => see_ne ht (by decide)⟩
  | num h | text h | name h => exact ⟨_, _, rfl, fun _ => see_kind_no (by omega) (by omega), fun _ => see_kind_no (by omega) (by omega), fun _ => see_kind_no (by omega) (by omega)⟩
  | tru h | fls h => exact ⟨_, _, rfl, fun _ => see_ne h (by decide), fun _ => see_ne h (by decide), fun _ => see_ne h (by decide)⟩

/-- no tree holds these -/
theorem G.free {k : Nat} {c : List Tok} {p : Pt} (g : G k c p) : ∀ t ∈ c, see kSemi t = false ∧ see kArrow t = false := by
  induction g with
  | up hk g ih => exact ih
  | ite ht hu hv ga gb gd ia ib id =>
    intro x hx
    simp only [List.mem_cons, List.mem_append] at hx
    rcases hx with rfl | hx | rfl | hx | rfl | hx
    · exact ⟨see_ne ht (by decide), see_ne ht (by decide)⟩
    · exact ia x hx
    · exact ⟨see_ne hu (by decide), see_ne hu (by decide)⟩
    · exact ib x hx
    · exact ⟨see_ne hv (by decide), see_ne hv (by decide)⟩
    · exact id x hx
  | bin hk gl ht gr il ir =>
    intro x hx
    simp only [List.mem_cons, List.mem_append] at hx
    rcases hx with hx | rfl | hx
    · exact il x hx
    · have := (ops_word ht).2.2; exact ⟨this _ (by decide), this _ (by decide)⟩
    · exact ir x hx
  | cmp gl ht gr il ir =>
    intro x hx
    simp only [List.mem_cons, List.mem_append] at hx
    rcases hx with hx | rfl | hx
    · exact il x hx
    · have := (ops_word ht).2.2; exact ⟨this _ (by decide), this _ (by decide)⟩
    · exact ir x hx
  | not ht g ih | neg ht g ih =>
    intro x hx
    rcases List.mem_cons.1 hx with rfl | hx
    · exact ⟨see_ne ht (by decide), see_ne ht (by decide)⟩
    · exact ih x hx
  | par ht g hu ih =>
    intro x hx
    simp only [List.mem_cons, List.mem_append, List.mem_nil_iff, or_false] at hx
    rcases hx with rfl | hx | rfl
    · exact ⟨see_ne ht (by decide), see_ne ht (by decide)⟩
    · exact ih x hx
    · exact ⟨see_ne hu (by decide), see_ne hu (by decide)⟩
  | size ht hu g hv ih =>
    intro x hx
    simp only [List.mem_cons, List.mem_append, List.mem_nil_iff, or_false] at hx
    rcases hx with rfl | rfl | hx | rfl
    · exact ⟨see_ne ht (by decide), see_ne ht (by decide)⟩
    · exact ⟨see_ne hu (by decide), see_ne hu (by decide)⟩
    · exact ih x hx
    · exact ⟨see_ne hv (by decide), see_ne hv (by decide)⟩
  | set ht hc hu =>
    intro x hx
    simp only [List.mem_cons, List.mem_append, List.mem_nil_iff, or_false] at hx
    rcases hx with rfl | hx | rfl
    · exact ⟨see_ne ht (by decide), see_ne ht (by decide)⟩
    · rcases hc x hx with e | e
      · exact ⟨see_kind_no (by omega) (by omega), see_kind_no (by omega) (by omega)⟩
      · exact ⟨see_ne e (by decide), see_ne e (by decide)⟩
    · exact ⟨see_ne hu (by decide), see_ne hu (by decide)⟩
  | num h | text h | name h =>
    intro x hx
    rw [List.mem_singleton.1 hx]
    exact ⟨see_kind_no (by omega) (by omega), see_kind_no (by omega) (by omega)⟩
  | tru h | fls h =>
    intro x hx
    rw [List.mem_singleton.1 hx]
    exact ⟨see_ne h (by decide), see_ne h (by decide)⟩

/-- where the word comes that belongs to an if -/
def matR (w : List UInt8) : List Tok → Int → Int → Int → Int
  | [], _, _, i => i
  | t :: r, o, d, i => if see kLpar t then matR w r o (d + 1) (i + 1) else if see kRpar t then matR w r o (d - 1) (i + 1) else if d = 0 ∧ see kIf t = true then matR w r (o + 1) d (i + 1)
    else if d = 0 ∧ see w t = true then (if o - 1 = 0 then i else matR w r (o - 1) d (i + 1)) else matR w r o d (i + 1)

theorem mat_skip {w s : List UInt8} {t : Tok} (h : see s t = true) (hs : s ∉ [kLpar, kRpar, kIf, w]) (r : List Tok) (o d i : Int) : matR w (t :: r) o d i = matR w r o d (i + 1) := by
  have e1 := see_ne h (s' := kLpar) (fun e => hs (by rw [e]; simp))
  have e2 := see_ne h (s' := kRpar) (fun e => hs (by rw [e]; simp))
  have e3 := see_ne h (s' := kIf) (fun e => hs (by rw [e]; simp))
  have e4 := see_ne h (s' := w) (fun e => hs (by rw [e]; simp))
  rw [matR, e1, e2, e3, e4]
  simp

theorem mat_leaf {w : List UInt8} {t : Tok} (h4 : t.kind ≠ 4) (h5 : t.kind ≠ 5) (r : List Tok) (o d i : Int) : matR w (t :: r) o d i = matR w r o d (i + 1) := by
  rw [matR, see_kind_no h4 h5, see_kind_no h4 h5, see_kind_no h4 h5, see_kind_no h4 h5]
  simp

theorem mat_open {w : List UInt8} {t : Tok} (h : see kLpar t = true) (r : List Tok) (o d i : Int) : matR w (t :: r) o d i = matR w r o (d + 1) (i + 1) := by
  rw [matR, if_pos h]

theorem mat_close {w : List UInt8} {t : Tok} (h : see kRpar t = true) (r : List Tok) (o d i : Int) : matR w (t :: r) o d i = matR w r o (d - 1) (i + 1) := by
  rw [matR, see_ne h (s' := kLpar) (by decide), if_neg (by decide), if_pos h]

theorem mat_if {w : List UInt8} {t : Tok} (h : see kIf t = true) (hw : w ≠ kIf) (r : List Tok) (o d i : Int) : matR w (t :: r) o d i = matR w r (if d = 0 then o + 1 else o) d (i + 1) := by
  rw [matR, see_ne h (s' := kLpar) (by decide), see_ne h (s' := kRpar) (by decide), if_neg (by decide), if_neg (by decide), see_ne h (s' := w) (fun e => hw e.symm)]
  by_cases hd : d = 0
  · rw [if_pos ⟨hd, h⟩, if_pos hd]
  · rw [if_neg (fun e => hd e.1), if_neg (fun e => hd e.1), if_neg hd]

theorem mat_word {w : List UInt8} {t : Tok} (h : see w t = true) (hw : w ∉ [kLpar, kRpar, kIf]) (r : List Tok) (o d i : Int) (ho : d = 0 → 2 ≤ o) : matR w (t :: r) o d i = matR w r (if d = 0 then o - 1 else o) d (i + 1) := by
  have e1 := see_ne h (s' := kLpar) (fun e => hw (by rw [e]; simp))
  have e2 := see_ne h (s' := kRpar) (fun e => hw (by rw [e]; simp))
  have e3 := see_ne h (s' := kIf) (fun e => hw (by rw [e]; simp))
  rw [matR, e1, e2, e3, if_neg (by decide), if_neg (by decide), if_neg (fun e => by cases e.2)]
  by_cases hd : d = 0
  · have := ho hd
    rw [if_pos ⟨hd, h⟩, if_pos hd, if_neg (by omega)]
  · rw [if_neg (fun e => hd e.1), if_neg hd]

theorem mat_hit {w : List UInt8} {t : Tok} (h : see w t = true) (hw : w ∉ [kLpar, kRpar, kIf]) (r : List Tok) (i : Int) : matR w (t :: r) 1 0 i = i := by
  have e1 := see_ne h (s' := kLpar) (fun e => hw (by rw [e]; simp))
  have e2 := see_ne h (s' := kRpar) (fun e => hw (by rw [e]; simp))
  have e3 := see_ne h (s' := kIf) (fun e => hw (by rw [e]; simp))
  rw [matR, e1, e2, e3, if_neg (by decide), if_neg (by decide), if_neg (fun e => by cases e.2), if_pos ⟨rfl, h⟩, if_pos (by decide)]

theorem mat_sc (w : List UInt8) (hw : w = kThen ∨ w = kElse) : ∀ (c : List Tok), (∀ x ∈ c, scT x) → ∀ (r : List Tok) (o d i : Int), matR w (c ++ r) o d i = matR w r o d (i + c.length)
  | [], _, r, o, d, i => by simp
  | t :: c, h, r, o, d, i => by
    have hh := mat_sc w hw c (fun x hx => h x (List.mem_cons_of_mem _ hx)) r o d (i + 1)
    have e : matR w (t :: (c ++ r)) o d i = matR w (c ++ r) o d (i + 1) := by
      rcases h t (List.mem_cons_self ..) with e | e
      · exact mat_leaf (by omega) (by omega) _ _ _ _
      · exact mat_skip e (by rcases hw with rfl | rfl <;> decide) _ _ _ _
    rw [List.cons_append, e, hh, List.length_cons]
    congr 1
    omega

theorem mat_op {w : List UInt8} (hw : w = kThen ∨ w = kElse) {k : Nat} {t : Tok} {op : Int} (h : opOf k t = some op) (r : List Tok) (o d i : Int) : matR w (t :: r) o d i = matR w r o d (i + 1) := by
  obtain ⟨s, h1, h2⟩ := opOf_see h
  refine mat_skip h2 (fun hm => ops_bars h1 ?_) r o d i
  rcases hw with rfl | rfl <;> (simp only [List.mem_cons, List.mem_nil_iff, or_false] at hm ⊢; grind)

/-- a tree is passed by -/
theorem G.mat {w : List UInt8} (hw : w = kThen ∨ w = kElse) {k : Nat} {c : List Tok} {p : Pt} (g : G k c p) : ∀ (r : List Tok) (o d i : Int), 1 ≤ o → 0 ≤ d → matR w (c ++ r) o d i = matR w r o d (i + c.length) := by
  have w1 : w ≠ kIf := by rcases hw with rfl | rfl <;> decide
  have w2 : w ∉ [kLpar, kRpar, kIf] := by rcases hw with rfl | rfl <;> decide
  induction g with
  | up hk g ih => exact ih
  | @ite t u v a b e pa pb pd ht hu hv ga gb gd ia ib id =>
    intro r o d i ho hd
    have e0 : (t :: (a ++ u :: (b ++ v :: e))) ++ r = t :: (a ++ (u :: (b ++ (v :: (e ++ r))))) := by simp
    rw [e0, mat_if ht w1]
    have ho' : 1 ≤ (if d = 0 then o + 1 else o) := by split <;> omega
    rw [ia _ _ _ _ ho' hd]
    rcases hw with rfl | rfl
    · rw [mat_word hu (by decide) _ _ _ _ (fun h => by rw [if_pos h]; omega)]
      have e1 : (if d = 0 then (if d = 0 then o + 1 else o) - 1 else (if d = 0 then o + 1 else o)) = o := by split <;> omega
      rw [e1, ib _ _ _ _ ho hd, mat_skip hv (by decide), id _ _ _ _ ho hd]
      congr 1
      simp only [List.length_cons, List.length_append]; omega
    · rw [mat_skip hu (by decide), ib _ _ _ _ ho' hd, mat_word hv (by decide) _ _ _ _ (fun h => by rw [if_pos h]; omega)]
      have e1 : (if d = 0 then (if d = 0 then o + 1 else o) - 1 else (if d = 0 then o + 1 else o)) = o := by split <;> omega
      rw [e1, id _ _ _ _ ho hd]
      congr 1
      simp only [List.length_cons, List.length_append]; omega
  | @bin k l q t op pl pr hk gl ht gr il ir =>
    intro r o d i ho hd
    rw [List.append_assoc, List.cons_append, il _ _ _ _ ho hd, mat_op hw ht, ir _ _ _ _ ho hd]
    congr 1
    simp only [List.length_cons, List.length_append]; omega
  | @cmp l q t op pl pr gl ht gr il ir =>
    intro r o d i ho hd
    rw [List.append_assoc, List.cons_append, il _ _ _ _ ho hd, mat_op hw ht, ir _ _ _ _ ho hd]
    congr 1
    simp only [List.length_cons, List.length_append]; omega
  | @not t q p ht g ih =>
    intro r o d i ho hd
    rw [List.cons_append, mat_skip ht (by rcases hw with rfl | rfl <;> decide), ih _ _ _ _ ho hd]
    congr 1
    simp only [List.length_cons]; omega
  | @neg t q p ht g ih =>
    intro r o d i ho hd
    rw [List.cons_append, mat_skip ht (by rcases hw with rfl | rfl <;> decide), ih _ _ _ _ ho hd]
    congr 1
    simp only [List.length_cons]; omega
  | @par t u q p ht g hu ih =>
    intro r o d i ho hd
    rw [List.cons_append, List.append_assoc, mat_open ht, ih _ _ _ _ ho (by omega), List.cons_append, List.nil_append, mat_close hu, show d + 1 - 1 = d by omega]
    congr 1
    simp only [List.length_cons, List.length_append, List.length_nil]; omega
  | @size t u v q p ht hu g hv ih =>
    intro r o d i ho hd
    rw [List.cons_append, List.cons_append, List.append_assoc, mat_skip ht (by rcases hw with rfl | rfl <;> decide), mat_open hu, ih _ _ _ _ ho (by omega), List.cons_append, List.nil_append, mat_close hv, show d + 1 - 1 = d by omega]
    congr 1
    simp only [List.length_cons, List.length_append, List.length_nil]; omega
  | @set t u c ht hc hu =>
    intro r o d i ho hd
    rw [List.cons_append, List.append_assoc, mat_skip ht (by rcases hw with rfl | rfl <;> decide), mat_sc w hw c hc, List.cons_append, List.nil_append, mat_skip hu (by rcases hw with rfl | rfl <;> decide)]
    congr 1
    simp only [List.length_cons, List.length_append, List.length_nil]; omega
  | num h | text h | name h =>
    intro r o d i ho hd
    exact mat_leaf (by omega) (by omega) r o d i
  | tru h | fls h =>
    intro r o d i ho hd
    exact mat_skip h (by rcases hw with rfl | rfl <;> decide) r o d i

end Go.Proofs.YtcehablmloleaaaGreatDoor

namespace Go.Proofs.YtcehablmloleaaaGreatDoor
open Go.RowKit
set_option linter.unusedVariables false

/-- a statement as it is read -/
structure Ps where
  at_ : Nat
  kind : Int
  name : ByteArray
  cond : Option Pt
  grant : Option Pt

inductive DR where
  | ok (g : Option Pt) (r : List Tok)
  | bad (r : List Tok)

def DR.rest : DR → List Tok
  | .ok _ r => r
  | .bad r => r

/-- a decision behind a word -/
inductive DD (s : List UInt8) : List Tok → DR → Prop
  | no {ts : List Tok} (h : sees s ts = false) : DD s ts (.bad ts)
  | deny {t u : Tok} {r : List Tok} (h : see s t = true) (hu : see kDeny u = true) : DD s (t :: u :: r) (.ok none r)
  | grant {t : Tok} {r q : List Tok} {e : Pt} (h : see s t = true) (hu : sees kDeny r = false) (d : D (.beh kGrant) r (.ok e q)) : DD s (t :: r) (.ok (some e) q)
  | grant_bad {t : Tok} {r q : List Tok} (h : see s t = true) (hu : sees kDeny r = false) (d : D (.beh kGrant) r (.bad q)) : DD s (t :: r) (.bad q)

inductive SR where
  | ok (s : Ps) (r : List Tok)
  | bad (r : List Tok)

def SR.rest : SR → List Tok
  | .ok _ r => r
  | .bad r => r

inductive DS : List Tok → SR → Prop
  | let_nil {t : Tok} (h : see kLet t = true) : DS [t] (.bad [])
  | let_no {t n : Tok} {r : List Tok} (h : see kLet t = true) (hn : n.kind ≠ 3) : DS (t :: n :: r) (.bad (n :: r))
  | let_bad {t n : Tok} {r q : List Tok} (h : see kLet t = true) (hn : n.kind = 3) (d : D (.beh kEq) r (.bad q)) : DS (t :: n :: r) (.bad q)
  | let_end {t n : Tok} {r q : List Tok} {e : Pt} (h : see kLet t = true) (hn : n.kind = 3) (d : D (.beh kEq) r (.ok e q)) (hq : sees kSemi q = false) : DS (t :: n :: r) (.bad q)
  | let_ {t n u : Tok} {r q : List Tok} {e : Pt} (h : see kLet t = true) (hn : n.kind = 3) (d : D (.beh kEq) r (.ok e (u :: q))) (hq : see kSemi u = true) : DS (t :: n :: r) (.ok ⟨t.at_, 1, n.text, some e, none⟩ q)
  | when_bad {t : Tok} {r q : List Tok} (h : see kWhen t = true) (d : D (.beh kWhen) (t :: r) (.bad q)) : DS (t :: r) (.bad q)
  | when_bad2 {t : Tok} {r q p : List Tok} {e : Pt} (h : see kWhen t = true) (d : D (.beh kWhen) (t :: r) (.ok e q)) (d2 : DD kArrow q (.bad p)) : DS (t :: r) (.bad p)
  | when_end {t : Tok} {r q p : List Tok} {e : Pt} {g : Option Pt} (h : see kWhen t = true) (d : D (.beh kWhen) (t :: r) (.ok e q)) (d2 : DD kArrow q (.ok g p)) (hq : sees kSemi p = false) : DS (t :: r) (.bad p)
  | when {t u : Tok} {r q p : List Tok} {e : Pt} {g : Option Pt} (h : see kWhen t = true) (d : D (.beh kWhen) (t :: r) (.ok e q)) (d2 : DD kArrow q (.ok g (u :: p))) (hq : see kSemi u = true) : DS (t :: r) (.ok ⟨t.at_, 2, ofL [], some e, g⟩ p)
  | else_bad {t : Tok} {r q : List Tok} (h : see kElse t = true) (d : DD kElse (t :: r) (.bad q)) : DS (t :: r) (.bad q)
  | else_end {t : Tok} {r q : List Tok} {g : Option Pt} (h : see kElse t = true) (d : DD kElse (t :: r) (.ok g q)) (hq : sees kSemi q = false) : DS (t :: r) (.bad q)
  | else_ {t u : Tok} {r q : List Tok} {g : Option Pt} (h : see kElse t = true) (d : DD kElse (t :: r) (.ok g (u :: q))) (hq : see kSemi u = true) : DS (t :: r) (.ok ⟨t.at_, 3, ofL [], none, g⟩ q)
  | none {ts : List Tok} (h1 : sees kLet ts = false) (h2 : sees kWhen ts = false) (h3 : sees kElse ts = false) : DS ts (.bad ts)

inductive QR where
  | ok (S : List Ps)
  | bad (r : List Tok)

def QR.res : QR → Option (List Tok)
  | .ok _ => none
  | .bad q => some q

def QR.cons (s : Ps) : QR → QR
  | .ok S => .ok (s :: S)
  | .bad r => .bad r

inductive DP : List Tok → QR → Prop
  | bad {ts q : List Tok} (d : DS ts (.bad q)) : DP ts (.bad q)
  | more {ts r : List Tok} {s : Ps} {x : QR} (d : DS ts (.ok s r)) (hk : s.kind ≠ 3) (d2 : DP r x) : DP ts (x.cons s)
  | last {ts : List Tok} {s : Ps} (d : DS ts (.ok s [])) (hk : s.kind = 3) : DP ts (.ok [s])
  | over {ts r : List Tok} {t : Tok} {s : Ps} (d : DS ts (.ok s (t :: r))) (hk : s.kind = 3) : DP ts (.bad (t :: r))

theorem D.any (nt : NT) (ts : List Tok) (h : nt.good) : ∃ x, D nt ts x := D.total _ nt ts h (Nat.le_refl _)

theorem DD.total (s : List UInt8) (ts : List Tok) : ∃ x, DD s ts x := by
  cases h : sees s ts
  · exact ⟨_, .no h⟩
  · cases ts with
    | nil => cases h
    | cons t r =>
      cases hd : sees kDeny r
      · obtain ⟨x, d⟩ := D.any (.beh kGrant) r trivial
        cases x with
        | ok e q => exact ⟨_, .grant h hd d⟩
        | bad q => exact ⟨_, .grant_bad h hd d⟩
      · cases r with
        | nil => cases hd
        | cons u r => exact ⟨_, .deny h hd⟩

theorem DS.total (ts : List Tok) : ∃ x, DS ts x := by
  cases h1 : sees kLet ts
  case true =>
    cases ts with
    | nil => cases h1
    | cons t r =>
      cases r with
      | nil => exact ⟨_, .let_nil h1⟩
      | cons n r =>
        by_cases hn : n.kind = 3
        · obtain ⟨x, d⟩ := D.any (.beh kEq) r trivial
          cases x with
          | bad q => exact ⟨_, .let_bad h1 hn d⟩
          | ok e q =>
            cases hq : sees kSemi q
            · exact ⟨_, .let_end h1 hn d hq⟩
            · cases q with
              | nil => cases hq
              | cons u q => exact ⟨_, .let_ h1 hn d hq⟩
        · exact ⟨_, .let_no h1 hn⟩
  cases h2 : sees kWhen ts
  case true =>
    cases ts with
    | nil => cases h2
    | cons t r =>
      obtain ⟨x, d⟩ := D.any (.beh kWhen) (t :: r) trivial
      cases x with
      | bad q => exact ⟨_, .when_bad h2 d⟩
      | ok e q =>
        obtain ⟨y, d2⟩ := DD.total kArrow q
        cases y with
        | bad p => exact ⟨_, .when_bad2 h2 d d2⟩
        | ok g p =>
          cases hq : sees kSemi p
          · exact ⟨_, .when_end h2 d d2 hq⟩
          · cases p with
            | nil => cases hq
            | cons u p => exact ⟨_, .when h2 d d2 hq⟩
  cases h3 : sees kElse ts
  case true =>
    cases ts with
    | nil => cases h3
    | cons t r =>
      obtain ⟨y, d2⟩ := DD.total kElse (t :: r)
      cases y with
      | bad p => exact ⟨_, .else_bad h3 d2⟩
      | ok g p =>
        cases hq : sees kSemi p
        · exact ⟨_, .else_end h3 d2 hq⟩
        · cases p with
          | nil => cases hq
          | cons u p => exact ⟨_, .else_ h3 d2 hq⟩
  exact ⟨_, .none h1 h2 h3⟩

theorem DD.suf {s : List UInt8} {ts : List Tok} {x : DR} (d : DD s ts x) : ∃ c, ts = c ++ x.rest ∧ (∀ g r, x = .ok g r → c ≠ []) := by
  cases d with
  | no h => exact ⟨[], rfl, fun _ _ h => by cases h⟩
  | @deny t u r h hu => exact ⟨[t, u], rfl, fun _ _ _ => by simp⟩
  | @grant t r q e h hu d => obtain ⟨c, hc, _⟩ := d.suf; exact ⟨t :: c, by rw [hc]; rfl, fun _ _ _ => by simp⟩
  | @grant_bad t r q h hu d => obtain ⟨c, hc, _⟩ := d.suf; exact ⟨t :: c, by rw [hc]; rfl, fun _ _ h => by cases h⟩

theorem DS.suf {ts : List Tok} {x : SR} (d : DS ts x) : ∃ c, ts = c ++ x.rest ∧ (∀ g r, x = .ok g r → c ≠ []) := by
  cases d with
  | @let_nil t h => exact ⟨[t], rfl, fun _ _ h => by cases h⟩
  | @let_no t n r h hn => exact ⟨[t], rfl, fun _ _ h => by cases h⟩
  | @let_bad t n r q h hn d => obtain ⟨c, hc, _⟩ := d.suf; exact ⟨t :: n :: c, by rw [hc]; rfl, fun _ _ h => by cases h⟩
  | @let_end t n r q e h hn d hq => obtain ⟨c, hc, _⟩ := d.suf; exact ⟨t :: n :: c, by rw [hc]; rfl, fun _ _ h => by cases h⟩
  | @let_ t n u r q e h hn d hq => obtain ⟨c, hc, _⟩ := d.suf; exact ⟨t :: n :: (c ++ [u]), by rw [hc]; simp [PR.rest, SR.rest], fun _ _ _ => by simp⟩
  | @when_bad t r q h d => obtain ⟨c, hc, _⟩ := d.suf; exact ⟨c, hc, fun _ _ h => by cases h⟩
  | @when_bad2 t r q p e h d d2 => obtain ⟨c, hc, _⟩ := d.suf; obtain ⟨c2, hc2, _⟩ := d2.suf; dsimp only [PR.rest, DR.rest, SR.rest] at *; exact ⟨c ++ c2, by rw [List.append_assoc, ← hc2]; exact hc, fun _ _ h => by cases h⟩
  | @when_end t r q p e g h d d2 hq => obtain ⟨c, hc, _⟩ := d.suf; obtain ⟨c2, hc2, _⟩ := d2.suf; dsimp only [PR.rest, DR.rest, SR.rest] at *; exact ⟨c ++ c2, by rw [List.append_assoc, ← hc2]; exact hc, fun _ _ h => by cases h⟩
  | @when t u r q p e g h d d2 hq => obtain ⟨c, hc, hn⟩ := d.suf; obtain ⟨c2, hc2, _⟩ := d2.suf; exact ⟨c ++ (c2 ++ [u]), by rw [hc]; simp only [List.append_assoc]; congr 1, fun _ _ _ h => hn _ _ rfl rfl (List.append_eq_nil_iff.1 h).1⟩
  | @else_bad t r q h d => obtain ⟨c, hc, _⟩ := d.suf; exact ⟨c, hc, fun _ _ h => by cases h⟩
  | @else_end t r q g h d hq => obtain ⟨c, hc, _⟩ := d.suf; exact ⟨c, hc, fun _ _ h => by cases h⟩
  | @else_ t u r q g h d hq => obtain ⟨c, hc, _⟩ := d.suf; exact ⟨c ++ [u], by rw [hc]; simp [DR.rest, SR.rest], fun _ _ _ => by simp⟩
  | none h1 h2 h3 => exact ⟨[], rfl, fun _ _ h => by cases h⟩

theorem DP.total : ∀ (n : Nat) (ts : List Tok), ts.length ≤ n → ∃ x, DP ts x
  | n, ts, hn => by
    obtain ⟨x, d⟩ := DS.total ts
    cases x with
    | bad q => exact ⟨_, .bad d⟩
    | ok s r =>
      by_cases hk : s.kind = 3
      · cases r with
        | nil => exact ⟨_, .last d hk⟩
        | cons t r => exact ⟨_, .over d hk⟩
      · obtain ⟨c, hc, hne⟩ := d.suf
        have h1 : 0 < c.length := List.length_pos_iff.2 (hne _ _ rfl)
        have h2 : ts.length = c.length + r.length := by rw [hc, List.length_append]; rfl
        match n with
        | 0 => omega
        | n + 1 =>
          obtain ⟨y, d2⟩ := DP.total n r (by omega)
          exact ⟨_, .more d hk d2⟩

/-- the stack goes so -/
theorem DD.run {s : List UInt8} {ts : List Tok} {x : DR} (d : DD s ts x) (hs : s ∈ allW) (ho : ∀ t ∈ ts, okTk t) (st : List Sy) (res : Option (List Tok)) (h1 : ∀ q, x = .bad q → res = some q) (h2 : ∀ g r, x = .ok g r → Ru st r res) : Ru (.t s :: .decision :: st) ts res := by
  cases d with
  | no h => rw [h1 _ rfl]; exact .term_no (tkh_no ho hs h)
  | @deny t u r h hu =>
    have e2 := tk_see (ho u (by simp)) (by decide) hu
    exact .term (tk_see (ho t (by simp)) hs h) (.exp (m := [.t kDeny]) (by show expandS .decision (tk u) = _; rw [e2]; rfl) (.term e2 (h2 _ _ rfl)))
  | @grant t r q e h hu d =>
    have hr : ∀ u ∈ r, okTk u := fun u hu => ho u (by simp [hu])
    refine .term (tk_see (ho t (by simp)) hs h) ?_
    have hd : Ru ([Sy.t kGrant, Sy.expr] ++ st) r res := d.run (show kGrant ∈ allW by decide) hr st res (h2 _ _ rfl)
    by_cases hg : tkh r = kGrant
    · exact .exp (m := [.t kGrant, .expr]) (if_pos hg) hd
    · exfalso
      obtain ⟨t1, c, hc, hs1, _⟩ := d.tree trivial _ _ rfl
      refine hg ?_
      rw [hc]
      exact tk_see (hr t1 (by rw [hc]; simp)) (by decide) hs1
  | @grant_bad t r q h hu d =>
    have hr : ∀ u ∈ r, okTk u := fun u hu => ho u (by simp [hu])
    refine .term (tk_see (ho t (by simp)) hs h) ?_
    have hd : Ru ([Sy.t kGrant, Sy.expr] ++ st) r res := d.run (show kGrant ∈ allW by decide) hr st res (h1 _ rfl)
    by_cases hg : tkh r = kGrant
    · exact .exp (m := [.t kGrant, .expr]) (if_pos hg) hd
    · refine .exp (m := [.t kDeny]) (if_neg hg) ?_
      have e : q = r := by
        cases d with
        | beh_no h => rfl
        | @beh _ t1 r1 _ h1' d1 => exact absurd (tk_see (hr t1 (by simp)) (by decide) h1') hg
      rw [h1 _ rfl, e]
      exact .term_no (tkh_no hr (by decide) hu)

theorem okTk_app {c r : List Tok} (h : ∀ t ∈ c ++ r, okTk t) : ∀ t ∈ r, okTk t := fun t ht => h t (List.mem_append_right _ ht)

theorem DS.run {ts : List Tok} {x : SR} (d : DS ts x) (ho : ∀ t ∈ ts, okTk t) (res : Option (List Tok)) (h1 : ∀ q, x = .bad q → res = some q) (h2 : ∀ s r, x = .ok s r → Ru (if s.kind = 3 then [] else [.policy]) r res) : Ru [.policy] ts res := by
  have eL : expandS .policy kLet = some [.t kLet, .t kNAME, .t kEq, .expr, .t kSemi, .policy] := rfl
  have eW : expandS .policy kWhen = some [.t kWhen, .expr, .t kArrow, .decision, .t kSemi, .policy] := rfl
  have eE : expandS .policy kElse = some [.t kElse, .decision, .t kSemi] := rfl
  have nN : ∀ n : Tok, okTk n → n.kind ≠ 3 → tk n ≠ kNAME := fun n hn hk e => by
    rcases hn with h | h | h | ⟨h, h'⟩
    · rw [tk, if_pos h] at e; revert e; decide
    · rw [tk, if_neg (by omega), if_pos h] at e; revert e; decide
    · exact hk h
    · have : tk n = toL n.text := by rcases h with h | h <;> simp [tk, h]
      rw [← this, e] at h'; revert h'; decide
  cases d with
  | @let_nil t h =>
    have e1 := tk_see (ho t (by simp)) (by decide) h
    have h3 : Ru [.t kNAME, .t kEq, .expr, .t kSemi, .policy] [] res := by rw [h1 _ rfl]; exact .term_no (by decide)
    exact .exp (by show expandS .policy (tk t) = _; rw [e1]; exact eL) (.term e1 h3)
  | @let_no t n r h hn =>
    have e1 := tk_see (ho t (by simp)) (by decide) h
    have h3 : Ru [.t kNAME, .t kEq, .expr, .t kSemi, .policy] (n :: r) res := by rw [h1 _ rfl]; exact .term_no (nN n (ho n (by simp)) hn)
    exact .exp (by show expandS .policy (tk t) = _; rw [e1]; exact eL) (.term e1 h3)
  | @let_bad t n r q h hn d =>
    have e1 := tk_see (ho t (by simp)) (by decide) h
    have e2 : tk n = kNAME := by rw [tk, hn]; rfl
    have hd : Ru ([Sy.t kEq, Sy.expr] ++ [.t kSemi, .policy]) r res := d.run (show kEq ∈ allW by decide) (fun u hu => ho u (by simp [hu])) _ _ (h1 _ rfl)
    exact .exp (by show expandS .policy (tk t) = _; rw [e1]; exact eL) (.term e1 (.term e2 hd))
  | @let_end t n r q e h hn d hq =>
    have e1 := tk_see (ho t (by simp)) (by decide) h
    have e2 : tk n = kNAME := by rw [tk, hn]; rfl
    have hr : ∀ u ∈ r, okTk u := fun u hu => ho u (by simp [hu])
    have hd : Ru ([Sy.t kEq, Sy.expr] ++ [.t kSemi, .policy]) r res := d.run (show kEq ∈ allW by decide) hr _ _ (by
      show Ru _ q res
      rw [h1 _ rfl]
      exact .term_no (tkh_no (okTk_suf d hr) (by decide) hq))
    exact .exp (by show expandS .policy (tk t) = _; rw [e1]; exact eL) (.term e1 (.term e2 hd))
  | @let_ t n u r q e h hn d hq =>
    have e1 := tk_see (ho t (by simp)) (by decide) h
    have e2 : tk n = kNAME := by rw [tk, hn]; rfl
    have hr : ∀ u ∈ r, okTk u := fun u hu => ho u (by simp [hu])
    have hu := okTk_suf d hr u (by simp [PR.rest])
    have hd : Ru ([Sy.t kEq, Sy.expr] ++ [.t kSemi, .policy]) r res := d.run (show kEq ∈ allW by decide) hr _ _ (by
      show Ru _ (u :: q) res
      exact .term (tk_see hu (by decide) hq) (h2 _ _ rfl))
    exact .exp (by show expandS .policy (tk t) = _; rw [e1]; exact eL) (.term e1 (.term e2 hd))
  | @when_bad t r q h d =>
    have e1 := tk_see (ho t (by simp)) (by decide) h
    have hd : Ru ([Sy.t kWhen, Sy.expr] ++ [.t kArrow, .decision, .t kSemi, .policy]) (t :: r) res := d.run (show kWhen ∈ allW by decide) ho _ _ (h1 _ rfl)
    exact .exp (by show expandS .policy (tk t) = _; rw [e1]; exact eW) hd
  | @when_bad2 t r q p e h d d2 =>
    have e1 := tk_see (ho t (by simp)) (by decide) h
    have hq := okTk_suf d ho
    have h3 : Ru (.t kArrow :: .decision :: [.t kSemi, .policy]) q res := d2.run (by decide) hq _ _ (fun _ e => h1 _ (by cases e; rfl)) (fun _ _ e => by cases e)
    have hd : Ru ([Sy.t kWhen, Sy.expr] ++ [.t kArrow, .decision, .t kSemi, .policy]) (t :: r) res := d.run (show kWhen ∈ allW by decide) ho _ _ h3
    exact .exp (by show expandS .policy (tk t) = _; rw [e1]; exact eW) hd
  | @when_end t r q p e g h d d2 hq =>
    have e1 := tk_see (ho t (by simp)) (by decide) h
    have hoq : ∀ u ∈ q, okTk u := okTk_suf d ho
    have hop : ∀ u ∈ p, okTk u := by obtain ⟨c, hc, _⟩ := d2.suf; rw [hc] at hoq; exact okTk_app hoq
    have h3 : Ru (.t kArrow :: .decision :: [.t kSemi, .policy]) q res := d2.run (by decide) hoq _ _ (fun _ e => by cases e) (fun _ _ e => by cases e; rw [h1 _ rfl]; exact .term_no (tkh_no hop (by decide) hq))
    have hd : Ru ([Sy.t kWhen, Sy.expr] ++ [.t kArrow, .decision, .t kSemi, .policy]) (t :: r) res := d.run (show kWhen ∈ allW by decide) ho _ _ h3
    exact .exp (by show expandS .policy (tk t) = _; rw [e1]; exact eW) hd
  | @when t u r q p e g h d d2 hq =>
    have e1 := tk_see (ho t (by simp)) (by decide) h
    have hoq : ∀ u ∈ q, okTk u := okTk_suf d ho
    have hop : ∀ x ∈ u :: p, okTk x := by obtain ⟨c, hc, _⟩ := d2.suf; rw [hc] at hoq; exact okTk_app hoq
    have h3 : Ru (.t kArrow :: .decision :: [.t kSemi, .policy]) q res := d2.run (by decide) hoq _ _ (fun _ e => by cases e) (fun _ _ e => by cases e; exact .term (tk_see (hop u (by simp)) (by decide) hq) (h2 _ _ rfl))
    have hd : Ru ([Sy.t kWhen, Sy.expr] ++ [.t kArrow, .decision, .t kSemi, .policy]) (t :: r) res := d.run (show kWhen ∈ allW by decide) ho _ _ h3
    exact .exp (by show expandS .policy (tk t) = _; rw [e1]; exact eW) hd
  | @else_bad t r q h d =>
    have e1 := tk_see (ho t (by simp)) (by decide) h
    exact .exp (by show expandS .policy (tk t) = _; rw [e1]; exact eE) (d.run (by decide) ho _ _ (fun _ e => h1 _ (by cases e; rfl)) (fun _ _ e => by cases e))
  | @else_end t r q g h d hq =>
    have e1 := tk_see (ho t (by simp)) (by decide) h
    have hop : ∀ u ∈ q, okTk u := by obtain ⟨c, hc, _⟩ := d.suf; rw [hc] at ho; exact okTk_app ho
    have h3 : Ru (.t kElse :: .decision :: [.t kSemi]) (t :: r) res := d.run (by decide) ho _ _ (fun _ e => by cases e) (fun _ _ e => by cases e; rw [h1 _ rfl]; exact .term_no (tkh_no hop (by decide) hq))
    exact .exp (by show expandS .policy (tk t) = _; rw [e1]; exact eE) h3
  | @else_ t u r q g h d hq =>
    have e1 := tk_see (ho t (by simp)) (by decide) h
    have hop : ∀ x ∈ u :: q, okTk x := by obtain ⟨c, hc, _⟩ := d.suf; rw [hc] at ho; exact okTk_app ho
    have h3 : Ru (.t kElse :: .decision :: [.t kSemi]) (t :: r) res := d.run (by decide) ho _ _ (fun _ e => by cases e) (fun _ _ e => by cases e; exact .term (tk_see (hop u (by simp)) (by decide) hq) (h2 _ _ rfl))
    exact .exp (by show expandS .policy (tk t) = _; rw [e1]; exact eE) h3
  | none n1 n2 n3 =>
    have m1 := tkh_no ho (by decide) n1
    have m2 := tkh_no ho (by decide) n2
    have m3 := tkh_no ho (by decide) n3
    rw [h1 _ rfl]
    exact .exp (m := [.t kElse, .decision, .t kSemi]) (by rw [expandS, if_neg m1, if_neg m2]) (.term_no m3)

theorem DP.run {ts : List Tok} {x : QR} (d : DP ts x) : (∀ t ∈ ts, okTk t) → Ru [.policy] ts x.res := by
  induction d with
  | bad d => intro ho; exact d.run ho _ (fun _ e => by cases e; rfl) (fun _ _ e => by cases e)
  | @more ts r s x d hk d2 ih =>
    intro ho
    have hr : ∀ t ∈ r, okTk t := by obtain ⟨c, hc, _⟩ := d.suf; rw [hc] at ho; exact okTk_app ho
    have h3 := ih hr
    refine d.run ho _ (fun _ e => by cases e) (fun _ _ e => by cases e; rw [if_neg hk]; cases x <;> exact h3)
  | last d hk => intro ho; exact d.run ho _ (fun _ e => by cases e) (fun _ _ e => by cases e; rw [if_pos hk]; exact ⟨0, .fin⟩)
  | over d hk => intro ho; exact d.run ho _ (fun _ e => by cases e) (fun _ _ e => by cases e; rw [if_pos hk]; exact ⟨0, .over⟩)

/-- the tokens of a decision -/
inductive GC : List Tok → Option Pt → Prop
  | deny {t : Tok} (h : see kDeny t = true) : GC [t] none
  | grant {t : Tok} {c : List Tok} {p : Pt} (h : see kGrant t = true) (g : G 0 c p) : GC (t :: c) (some p)

/-- the tokens of a statement, its end aside -/
inductive SC : List Tok → Ps → Prop
  | let_ {t n e : Tok} {c : List Tok} {p : Pt} (h : see kLet t = true) (hn : n.kind = 3) (he : see kEq e = true) (g : G 0 c p) : SC (t :: n :: e :: c) ⟨t.at_, 1, n.text, some p, none⟩
  | when {t a : Tok} {c d : List Tok} {p : Pt} {g : Option Pt} (h : see kWhen t = true) (gc : G 0 c p) (ha : see kArrow a = true) (gd : GC d g) : SC (t :: (c ++ a :: d)) ⟨t.at_, 2, ofL [], some p, g⟩
  | else_ {t : Tok} {d : List Tok} {g : Option Pt} (h : see kElse t = true) (gd : GC d g) : SC (t :: d) ⟨t.at_, 3, ofL [], none, g⟩

/-- the tokens of a policy -/
inductive PC : List Tok → List Ps → Prop
  | nil : PC [] []
  | cons {c r : List Tok} {u : Tok} {s : Ps} {S : List Ps} (sc : SC c s) (hu : see kSemi u = true) (pc : PC r S) : PC (c ++ u :: r) (s :: S)

theorem DD.cut {s : List UInt8} {ts : List Tok} {x : DR} (d : DD s ts x) {g : Option Pt} {r : List Tok} (hx : x = .ok g r) : ∃ t c, ts = t :: (c ++ r) ∧ see s t = true ∧ GC c g := by
  cases d with
  | no h => cases hx
  | @deny t u r h hu => cases hx; exact ⟨t, [u], rfl, h, .deny hu⟩
  | @grant t r q e h hu d =>
    cases hx
    obtain ⟨t1, c, hc, hs, gg⟩ := d.tree trivial _ _ rfl
    exact ⟨t, t1 :: c, by rw [hc]; rfl, h, .grant hs gg⟩
  | grant_bad => cases hx

theorem DS.cut {ts : List Tok} {x : SR} (d : DS ts x) {s : Ps} {r : List Tok} (hx : x = .ok s r) : ∃ c u, ts = c ++ u :: r ∧ see kSemi u = true ∧ SC c s := by
  cases d with
  | @let_ t n u r q e h hn d hq =>
    cases hx
    obtain ⟨t1, c, hc, hs, gg⟩ := d.tree trivial _ _ rfl
    exact ⟨t :: n :: t1 :: c, u, by rw [hc]; rfl, hq, .let_ h hn hs gg⟩
  | @when t u r q p e g h d d2 hq =>
    cases hx
    obtain ⟨t1, c, hc, hs, gg⟩ := d.tree trivial _ _ rfl
    obtain ⟨a, c2, hc2, hs2, g2⟩ := d2.cut rfl
    injection hc with h0 hc
    subst h0
    exact ⟨t :: (c ++ a :: c2), u, by rw [hc, hc2]; simp, hq, .when h gg hs2 g2⟩
  | @else_ t u r q g h d hq =>
    cases hx
    obtain ⟨a, c2, hc2, hs2, g2⟩ := d.cut rfl
    injection hc2 with h0 hc2
    subst h0
    exact ⟨t :: c2, u, by rw [hc2]; simp, hq, .else_ h g2⟩
  | _ => cases hx

theorem DP.cut {ts : List Tok} {x : QR} (d : DP ts x) : ∀ S, x = .ok S → PC ts S := by
  induction d with
  | bad => intro S h; cases h
  | over => intro S h; cases h
  | @more ts r s x d hk d2 ih =>
    intro S h
    cases x with
    | bad => cases h
    | ok T =>
      cases h
      obtain ⟨c, u, hc, hu, sc⟩ := d.cut rfl
      rw [hc]
      exact .cons sc hu (ih T rfl)
  | @last ts s d hk =>
    intro S h
    cases h
    obtain ⟨c, u, hc, hu, sc⟩ := d.cut rfl
    rw [hc]
    exact .cons sc hu .nil

/-- the names behind a bracket, up to its end -/
def nmU : List Tok → List ByteArray
  | [] => []
  | t :: r => if see kRbr t then [] else if t.kind = 2 then t.text :: nmU r else nmU r

/-- the sets among tokens, and where they stand -/
def setsT : List Tok → List (Nat × List ByteArray)
  | [] => []
  | t :: r => if see kLbr t then (t.at_, nmU r) :: setsT r else setsT r

/-- the sets of a tree -/
def Pt.sets : Pt → List (Nat × List ByteArray)
  | .set i ss => [(i, ss)]
  | .un _ _ k => k.sets
  | .bin _ _ l r => l.sets ++ r.sets
  | .ite _ c t e => c.sets ++ (t.sets ++ e.sets)
  | _ => []

theorem nmU_set : ∀ (c : List Tok), (∀ x ∈ c, scT x) → ∀ (u : Tok) (r : List Tok), see kRbr u = true → nmU (c ++ u :: r) = nms c
  | [], _, u, r, hu => by rw [List.nil_append, nmU, if_pos hu]; rfl
  | t :: c, h, u, r, hu => by
    have ih := nmU_set c (fun x hx => h x (List.mem_cons_of_mem _ hx)) u r hu
    have hn : see kRbr t = false := by
      rcases h t (List.mem_cons_self ..) with e | e
      · exact see_kind_no (by omega) (by omega)
      · exact see_ne e (by decide)
    rw [List.cons_append, nmU, hn, nms, ih]
    rfl

theorem setsT_no {t : Tok} (h : see kLbr t = false) (r : List Tok) : setsT (t :: r) = setsT r := by
  rw [setsT, h]; rfl

theorem setsT_sc : ∀ (c : List Tok), (∀ x ∈ c, scT x) → ∀ (r : List Tok), setsT (c ++ r) = setsT r
  | [], _, r => rfl
  | t :: c, h, r => by
    have ih := setsT_sc c (fun x hx => h x (List.mem_cons_of_mem _ hx)) r
    have hn : see kLbr t = false := by
      rcases h t (List.mem_cons_self ..) with e | e
      · exact see_kind_no (by omega) (by omega)
      · exact see_ne e (by decide)
    rw [List.cons_append, setsT_no hn, ih]

theorem G.sets {k : Nat} {c : List Tok} {p : Pt} (g : G k c p) : ∀ (r : List Tok), setsT (c ++ r) = p.sets ++ setsT r := by
  induction g with
  | up hk g ih => exact ih
  | ite ht hu hv ga gb gd ia ib id =>
    intro r
    rw [List.cons_append, setsT_no (see_ne ht (by decide)), List.append_assoc, ia, List.cons_append, setsT_no (see_ne hu (by decide)), List.append_assoc, ib, List.cons_append, setsT_no (see_ne hv (by decide)), id, Pt.sets]
    simp
  | bin hk gl ht gr il ir =>
    intro r
    rw [List.append_assoc, il, List.cons_append, setsT_no ((ops_word ht).2.2 _ (by decide)), ir, Pt.sets, List.append_assoc]
  | cmp gl ht gr il ir =>
    intro r
    rw [List.append_assoc, il, List.cons_append, setsT_no ((ops_word ht).2.2 _ (by decide)), ir, Pt.sets, List.append_assoc]
  | not ht g ih => intro r; rw [List.cons_append, setsT_no (see_ne ht (by decide)), ih, Pt.sets]
  | neg ht g ih => intro r; rw [List.cons_append, setsT_no (see_ne ht (by decide)), ih, Pt.sets]
  | par ht g hu ih => intro r; rw [List.cons_append, setsT_no (see_ne ht (by decide)), List.append_assoc, ih, List.cons_append, List.nil_append, setsT_no (see_ne hu (by decide))]
  | size ht hu g hv ih => intro r; rw [List.cons_append, List.cons_append, setsT_no (see_ne ht (by decide)), setsT_no (see_ne hu (by decide)), List.append_assoc, ih, List.cons_append, List.nil_append, setsT_no (see_ne hv (by decide)), Pt.sets]
  | @set t u c ht hc hu =>
    intro r
    rw [List.cons_append, setsT, if_pos ht, List.append_assoc, List.cons_append, List.nil_append, nmU_set c hc u r hu, setsT_sc c hc, setsT_no (see_ne hu (by decide))]
    rfl
  | num h | text h | name h => intro r; exact setsT_no (see_kind_no (by omega) (by omega)) r
  | tru h | fls h => intro r; exact setsT_no (see_ne h (by decide)) r

def optS : Option Pt → List (Nat × List ByteArray)
  | none => []
  | some p => p.sets

def Ps.sets (s : Ps) : List (Nat × List ByteArray) := optS s.cond ++ optS s.grant

theorem GC.sets {c : List Tok} {g : Option Pt} (h : GC c g) (r : List Tok) : setsT (c ++ r) = optS g ++ setsT r := by
  cases h with
  | deny h => exact setsT_no (see_ne h (by decide)) r
  | grant h g => rw [List.cons_append, setsT_no (see_ne h (by decide)), g.sets]; rfl

theorem SC.sets {c : List Tok} {s : Ps} (h : SC c s) (r : List Tok) : setsT (c ++ r) = s.sets ++ setsT r := by
  cases h with
  | let_ h hn he g => rw [List.cons_append, List.cons_append, List.cons_append, setsT_no (see_ne h (by decide)), setsT_no (see_kind_no (by omega) (by omega)), setsT_no (see_ne he (by decide)), g.sets]; simp [Ps.sets, optS]
  | when h gc ha gd => rw [List.cons_append, setsT_no (see_ne h (by decide)), List.append_assoc, gc.sets, List.cons_append, setsT_no (see_ne ha (by decide)), gd.sets]; simp [Ps.sets, optS]
  | else_ h gd => rw [List.cons_append, setsT_no (see_ne h (by decide)), gd.sets]; simp [Ps.sets, optS]

theorem PC.sets {ts : List Tok} {S : List Ps} (h : PC ts S) : setsT ts = S.flatMap Ps.sets := by
  induction h with
  | nil => rfl
  | cons sc hu pc ih => rw [sc.sets, setsT_no (see_ne hu (by decide)), ih]; rfl

theorem GC.free {c : List Tok} {g : Option Pt} (h : GC c g) : ∀ t ∈ c, see kSemi t = false := by
  cases h with
  | deny h => intro x hx; rw [List.mem_singleton.1 hx]; exact see_ne h (by decide)
  | grant h g =>
    intro x hx
    rcases List.mem_cons.1 hx with rfl | hx
    · exact see_ne h (by decide)
    · exact (g.free x hx).1

/-- the end of a statement is the first of its kind -/
theorem SC.free {c : List Tok} {s : Ps} (h : SC c s) : ∀ t ∈ c, see kSemi t = false := by
  cases h with
  | let_ h hn he g =>
    intro x hx
    rcases List.mem_cons.1 hx with rfl | hx
    · exact see_ne h (by decide)
    rcases List.mem_cons.1 hx with rfl | hx
    · exact see_kind_no (by omega) (by omega)
    rcases List.mem_cons.1 hx with rfl | hx
    · exact see_ne he (by decide)
    · exact (g.free x hx).1
  | when h gc ha gd =>
    intro x hx
    rcases List.mem_cons.1 hx with rfl | hx
    · exact see_ne h (by decide)
    rcases List.mem_append.1 hx with hx | hx
    · exact (gc.free x hx).1
    rcases List.mem_cons.1 hx with rfl | hx
    · exact see_ne ha (by decide)
    · exact gd.free x hx
  | else_ h gd =>
    intro x hx
    rcases List.mem_cons.1 hx with rfl | hx
    · exact see_ne h (by decide)
    · exact gd.free x hx

end Go.Proofs.YtcehablmloleaaaGreatDoor

namespace Go.Proofs.YtcehablmloleaaaGreatDoor
open Go.RowKit
set_option linter.unusedVariables false

/-- the cells of a token -/
def tok4 (t : Tok) : List Value := [.int .i64 t.kind, .int .i64 t.num, .string t.text, .int .i64 (t.at_ : Int)]

/-- the cells of tokens -/
def tokC (T : List Tok) : List Value := T.flatMap tok4

theorem tokC_len : ∀ (T : List Tok), (tokC T).length = T.length * 4
  | [] => rfl
  | t :: T => by
    have := tokC_len T
    simp only [tokC, List.flatMap_cons, List.length_append, List.length_cons] at this ⊢
    simp only [tok4, List.length_cons, List.length_nil]
    omega

theorem tokC_snoc (T : List Tok) (t : Tok) : tokC (T ++ [t]) = tokC T ++ tok4 t := by simp [tokC]

/-- the cells of the token at a place -/
theorem tokC_at : ∀ (T : List Tok) (j : Nat) (h : j < T.length), (tokC T)[j * 4]? = some (.int .i64 T[j].kind) ∧ (tokC T)[j * 4 + 1]? = some (.int .i64 T[j].num) ∧ (tokC T)[j * 4 + 2]? = some (.string T[j].text) ∧ (tokC T)[j * 4 + 3]? = some (.int .i64 (T[j].at_ : Int))
  | t :: T, 0, _ => ⟨rfl, rfl, rfl, rfl⟩
  | t :: T, j + 1, h => by
    have ih := tokC_at T j (by simpa using h)
    have e : tokC (t :: T) = tok4 t ++ tokC T := rfl
    have e1 : ∀ i, (tok4 t ++ tokC T)[(j + 1) * 4 + i]? = (tokC T)[j * 4 + i]? := fun i => by
      rw [List.getElem?_append_right (by simp [tok4]; omega)]
      congr 1
      simp [tok4]; omega
    have e0 := e1 0
    rw [Nat.add_zero, Nat.add_zero] at e0
    rw [e, e0, e1 1, e1 2, e1 3]
    simpa using ih

/-- all texts of a length that a machine holds -/
def okT (T : List Tok) : Prop := ∀ t ∈ T, t.text.size ≤ maxLen

/-- A slice of tokens of the call's own, in the blocks lo .. hi - 1. -/
structure OwnT (w : World) (lo hi : Nat) (a : Option Addr) (n c : Nat) (T : List Tok) : Prop where
  own : w.ownsRow lo 42 4 (.slice a n c) n (tokC T)
  lt : ∀ x, a = some x → x.block < hi
  sizes : okT T
  top : hi ≤ w.heap.size

theorem OwnT.len {w : World} {lo hi n c : Nat} {a : Option Addr} {T : List Tok} (h : OwnT w lo hi a n c T) : T.length = n := by
  have := h.own.1
  rw [tokC_len] at this
  omega

theorem ownsT_of_block {w w' : World} {lo n c : Nat} {a : Option Addr} {xs : List Value} (h : w.ownsRow lo 42 4 (.slice a n c) n xs) (hb : ∀ x, a = some x → w'.heap[x.block]? = w.heap[x.block]?) : w'.ownsRow lo 42 4 (.slice a n c) n xs := by
  refine ⟨h.1, ?_⟩
  rcases h.2 with h2 | ⟨g, cap, cur, hv, h3, hg, h4⟩
  · exact .inl h2
  · refine .inr ⟨g, cap, cur, hv, h3, ?_, h4⟩
    simp only [Value.slice.injEq] at hv
    rw [← hg]
    exact hb ⟨g, 0, none⟩ hv.1

theorem OwnT.below {w w' : World} {lo hi n c B : Nat} {a : Option Addr} {T : List Tok} (h : OwnT w lo hi a n c T) (hb : Below B w w') (hB : hi ≤ B) : OwnT w' lo hi a n c T :=
  ⟨ownsT_of_block h.own (fun x hx => hb.block _ (by have := h.lt x hx; omega)), h.lt, h.sizes, Nat.le_trans h.top hb.size⟩

theorem OwnT.touch {w w' : World} {lo hi n c lo' hi' : Nat} {a : Option Addr} {T : List Tok} (h : OwnT w lo hi a n c T) (t : Touch lo' hi' w w') (hd : hi ≤ lo' ∨ hi' ≤ lo) : OwnT w' lo hi a n c T :=
  ⟨ownsT_of_block h.own (fun x hx => t.block _ (by have := h.lt x hx; have := h.top; omega) (by
    have h1 := h.lt x hx
    have h2 : lo ≤ x.block := by subst hx; exact (h.own.lt _ rfl).1
    omega)), h.lt, h.sizes, Nat.le_trans h.top t.size⟩

/-- the slice's form where there is one -/
theorem OwnT.form {w : World} {lo hi n c : Nat} {a : Option Addr} {T : List Tok} (h : OwnT w lo hi a n c T) (hn : 0 < n) : ∃ g, a = some ⟨g, 0, none⟩ ∧ lo ≤ g ∧ g < hi ∧ g < w.heap.size := by
  rcases h.own.2 with ⟨_, h0⟩ | ⟨g, cap, cur, hv, h3, hg, _⟩
  · omega
  · simp only [Value.slice.injEq] at hv
    exact ⟨g, hv.1, h3, h.lt _ hv.1, (Array.getElem?_eq_some_iff.1 hg).1⟩

theorem OwnT.small {w : World} {lo hi n c : Nat} {a : Option Addr} {T : List Tok} (h : OwnT w lo hi a n c T) : n ≤ 9223372036854775807 := by
  rcases h.own.2 with ⟨_, h0⟩ | ⟨g, cap, cur, hv, h3, hg, h4, h5, _⟩
  · omega
  · unfold maxLen at h5; omega

/-- the cells of one token in memory -/
theorem OwnT.cells {w : World} {lo hi n c g : Nat} {T : List Tok} (h : OwnT w lo hi (some ⟨g, 0, none⟩) n c T) (j : Nat) (hj : j < T.length) :
    w.cell? ⟨g, j * 4, none⟩ = some (.int .i64 T[j].kind) ∧ w.cell? ⟨g, j * 4 + 1, none⟩ = some (.int .i64 T[j].num) ∧ w.cell? ⟨g, j * 4 + 2, none⟩ = some (.string T[j].text) ∧ w.cell? ⟨g, j * 4 + 3, none⟩ = some (.int .i64 (T[j].at_ : Int)) := by
  obtain ⟨e0, e1, e2, e3⟩ := tokC_at T j hj
  have hl := h.len
  exact ⟨(h.own.cellAt _ (by omega)).trans e0, (h.own.cellAt _ (by omega)).trans e1, (h.own.cellAt _ (by omega)).trans e2, (h.own.cellAt _ (by omega)).trans e3⟩

theorem OwnT.of {w : World} {lo n c : Nat} {a : Option Addr} {T : List Tok} (h : w.ownsRow lo 42 4 (.slice a n c) n (tokC T)) (hs : okT T) : OwnT w lo w.heap.size a n c T :=
  ⟨h, fun x hx => by subst hx; exact (h.lt _ rfl).2, hs, Nat.le_refl _⟩

end Go.Proofs.YtcehablmloleaaaGreatDoor

namespace Go.Proofs.YtcehablmloleaaaGreatDoor
open Go.RowKit
set_option linter.unusedVariables false

theorem blk_at (s : ByteArray) (k : Nat) (h : k < s.size) (hb : (s[k].toNat : Int) = 32 ∨ (s[k].toNat : Int) = 10 ∨ (s[k].toNat : Int) = 9) : blk false ((toL s).drop k) = blk false ((toL s).drop (k + 1)) := by
  rw [drop_cons s k h, blk, if_pos]
  rcases hb with h | h | h
  · exact .inl (UInt8.toNat_inj.1 (by have : (32 : UInt8).toNat = 32 := rfl; omega))
  · exact .inr (.inl (UInt8.toNat_inj.1 (by have : (10 : UInt8).toNat = 10 := rfl; omega)))
  · exact .inr (.inr (UInt8.toNat_inj.1 (by have : (9 : UInt8).toNat = 9 := rfl; omega)))

theorem nblank {c : UInt8} (h1 : ¬ (c.toNat : Int) = 32) (h2 : ¬ (c.toNat : Int) = 10) (h3 : ¬ (c.toNat : Int) = 9) : ¬ (c = 32 ∨ c = 10 ∨ c = 9) := by
  rintro (h | h | h)
  · subst h; exact h1 rfl
  · subst h; exact h2 rfl
  · subst h; exact h3 rfl

theorem blk_hash (s : ByteArray) (k : Nat) (h : k < s.size) (hb : (s[k].toNat : Int) = 35) : blk false ((toL s).drop k) = blk true ((toL s).drop k) := by
  have e : s[k] = 35 := UInt8.toNat_inj.1 (by have : (35 : UInt8).toNat = 35 := rfl; omega)
  rw [drop_cons s k h, e]
  generalize (toL s).drop (k + 1) = r
  simp [blk]

theorem blk_other (s : ByteArray) (k : Nat) (h : k < s.size) (h1 : ¬ (s[k].toNat : Int) = 32) (h2 : ¬ (s[k].toNat : Int) = 10) (h3 : ¬ (s[k].toNat : Int) = 9) (h4 : ¬ (s[k].toNat : Int) = 35) : blk false ((toL s).drop k) = (toL s).drop k := by
  rw [drop_cons s k h, blk, if_neg (nblank h1 h2 h3), if_neg (fun e => h4 (by rw [e]; rfl))]

theorem blk_in (s : ByteArray) (k : Nat) (h : k < s.size) (h1 : ¬ (s[k].toNat : Int) = 10) : blk true ((toL s).drop k) = blk true ((toL s).drop (k + 1)) := by
  rw [drop_cons s k h, blk, if_neg (fun e => h1 (by rw [e]; rfl))]

theorem blk_nl (s : ByteArray) (k : Nat) (h : k < s.size) (h1 : (s[k].toNat : Int) = 10) : blk true ((toL s).drop k) = blk false ((toL s).drop k) := by
  have e : s[k] = 10 := UInt8.toNat_inj.1 (by have : (10 : UInt8).toNat = 10 := rfl; omega)
  rw [drop_cons s k h, e]
  generalize (toL s).drop (k + 1) = r
  simp [blk]

theorem blk_end (o : Bool) (s : ByteArray) (k : Nat) (h : s.size ≤ k) : blk o ((toL s).drop k) = [] := by
  rw [List.drop_of_length_le (by rw [toL_size]; exact h)]
  cases o <;> rfl

set_option maxHeartbeats 3200000 in
theorem l2blank_any (s : ByteArray) (j : Nat) (w : World) (hs : s.size ≤ maxLen) (hj : j ≤ s.size) :
    Calls Tryz.prog 27 #[.string s, .int .i64 j] w fun e w' => (∃ k : Nat, e = .returned (.int .i64 k) ∧ j ≤ k ∧ k ≤ s.size ∧ blk false ((toL s).drop j) = (toL s).drop k ∧ blk false ((toL s).drop k) = (toL s).drop k) ∧ w' = w := by
  unfold maxLen at hs
  go_enter Tryz.func27, Tryz.ntmps27
  go_wp2
  go_loop [1] (fun i => ∃ k : Nat, j ≤ k ∧ k ≤ s.size ∧ i = .int .i64 k ∧ blk false ((toL s).drop j) = blk false ((toL s).drop k)) (fun i => s.size - (intOf i).toNat)
  case atStart => exact ⟨j, Nat.le_refl _, hj, rfl, rfl⟩
  case round =>
    obtain ⟨k, hjk, hk, rfl, he⟩ := hrel
    have He := hide he
    clear he
    by_cases hlt : k < s.size
    · have ilt : (k : Int) < (s.size : Int) := by omega
      by_cases h1 : (s[k].toNat : Int) = 32
      · have Hf := hide (blk_at s k hlt (.inl h1))
        go_wp2
        go_round
        case rel => exact ⟨k + 1, by omega, by omega, by go_num, by rw [unhide He, unhide Hf]⟩
        case measure => simp [intOf]; omega
      by_cases h2 : (s[k].toNat : Int) = 10
      · have Hf := hide (blk_at s k hlt (.inr (.inl h2)))
        go_wp2
        go_round
        case rel => exact ⟨k + 1, by omega, by omega, by go_num, by rw [unhide He, unhide Hf]⟩
        case measure => simp [intOf]; omega
      by_cases h3 : (s[k].toNat : Int) = 9
      · have Hf := hide (blk_at s k hlt (.inr (.inr h3)))
        go_wp2
        go_round
        case rel => exact ⟨k + 1, by omega, by omega, by go_num, by rw [unhide He, unhide Hf]⟩
        case measure => simp [intOf]; omega
      by_cases h4 : (s[k].toNat : Int) = 35
      · have Hf := hide (blk_hash s k hlt h4)
        have Hi := hide (blk_in s k hlt h2)
        go_wp2
        go_loop [1] (fun i => ∃ q : Nat, k ≤ q ∧ q ≤ s.size ∧ i = .int .i64 q ∧ blk true ((toL s).drop k) = blk true ((toL s).drop q)) (fun i => s.size - (intOf i).toNat)
        case atStart => exact ⟨k, Nat.le_refl _, hk, rfl, rfl⟩
        case round =>
          obtain ⟨q, hkq, hq, rfl, hi⟩ := hrel
          have Hq := hide hi
          clear hi
          by_cases hql : q < s.size
          · have iql : (q : Int) < (s.size : Int) := by omega
            by_cases h10 : (s[q].toNat : Int) = 10
            · have Hn := hide (blk_nl s q hql h10)
              have hne : q ≠ k := fun e => by subst e; omega
              go_wp2
              go_round
              case rel => exact ⟨q, by omega, by omega, by go_num, by rw [unhide He, unhide Hf, unhide Hq, unhide Hn]⟩
              case measure => simp [intOf]; omega
            · have Hn := hide (blk_in s q hql h10)
              go_wp2
              go_round
              case rel => exact ⟨q + 1, by omega, by omega, by go_num, by rw [unhide Hq, unhide Hn]⟩
              case measure => simp [intOf]; omega
          · have iql : ¬ ((q : Int) < (s.size : Int)) := by omega
            have Hn := hide ((blk_end true s q (by omega)).trans (blk_end false s q (by omega)).symm)
            go_wp2
            go_round
            case rel => exact ⟨q, by omega, by omega, by go_num, by rw [unhide He, unhide Hf, unhide Hq, unhide Hn]⟩
            case measure => simp [intOf]; omega
      · have Hf := hide (blk_other s k hlt h1 h2 h3 h4)
        have e1 := beq_eq_false_iff_ne.2 h1
        have e2 := beq_eq_false_iff_ne.2 h2
        have e3 := beq_eq_false_iff_ne.2 h3
        have e4 := beq_eq_false_iff_ne.2 h4
        go_wp2
        go_ret
        exact ⟨⟨k, rfl, hjk, hk, by rw [unhide He, unhide Hf], unhide Hf⟩, rfl⟩
    · have ilt : ¬ ((k : Int) < (s.size : Int)) := by omega
      have Hf := hide (blk_end false s k (by omega))
      go_wp2
      go_ret
      have e : (toL s).drop k = [] := List.drop_of_length_le (by rw [toL_size]; omega)
      exact ⟨⟨k, rfl, hjk, hk, by rw [unhide He, unhide Hf, e], by rw [unhide Hf, e]⟩, rfl⟩

end Go.Proofs.YtcehablmloleaaaGreatDoor

namespace Go.Proofs.YtcehablmloleaaaGreatDoor
open Go.RowKit
set_option linter.unusedVariables false

/-- what l2one answers at a place -/
def onAns (j : Nat) (o : One) (e : Ending) : Prop := match o with
  | .bad c => ∃ (k m n : Int) (x : ByteArray), e = .returned (.tuple #[.agg #[.int .i64 k, .int .i64 m, .string x, .int .i64 (j : Int)], .int .i64 n, .int .i64 c])
  | .tok k m t w => e = .returned (.tuple #[.agg #[.int .i64 k, .int .i64 m, .string (ofL t), .int .i64 (j : Int)], .int .i64 ((j + w : Nat) : Int), .int .i64 0])

theorem ext_ofL (s : ByteArray) (j e : Nat) : s.extract j e = ofL (((toL s).drop j).take (e - j)) := by
  rw [← toL_extract, ofL_toL]

/-- the world in which l2one works -/
theorem one_start (w : World) (j : Nat) : ∃ W, ((w.alloc (.cells #[.int .i64 0, .int .i64 0, .string ⟨#[]⟩, .int .i64 0] 42)).alloc (.cells #[.int .i64 0, .int .i64 0, .string ⟨#[]⟩, .int .i64 j] 42)) = W ∧ Row W w.heap.size #[.int .i64 0, .int .i64 0, .string ⟨#[]⟩, .int .i64 0] 42 ∧ Row W (w.heap.size + 1) #[.int .i64 0, .int .i64 0, .string ⟨#[]⟩, .int .i64 j] 42 ∧ Below w.heap.size w W ∧ W.heap.size = w.heap.size + 2 := by
  refine ⟨_, rfl, (Row.new w _ _).alloc _, ?_, ((Below.refl w.heap.size w).alloc (Nat.le_refl _) _).alloc (by simp) _, by simp⟩
  have := Row.new (w.alloc (.cells #[.int .i64 0, .int .i64 0, .string ⟨#[]⟩, .int .i64 0] 42)) #[.int .i64 0, .int .i64 0, .string ⟨#[]⟩, .int .i64 j] 42
  simpa using this

theorem row4 {w : World} {b : Nat} {v0 v1 v2 v3 : Value} {t : TypeId} (R : Row w b #[v0, v1, v2, v3] t) : w.cell? ⟨b, 0, none⟩ = some v0 ∧ w.cell? ⟨b, 1, none⟩ = some v1 ∧ w.cell? ⟨b, 2, none⟩ = some v2 ∧ w.cell? ⟨b, 3, none⟩ = some v3 ∧ ∀ j, w.frozen? ⟨b, j, none⟩ = false :=
  ⟨by simpa using R.cell 0, by simpa using R.cell 1, by simpa using R.cell 2, by simpa using R.cell 3, fun j => R.frozen j⟩

/-- a token out of its block, and two more results -/
theorem res_tok3 {fn : Func} {a t u : Tmp} (h : fn.results = #[.cell a 42, .tmp t, .tmp u]) {tmps : Array Value} {w : World} {b : Nat} {v0 v1 v2 v3 : Value} (ha : tmps.getD a undef = .pointer (some ⟨b, 0, none⟩))
    (g0 : w.cell? ⟨b, 0, none⟩ = some v0) (g1 : w.cell? ⟨b, 1, none⟩ = some v1) (g2 : w.cell? ⟨b, 2, none⟩ = some v2) (g3 : w.cell? ⟨b, 3, none⟩ = some v3) :
    (results fn tmps).run Tryz.prog w = .ok (.tuple #[.agg #[v0, v1, v2, v3], tmps.getD t undef, tmps.getD u undef]) w := by
  rw [Array.getD_eq_getD_getElem?] at ha
  simp [results, h, ha, go_sem, g0, g1, g2, g3]

set_option maxRecDepth 100000 in
set_option maxHeartbeats 6400000 in
theorem l2one_word (s : ByteArray) (j : Nat) (w : World) (hs : s.size ≤ 1048576) (hj : j < s.size) (hl : ltI (s[j].toNat : Int) = true) :
    Calls Tryz.prog 28 #[.string s, .int .i64 j] w fun e w' => onAns j (oneWord ((toL s).drop j)) e ∧ Below w.heap.size w w' := by
  have ij : (j : Int) < (s.size : Int) := by omega
  obtain ⟨hE1, hE2⟩ := endS_le (p := wdB) (s := s) (Nat.le_of_lt hj)
  have HE := hide (endS_runL wdB s j)
  obtain ⟨W, hW, R0, R1, B0, z0⟩ := one_start w j
  have Hl := hide hl
  clear hl
  go_enter Tryz.func28, Tryz.ntmps28
  go_wp2_with (go_at_call 46; refine (l2letter_any _ _).mono ?_; rintro e w' ⟨rfl, hw⟩; rw [unhide Hl, hw]; clear hw)
  clear hW
  refine (l2run_any s j _ (by unfold maxLen; omega) (by omega)).mono ?_
  rintro e w1 ⟨rfl, rfl⟩
  generalize endS wdB s j = E at hE1 hE2 HE ⊢
  have iE1 : (j : Int) ≤ (E : Int) := by omega
  have iE2 : (E : Int) ≤ (s.size : Int) := by omega
  obtain ⟨c0, c1, c2, c3, cf⟩ := row4 R1
  have R1b := (R1.set 2 (.string (s.extract j E))).set 0 (.int .i64 3)
  have R0b := (R0.setFar (p := ⟨w.heap.size + 1, 2, none⟩) (by show w.heap.size ≠ w.heap.size + 1; omega) (.string (s.extract j E))).setFar (p := ⟨w.heap.size + 1, 0, none⟩) (by show w.heap.size ≠ w.heap.size + 1; omega) (.int .i64 3)
  have B1 := (B0.setCell (p := ⟨w.heap.size + 1, 2, none⟩) (by show w.heap.size ≤ w.heap.size + 1; omega) (.string (s.extract j E))).setCell (p := ⟨w.heap.size + 1, 0, none⟩) (by show w.heap.size ≤ w.heap.size + 1; omega) (.int .i64 3)
  simp only [List.setIfInBounds_toArray, List.set_cons_succ, List.set_cons_zero] at R1b
  have Hx := hide (ext_ofL s j E)
  have hxs : (s.extract j E).size = E - j := by rw [ByteArray.size_extract]; omega
  go_wp2_with fail
  generalize (w1.setCell ⟨w.heap.size + 1, 2, none⟩ (.string (s.extract j E))).setCell ⟨w.heap.size + 1, 0, none⟩ (.int .i64 3) = W2 at R1b R0b B1 ⊢
  clear R0 R1 B0 c0 c1 c2 c3 cf
  generalize s.extract j E = x at *
  refine (l2word_any x _).mono ?_
  rintro e w3 ⟨rfl, hb3⟩
  have R1 := R1b.after hb3 (Nat.le_refl _)
  have R0 := R0b.after hb3 (Nat.le_refl _)
  have B3 := B1.trans (hb3.mono B1.size)
  clear R1b R0b B1 hb3
  obtain ⟨d0, d1, d2, d3, df⟩ := row4 R0
  obtain ⟨c0, c1, c2, c3, cf⟩ := row4 R1
  cases hw : isWd (toL x)
  · have Hw := hide hw
    clear hw
    by_cases h32 : 32 < E - j
    · have i32 : ((32 : Int) < (x.size : Int)) := by omega
      go_wp2_with fail
      have BF := put4_below (b := w.heap.size) B3 (Nat.le_refl _) (.int .i64 3) (.int .i64 0) (.string x) (.int .i64 j)
      obtain ⟨g0, g1, g2, g3, _⟩ := row4 (put4_row R0 (.int .i64 3) (.int .i64 0) (.string x) (.int .i64 j))
      simp only [put4] at g0 g1 g2 g3
      refine bodyPost_ret (res_tok3 Tryz.results28 rfl g0 g1 g2 g3) rfl ⟨?_, BF⟩
      have hr : 32 < runL wdB ((toL s).drop j) := by have := unhide HE; omega
      rw [oneWord, if_pos hr]
      exact ⟨_, _, _, _, rfl⟩
    · have i32 : ¬ ((32 : Int) < (x.size : Int)) := by omega
      go_wp2_with fail
      have BF := put4_below (b := w.heap.size) B3 (Nat.le_refl _) (.int .i64 3) (.int .i64 0) (.string x) (.int .i64 j)
      obtain ⟨g0, g1, g2, g3, _⟩ := row4 (put4_row R0 (.int .i64 3) (.int .i64 0) (.string x) (.int .i64 j))
      simp only [put4] at g0 g1 g2 g3
      refine bodyPost_ret (res_tok3 Tryz.results28 rfl g0 g1 g2 g3) rfl ⟨?_, BF⟩
      have hr : runL wdB ((toL s).drop j) = E - j := by have := unhide HE; omega
      rw [oneWord, hr, if_neg (by omega), ← toL_ofL (((toL s).drop j).take (E - j)), ← unhide Hx, unhide Hw]
      simp only [onAns, ofL_toL]
      rw [show j + (E - j) = E by omega]; rfl
  · have Hw := hide hw
    clear hw
    by_cases h32 : 32 < E - j
    · have i32 : ((32 : Int) < (x.size : Int)) := by omega
      go_wp2_with fail
      have BF := put4_below (b := w.heap.size) (B3.setCell (p := ⟨w.heap.size + 1, 0, none⟩) (by show w.heap.size ≤ w.heap.size + 1; omega) (.int .i64 4)) (Nat.le_refl _) (.int .i64 4) (.int .i64 0) (.string x) (.int .i64 j)
      obtain ⟨g0, g1, g2, g3, _⟩ := row4 (put4_row (R0.setFar (p := ⟨w.heap.size + 1, 0, none⟩) (by show w.heap.size ≠ w.heap.size + 1; omega) (.int .i64 4)) (.int .i64 4) (.int .i64 0) (.string x) (.int .i64 j))
      simp only [put4] at g0 g1 g2 g3
      refine bodyPost_ret (res_tok3 Tryz.results28 rfl g0 g1 g2 g3) rfl ⟨?_, BF⟩
      have hr : 32 < runL wdB ((toL s).drop j) := by have := unhide HE; omega
      rw [oneWord, if_pos hr]
      exact ⟨_, _, _, _, rfl⟩
    · have i32 : ¬ ((32 : Int) < (x.size : Int)) := by omega
      go_wp2_with fail
      have BF := put4_below (b := w.heap.size) (B3.setCell (p := ⟨w.heap.size + 1, 0, none⟩) (by show w.heap.size ≤ w.heap.size + 1; omega) (.int .i64 4)) (Nat.le_refl _) (.int .i64 4) (.int .i64 0) (.string x) (.int .i64 j)
      obtain ⟨g0, g1, g2, g3, _⟩ := row4 (put4_row (R0.setFar (p := ⟨w.heap.size + 1, 0, none⟩) (by show w.heap.size ≠ w.heap.size + 1; omega) (.int .i64 4)) (.int .i64 4) (.int .i64 0) (.string x) (.int .i64 j))
      simp only [put4] at g0 g1 g2 g3
      refine bodyPost_ret (res_tok3 Tryz.results28 rfl g0 g1 g2 g3) rfl ⟨?_, BF⟩
      have hr : runL wdB ((toL s).drop j) = E - j := by have := unhide HE; omega
      rw [oneWord, hr, if_neg (by omega), ← toL_ofL (((toL s).drop j).take (E - j)), ← unhide Hx, unhide Hw]
      simp only [onAns, ofL_toL]
      rw [show j + (E - j) = E by omega]; rfl

end Go.Proofs.YtcehablmloleaaaGreatDoor

namespace Go.Proofs.YtcehablmloleaaaGreatDoor
open Go.RowKit Go.Lib Go.Sort

theorem sort_any (base g n c : Nat) (zs : List (List UInt8)) (w : World) (h : w.ownsRow base 9 1 (.slice (some ⟨g, 0, none⟩) n c) n (zs.map encStr)) (hn : n ≤ 1048576) :
    Calls Tryz.prog 139 #[.slice (some ⟨g, 0, none⟩) n c] w fun e w' => e = .returned (.tuple #[]) ∧ w'.ownsRow base 9 1 (.slice (some ⟨g, 0, none⟩) n c) n ((zs.mergeSort fun x y => decide (x ≤ y)).map encStr) ∧ w.grownBy w' (some g) := by
  have hl : zs.length = n := by have := h.1; simpa using this
  subst hl
  rcases h.2 with ⟨h0, _⟩ | ⟨g', cap, cur, hv, hbase, hb, h1, h2, h3, h4⟩
  · cases h0
  · simp only [Value.slice.injEq, Option.some.injEq, Addr.mk.injEq, and_true, true_and] at hv
    obtain ⟨rfl, rfl⟩ := hv
    refine (Tryz.slices_Sort_string g 0 c zs w (holds_of_block hb (by simpa using h4)) (Array.getElem?_eq_some_iff.1 hb).1 (by omega)).mono ?_
    rintro e w' ⟨rfl, q, os, rfl⟩
    exact ⟨rfl, ownsRow_sorted (by simp) hbase hb h1 h2 h3, grownBy_sorted _⟩

theorem take_putCells_le (cur : Array Value) (ts rs : List (List UInt8)) (h : (ts ++ rs).length ≤ cur.size) : (putCells encStr 0 (ts ++ rs).toArray cur).toList.take ts.length = ts.map encStr := by
  have e := take_putCells cur (ts ++ rs) h
  have := congrArg (List.take ts.length) e
  rw [List.take_take, Nat.min_eq_left (by simp)] at this
  rw [this, List.map_append, List.take_left' (by simp)]

theorem compact_len (zs : List (List UInt8)) : (Lib.compact zs).length ≤ zs.length := by
  unfold Lib.compact compactUpTo
  rw [List.length_map]
  exact Nat.le_trans (List.length_filter_le _ _) (by simp)

theorem compact_any (base g n c : Nat) (zs : List (List UInt8)) (w : World) (h : w.ownsRow base 9 1 (.slice (some ⟨g, 0, none⟩) n c) n (zs.map encStr)) (hn : n ≤ 1048576) :
    Calls Tryz.prog 140 #[.slice (some ⟨g, 0, none⟩) n c] w fun e w' => e = .returned (.slice (some ⟨g, 0, none⟩) (Lib.compact zs).length c) ∧ w'.ownsRow base 9 1 (.slice (some ⟨g, 0, none⟩) (Lib.compact zs).length c) (Lib.compact zs).length ((Lib.compact zs).map encStr) ∧ w.grownBy w' (some g) := by
  have hl : zs.length = n := by have := h.1; simpa using this
  subst hl
  rcases h.2 with ⟨h0, _⟩ | ⟨g', cap, cur, hv, hbase, hb, h1, h2, h3, h4⟩
  · cases h0
  · simp only [Value.slice.injEq, Option.some.injEq, Addr.mk.injEq, and_true, true_and] at hv
    obtain ⟨rfl, rfl⟩ := hv
    refine (Tryz.slices_Compact_string g 0 c zs w (holds_of_block hb (by simpa using h4)) (by omega) h1).mono ?_
    rintro e w' ⟨rfl, q, rfl⟩
    have e0 := (grow_empty (putRow encStr (Sort.ahead w q) g 0 (Lib.compact zs ++ List.replicate (zs.length - (Lib.compact zs).length) []).toArray)).symm
    have hlen := compact_len zs
    have hh := heap_sorted (n := q) (os := #[]) (Lib.compact zs ++ List.replicate (zs.length - (Lib.compact zs).length) []).toArray hb
    have hgr := grownBy_sorted (w := w) (g := g) (n := q) (os := #[]) (Lib.compact zs ++ List.replicate (zs.length - (Lib.compact zs).length) []).toArray
    rw [← e0] at hh hgr
    refine ⟨rfl, ⟨by simp, .inr ⟨g, c, _, rfl, hbase, hh, by omega, h2, by simp [putCells, h3], ?_⟩⟩, hgr⟩
    rw [Nat.mul_one]
    exact take_putCells_le cur _ _ (by simp; omega)

end Go.Proofs.YtcehablmloleaaaGreatDoor

namespace Go.Proofs.YtcehablmloleaaaGreatDoor
open Go.RowKit
set_option linter.unusedVariables false

/-- a symbol's weight -/
def Sy.wt : Sy → Nat
  | .policy => 3 | .decision => 1 | .expr => 6 | .orMore => 1 | .and_ => 5 | .andMore => 1 | .not_ => 4 | .compared => 1 | .sum => 3 | .sumMore => 1
  | .term => 2 | .termMore => 1 | .unary => 1 | .primary => 1 | .scopes => 2 | .scopesMore => 1 | .scope => 1 | .t _ => 1

def wtS : List Sy → Nat
  | [] => 0
  | x :: st => x.wt + wtS st

theorem wtS_app : ∀ (a b : List Sy), wtS (a ++ b) = wtS a + wtS b
  | [], b => by simp [wtS]
  | x :: a, b => by rw [List.cons_append, wtS, wtS, wtS_app a b]; omega

theorem wtS_len : ∀ (st : List Sy), st.length ≤ wtS st
  | [] => by simp [wtS]
  | x :: st => by
    have := wtS_len st
    have h1 : 1 ≤ x.wt := by cases x <;> simp [Sy.wt]
    rw [List.length_cons, wtS]; omega

/-- an expansion weighs no more, or begins with what is there -/
theorem exp_wt {x : Sy} {t : List UInt8} {m : List Sy} (h : expandS x t = some m) : wtS m ≤ x.wt ∨ (t ≠ [] ∧ (∃ m', m = .t t :: m') ∧ wtS m ≤ x.wt + 15) := by
  cases x with
  | t s => cases h
  | scope => cases h
  | and_ => cases h; left; decide
  | sum => cases h; left; decide
  | term => cases h; left; decide
  | policy =>
    simp only [expandS] at h
    split at h
    · rename_i e; cases h; subst e; right; exact ⟨by decide, ⟨_, rfl⟩, by decide⟩
    · split at h
      · rename_i e; cases h; subst e; right; exact ⟨by decide, ⟨_, rfl⟩, by decide⟩
      · cases h; left; decide
  | decision =>
    simp only [expandS] at h
    split at h
    · rename_i e; cases h; subst e; right; exact ⟨by decide, ⟨_, rfl⟩, by decide⟩
    · cases h; left; decide
  | expr =>
    simp only [expandS] at h
    split at h
    · rename_i e; cases h; subst e; right; exact ⟨by decide, ⟨_, rfl⟩, by decide⟩
    · cases h; left; decide
  | orMore =>
    simp only [expandS] at h
    split at h
    · rename_i e; cases h; subst e; right; exact ⟨by decide, ⟨_, rfl⟩, by decide⟩
    · cases h; left; decide
  | andMore =>
    simp only [expandS] at h
    split at h
    · rename_i e; cases h; subst e; right; exact ⟨by decide, ⟨_, rfl⟩, by decide⟩
    · cases h; left; decide
  | not_ =>
    simp only [expandS] at h
    split at h
    · rename_i e; cases h; subst e; right; exact ⟨by decide, ⟨_, rfl⟩, by decide⟩
    · cases h; left; decide
  | compared =>
    simp only [expandS] at h
    split at h
    · rename_i e; cases h; right; exact ⟨fun h0 => (by rw [h0] at e; revert e; decide), ⟨_, rfl⟩, by simp [wtS, Sy.wt]⟩
    · cases h; left; decide
  | sumMore =>
    simp only [expandS] at h
    split at h
    · rename_i e; cases h; right; exact ⟨fun h0 => (by rw [h0] at e; revert e; decide), ⟨_, rfl⟩, by simp [wtS, Sy.wt]⟩
    · cases h; left; decide
  | termMore =>
    simp only [expandS] at h
    split at h
    · rename_i e; cases h; right; exact ⟨fun h0 => (by rw [h0] at e; revert e; decide), ⟨_, rfl⟩, by simp [wtS, Sy.wt]⟩
    · cases h; left; decide
  | unary =>
    simp only [expandS] at h
    split at h
    · rename_i e; cases h; subst e; right; exact ⟨by decide, ⟨_, rfl⟩, by decide⟩
    · cases h; left; decide
  | primary =>
    simp only [expandS] at h
    split at h
    · rename_i e; cases h; subst e; right; exact ⟨by decide, ⟨_, rfl⟩, by decide⟩
    · split at h
      · rename_i e; cases h; subst e; right; exact ⟨by decide, ⟨_, rfl⟩, by decide⟩
      · split at h
        · rename_i e; cases h; subst e; right; exact ⟨by decide, ⟨_, rfl⟩, by decide⟩
        · split at h
          · cases h; left; simp [wtS, Sy.wt]
          · cases h; left; decide
  | scopes =>
    simp only [expandS] at h
    split at h
    · cases h; left; decide
    · cases h; left; decide
  | scopesMore =>
    simp only [expandS] at h
    split at h
    · rename_i e; cases h; subst e; right; exact ⟨by decide, ⟨_, rfl⟩, by decide⟩
    · cases h; left; decide

/-- the stack's bound -/
def InvS (B : Nat) (st : List Sy) (ts : List Tok) : Prop :=
  wtS st + 14 * ts.length ≤ B ∨ (ts ≠ [] ∧ (∃ st', st = .t (tkh ts) :: st') ∧ wtS st + 14 * ts.length ≤ B + 15)

theorem InvS.len {B : Nat} {st : List Sy} {ts : List Tok} (h : InvS B st ts) : st.length ≤ B + 15 := by
  have := wtS_len st
  rcases h with h | ⟨_, _, h⟩ <;> omega

theorem InvS.exp {B : Nat} {x : Sy} {st m : List Sy} {ts : List Tok} (h : InvS B (x :: st) ts) (he : expandS x (tkh ts) = some m) : InvS B (m ++ st) ts := by
  have h1 : wtS (x :: st) + 14 * ts.length ≤ B := by
    rcases h with h | ⟨_, ⟨st', e⟩, _⟩
    · exact h
    · injection e with e1 e2
      rw [e1] at he
      cases he
  rw [wtS] at h1
  rcases exp_wt he with h2 | ⟨h2, ⟨m', h3⟩, h4⟩
  · exact .inl (by rw [wtS_app]; omega)
  · refine .inr ⟨fun e => h2 (by rw [e]; rfl), ⟨m' ++ st, by rw [h3]; rfl⟩, by rw [wtS_app]; omega⟩

theorem InvS.pop {B : Nat} {x : Sy} {st : List Sy} {t : Tok} {r : List Tok} (h : InvS B (x :: st) (t :: r)) : InvS B st r := by
  have hx : 1 ≤ x.wt := by cases x <;> simp [Sy.wt]
  refine .inl ?_
  rcases h with h | ⟨_, _, h⟩ <;> (rw [wtS, List.length_cons] at h; omega)

/-- a terminal of the grammar's -/
def okY : Sy → Prop
  | .t s => s ∈ allW ∨ s = kNUM ∨ s = kTEXT ∨ s = kNAME
  | _ => True

instance (x : Sy) : Decidable (okY x) := by cases x <;> (unfold okY; infer_instance)

theorem exp_ok {x : Sy} {t : List UInt8} {m : List Sy} (h : expandS x t = some m) : ∀ y ∈ m, okY y := by
  have ops : ∀ k, t ∈ opsL k → okY (.t t) := fun k hk => .inl (opsL_all hk)
  cases x with
  | t s => cases h
  | scope => cases h
  | and_ => cases h; decide
  | sum => cases h; decide
  | term => cases h; decide
  | compared =>
    simp only [expandS] at h
    split at h
    · rename_i e; cases h; intro y hy; simp only [List.mem_cons, List.mem_nil_iff, or_false] at hy; rcases hy with rfl | rfl; exact ops _ e; trivial
    · cases h; decide
  | sumMore =>
    simp only [expandS] at h
    split at h
    · rename_i e; cases h; intro y hy; simp only [List.mem_cons, List.mem_nil_iff, or_false] at hy; rcases hy with rfl | rfl | rfl; exact ops _ e; trivial; trivial
    · cases h; decide
  | termMore =>
    simp only [expandS] at h
    split at h
    · rename_i e; cases h; intro y hy; simp only [List.mem_cons, List.mem_nil_iff, or_false] at hy; rcases hy with rfl | rfl | rfl; exact ops _ e; trivial; trivial
    · cases h; decide
  | primary =>
    simp only [expandS] at h
    split at h
    · cases h; decide
    · split at h
      · cases h; decide
      · split at h
        · cases h; decide
        · split at h
          · rename_i e
            cases h
            intro y hy
            rw [List.mem_singleton.1 hy]
            rcases e with rfl | rfl | rfl | rfl <;> decide
          · cases h; decide
  | policy =>
    simp only [expandS] at h
    split at h
    · cases h; decide
    · split at h <;> (cases h; decide)
  | _ =>
    simp only [expandS] at h
    split at h <;> (cases h; decide)

/-- where it is stuck, as a number -/
def unX (T : List Tok) : Option (List Tok) → Int
  | none => -1
  | some q => (T.length : Int) - (q.length : Int)

end Go.Proofs.YtcehablmloleaaaGreatDoor

namespace Go.Proofs.YtcehablmloleaaaGreatDoor
open Go.RowKit

set_option maxHeartbeats 800000 in
theorem l1has_any (a : Option Addr) (n c : Nat) (ss : List ByteArray) (s : ByteArray) (w : World) (h : Strs w a n c ss) :
    Calls Tryz.prog 71 #[.slice a n c, .string s] w fun e w' => e = .returned (.bool (hasB ss s)) ∧ w' = w := by
  have hn : n ≤ 9223372036854775807 := by have := h.cap; have := h.small; unfold maxLen at this; omega
  go_enter Tryz.func71, Tryz.ntmps71
  go_wp2
  go_loop [6, 9] (fun _ i => ∃ k : Nat, k ≤ n ∧ i = .int .i64 k ∧ ∀ j, j < k → eqS (nth ss j) s = false) (fun _ i => n - (intOf i).toNat)
  case atStart => exact ⟨0, Nat.zero_le _, rfl, fun j hj => by omega⟩
  case round =>
    obtain ⟨k, hk, rfl, ha⟩ := hrel
    have Ha := hide ha
    clear ha
    by_cases hlt : k < n
    · obtain ⟨b, off, ha', _, hc⟩ := h.cells k hlt
      subst ha'
      cases hv : ((nth ss k).toList == s.toList)
      · go_wp2
        go_round
        case rel =>
          refine ⟨k + 1, by omega, by go_num, fun j hj => ?_⟩
          by_cases e : j = k
          · subst e; exact hv
          · exact unhide Ha j (by omega)
        case measure => simp [intOf]; omega
      · have Hf := hide (hasB_at ss s k (by have := h.len; omega) hv)
        go_wp2
        go_ret
        exact ⟨ret_bool (unhide Hf).symm, rfl⟩
    · go_wp2
      go_ret
      exact ⟨ret_bool (hasB_none ss s fun j hj => unhide Ha j (by have := h.len; omega)).symm, rfl⟩

end Go.Proofs.YtcehablmloleaaaGreatDoor

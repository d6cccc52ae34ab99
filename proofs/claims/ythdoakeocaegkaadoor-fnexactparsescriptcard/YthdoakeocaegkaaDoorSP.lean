/-
  Lists of bytes, parted at a byte. Own work.
-/
import Derived.Test.YthdoakeocaegkaaDoorHid
import Derived.Lib.Split
namespace Go.Proofs.YthdoakeocaegkaaDoor
open Go.RowKit

/-- the parts of a list at a byte -/
def splitC (c : UInt8) : List UInt8 → List (List UInt8)
  | [] => [[]]
  | x :: xs => if x = c then [] :: splitC c xs else match splitC c xs with
    | [] => [[x]]
    | p :: ps => (x :: p) :: ps

theorem splitC_clean (c : UInt8) : ∀ (a : List UInt8), c ∉ a → splitC c a = [a]
  | [], _ => rfl
  | x :: xs, h => by
    have h1 : x ≠ c := fun e => h (by simp [e])
    have h2 : c ∉ xs := fun e => h (by simp [e])
    rw [splitC, if_neg h1, splitC_clean c xs h2]

theorem splitC_hit (c : UInt8) (b : List UInt8) : ∀ (a : List UInt8), c ∉ a → splitC c (a ++ c :: b) = a :: splitC c b
  | [], _ => by simp [splitC]
  | x :: xs, h => by
    have h1 : x ≠ c := fun e => h (by simp [e])
    have h2 : c ∉ xs := fun e => h (by simp [e])
    rw [List.cons_append, splitC, if_neg h1, splitC_hit c b xs h2]

theorem split_cases (c : UInt8) (l : List UInt8) : c ∉ l ∨ ∃ a b, l = a ++ c :: b ∧ c ∉ a := by
  by_cases h : c ∈ l
  · exact .inr (List.eq_append_cons_of_mem h)
  · exact .inl h

theorem splitC_ne (c : UInt8) (l : List UInt8) : splitC c l ≠ [] := by
  rcases split_cases c l with h | ⟨a, b, rfl, h⟩
  · rw [splitC_clean c l h]; simp
  · rw [splitC_hit c b a h]; simp

/-- the first part, and the others -/
theorem splitC_cons {c : UInt8} {l p : List UInt8} {ps : List (List UInt8)} (h : splitC c l = p :: ps) : (ps = [] ∧ l = p ∧ c ∉ p) ∨ (∃ b, l = p ++ c :: b ∧ c ∉ p ∧ splitC c b = ps) := by
  rcases split_cases c l with hc | ⟨a, b, rfl, hc⟩
  · rw [splitC_clean c l hc] at h
    simp only [List.cons.injEq] at h
    obtain ⟨rfl, rfl⟩ := h
    exact .inl ⟨rfl, rfl, hc⟩
  · rw [splitC_hit c b a hc] at h
    simp only [List.cons.injEq] at h
    obtain ⟨rfl, rfl⟩ := h
    exact .inr ⟨b, rfl, hc, rfl⟩

theorem splitC_mem {c x : UInt8} (hx : x ≠ c) : ∀ {l : List UInt8}, x ∈ l → ∃ p ∈ splitC c l, x ∈ p
  | y :: ys, h => by
    rw [splitC]
    by_cases hy : y = c
    · rw [if_pos hy]
      have : x ∈ ys := by
        rcases List.mem_cons.1 h with e | e
        · exact absurd (e.trans hy) hx
        · exact e
      obtain ⟨p, hp, k⟩ := splitC_mem hx this
      exact ⟨p, List.mem_cons_of_mem _ hp, k⟩
    · rw [if_neg hy]
      cases hs : splitC c ys with
      | nil => exact absurd hs (splitC_ne c ys)
      | cons p ps =>
        rcases List.mem_cons.1 h with e | e
        · exact ⟨y :: p, by simp, by simp [e]⟩
        · obtain ⟨q, hq, k⟩ := splitC_mem hx e
          rw [hs] at hq
          rcases List.mem_cons.1 hq with e' | e'
          · exact ⟨y :: p, by simp, by rw [← e']; simp [k]⟩
          · exact ⟨q, by simp [e'], k⟩

theorem splitC_le {c : UInt8} : ∀ {l p : List UInt8}, p ∈ splitC c l → p.length ≤ l.length
  | [], p, h => by simp [splitC] at h; simp [h]
  | y :: ys, p, h => by
    rw [splitC] at h
    by_cases hy : y = c
    · rw [if_pos hy] at h
      rcases List.mem_cons.1 h with e | e
      · simp [e]
      · have := splitC_le e; simp; omega
    · rw [if_neg hy] at h
      cases hs : splitC c ys with
      | nil => exact absurd hs (splitC_ne c ys)
      | cons q qs =>
        rw [hs] at h
        rcases List.mem_cons.1 h with e | e
        · have := splitC_le (c := c) (l := ys) (p := q) (by rw [hs]; simp)
          rw [e]; simp; omega
        · have := splitC_le (c := c) (l := ys) (p := p) (by rw [hs]; simp [e])
          simp; omega

theorem splitC_len (c : UInt8) : ∀ (l : List UInt8), (splitC c l).length ≤ l.length + 1
  | [] => by simp [splitC]
  | y :: ys => by
    have := splitC_len c ys
    rw [splitC]
    by_cases hy : y = c
    · rw [if_pos hy]; simp; omega
    · rw [if_neg hy]
      cases hs : splitC c ys with
      | nil => simp
      | cons q qs => rw [hs] at this; simp at this ⊢; omega

theorem index_clean (c : UInt8) : ∀ (l : List UInt8), c ∉ l → Lib.index l [c] = -1
  | [], _ => by simp [Lib.index]
  | x :: xs, h => by
    have h1 : (c == x) = false := by rw [beq_eq_false_iff_ne]; exact fun e => h (by simp [e])
    rw [Lib.index, index_clean c xs (fun e => h (by simp [e]))]
    simp [List.isPrefixOf, h1]

theorem index_hit (c : UInt8) (b : List UInt8) : ∀ (a : List UInt8), c ∉ a → Lib.index (a ++ c :: b) [c] = a.length
  | [], _ => by simp [Lib.index, List.isPrefixOf]
  | x :: xs, h => by
    have h1 : (c == x) = false := by rw [beq_eq_false_iff_ne]; exact fun e => h (by simp [e])
    rw [List.cons_append, Lib.index, index_hit c b xs (fun e => h (by simp [e]))]
    have h2 : ((xs.length : Int) == -1) = false := by rw [beq_eq_false_iff_ne]; omega
    simp [List.isPrefixOf, h1, h2]

theorem splitK_count (c : UInt8) : ∀ (f : Nat) (l : List UInt8), l.length < f → Lib.splitK [c] 0 (Lib.countFrom [c] f l) l = splitC c l ∧ (splitC c l).length = Lib.countFrom [c] f l + 1
  | 0, _, h => absurd h (Nat.not_lt_zero _)
  | f + 1, l, h => by
    rcases split_cases c l with hc | ⟨a, b, rfl, hc⟩
    · rw [Lib.countFrom, index_clean c l hc, splitC_clean c l hc]
      exact ⟨rfl, rfl⟩
    · have hi := index_hit c b a hc
      have hd : (a ++ c :: b).drop (a.length + 1) = b := by simp
      have ht : (a ++ c :: b).take (a.length + 0) = a := by simp
      obtain ⟨e1, e2⟩ := splitK_count c f b (by simp at h; omega)
      have h2 : ((a.length : Int) == -1) = false := by rw [beq_eq_false_iff_ne]; omega
      have hn : ((a.length : Int)).toNat = a.length := by omega
      rw [Lib.countFrom, hi, if_neg (by simp [h2]), hn, List.length_singleton, hd, Nat.add_comm 1, Lib.splitK, hi, if_neg (by simp [h2]), hn, List.length_singleton, hd, ht, e1, splitC_hit c b a hc]
      exact ⟨rfl, by simp [e2]⟩

theorem split_eq (c : UInt8) (l : List UInt8) : Lib.splitK [c] 0 (Lib.count l [c]) l = splitC c l ∧ (splitC c l).length = Lib.count l [c] + 1 := splitK_count c _ l (Nat.lt_succ_self _)

theorem cut_clean (c : UInt8) (l : List UInt8) (h : c ∉ l) : Lib.cut l [c] = (l, [], false) := by
  rw [Lib.cut, index_clean c l h]; rfl

theorem cut_hit (c : UInt8) (a b : List UInt8) (h : c ∉ a) : Lib.cut (a ++ c :: b) [c] = (a, b, true) := by
  rw [Lib.cut, index_hit c b a h, if_pos (by omega)]
  simp

/-- what cutField is -/
def cutF (lb t : List UInt8) : List UInt8 × List UInt8 × Bool := if lb.isPrefixOf t then Lib.cut (t.drop lb.length) [32] else ([], [], false)

theorem cutF_hit (lb a b : List UInt8) (h : (32 : UInt8) ∉ a) : cutF lb (lb ++ (a ++ 32 :: b)) = (a, b, true) := by
  rw [cutF, if_pos (List.isPrefixOf_iff_prefix.2 ⟨_, rfl⟩), List.drop_left, cut_hit 32 a b h]

theorem cutF_true {lb t a b : List UInt8} (h : cutF lb t = (a, b, true)) : t = lb ++ (a ++ 32 :: b) ∧ (32 : UInt8) ∉ a := by
  rw [cutF] at h
  split at h
  case isTrue hp =>
    obtain ⟨r, rfl⟩ := List.isPrefixOf_iff_prefix.1 hp
    rw [List.drop_left] at h
    rcases split_cases 32 r with hc | ⟨a', b', rfl, hc⟩
    · rw [cut_clean 32 r hc] at h; simp at h
    · rw [cut_hit 32 a' b' hc] at h
      simp only [Prod.mk.injEq, and_true] at h
      obtain ⟨rfl, rfl⟩ := h
      exact ⟨rfl, hc⟩
  case isFalse hp => simp at h

end Go.Proofs.YthdoakeocaegkaaDoor

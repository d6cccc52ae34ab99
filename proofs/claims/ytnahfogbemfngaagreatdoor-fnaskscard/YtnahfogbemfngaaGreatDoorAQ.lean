/-
  The text of an ask, and back: plain facts on digits and lists. Own work.
-/
import Derived.Test.YtnahfogbemfngaaGreatDoorPQ
import Derived.Lib.ItoaNum
import Derived.Lib.Join
namespace Go.Proofs.YtnahfogbemfngaaGreatDoor
open Go.RowKit
set_option linter.unusedVariables false

theorem ofNat_dig (g : Nat) (h : g < 10) : (UInt8.ofNat (48 + g)).toNat = 48 + g := by
  rw [UInt8.toNat_ofNat']; omega

theorem dg_of (g : Nat) (h : g < 10) : dgB (UInt8.ofNat (48 + g)) = true := by
  simp only [dgB, dgI, decide_eq_true_eq, ofNat_dig g h]; omega

theorem dec_small {n : Nat} (h : n < 10) : Lib.decDigits n = [UInt8.ofNat (48 + n)] := by rw [Lib.decDigits, dif_pos h]
theorem dec_big {n : Nat} (h : 10 ≤ n) : Lib.decDigits n = Lib.decDigits (n / 10) ++ [UInt8.ofNat (48 + n % 10)] := by rw [Lib.decDigits, dif_neg (by omega)]

theorem dec_facts (n : Nat) : lvV (Lib.decDigits n) = n ∧ (Lib.decDigits n).all dgB = true ∧ 1 ≤ (Lib.decDigits n).length ∧ (1 ≤ n → (Lib.decDigits n).head? ≠ some 48) ∧ (10 ≤ n ∨ (Lib.decDigits n).length = 1) := by
  induction n using Nat.strongRecOn with
  | _ n ih =>
    by_cases h : n < 10
    · rw [dec_small h]
      refine ⟨?_, ?_, by simp, ?_, .inr rfl⟩
      · simp only [lvV, List.foldl_cons, List.foldl_nil, ofNat_dig n h]; omega
      · simp only [List.all_cons, List.all_nil, Bool.and_true]; exact dg_of n h
      · intro h1 e
        simp only [List.head?_cons, Option.some.injEq] at e
        have := congrArg UInt8.toNat e
        rw [ofNat_dig n h] at this
        have k : (48 : UInt8).toNat = 48 := rfl
        omega
    · obtain ⟨i1, i2, i3, i4, _⟩ := ih (n / 10) (by omega)
      rw [dec_big (by omega)]
      refine ⟨?_, ?_, by simp, ?_, .inl (by omega)⟩
      · rw [lvV_snoc, i1, ofNat_dig _ (by omega)]; omega
      · rw [List.all_append, i2]; simp only [List.all_cons, List.all_nil, Bool.and_true, Bool.true_and]; exact dg_of _ (by omega)
      · intro _
        rw [List.head?_append]
        have := i4 (by omega)
        cases hh : (Lib.decDigits (n / 10)).head? with
        | none => rw [List.head?_eq_none_iff] at hh; rw [hh] at i3; simp at i3
        | some x => rw [hh] at this; simpa using this

theorem dec_len : ∀ (k n : Nat), n < 10 ^ (k + 1) → (Lib.decDigits n).length ≤ k + 1
  | 0, n, h => by rw [dec_small (by simpa using h)]; simp
  | k + 1, n, h => by
    by_cases h1 : n < 10
    · rw [dec_small h1]; simp
    · rw [dec_big (by omega), List.length_append]
      have := dec_len k (n / 10) (by rw [Nat.pow_succ] at h; omega)
      simp; omega

theorem lvOK_dec {n : Nat} (h : n ≤ 9999999) : lvOK (Lib.decDigits n) = true := by
  obtain ⟨_, i2, i3, i4, i5⟩ := dec_facts n
  have := dec_len 6 n (by omega)
  rw [lvOK, i2, decide_eq_true ⟨i3, this⟩]
  rcases i5 with i5 | i5
  · rw [decide_eq_true (i4 (by omega))]; simp
  · rw [decide_eq_true i5]; rfl

/-- a digit's number -/
theorem dgB_val {x : UInt8} (h : dgB x = true) : ∃ g, g < 10 ∧ x = UInt8.ofNat (48 + g) ∧ (x.toNat : Int) - 48 = g := by
  simp only [dgB, dgI, decide_eq_true_eq] at h
  refine ⟨x.toNat - 48, by omega, ?_, by omega⟩
  apply UInt8.toNat_inj.1
  rw [ofNat_dig _ (by omega)]; omega

theorem lv_pos : ∀ (k : Nat) (d : List UInt8), d.length = k + 1 → d.all dgB = true → d.head? ≠ some 48 → 1 ≤ lvV d
  | 0, d, hl, ha, hh => by
    match d, hl with
    | [x], _ =>
      obtain ⟨g, g1, g2, g3⟩ := dgB_val (by simpa using ha : dgB x = true)
      simp only [lvV, List.foldl_cons, List.foldl_nil, g3]
      by_cases e : g = 0
      · subst e; exact absurd (by rw [g2]; rfl) hh
      · omega
  | k + 1, d, hl, ha, hh => by
    have hne : d ≠ [] := fun e => by subst e; simp at hl
    have e := List.dropLast_concat_getLast hne
    have hd : d.dropLast.length = k + 1 := by simp; omega
    rw [← e] at ha hh ⊢
    rw [List.all_append, Bool.and_eq_true] at ha
    obtain ⟨g, g1, g2, g3⟩ := dgB_val (by simpa using ha.2 : dgB (d.getLast hne) = true)
    have := lv_pos k d.dropLast hd ha.1 (fun q => hh (by rw [List.head?_append, q]; rfl))
    rw [lvV_snoc, g3]; omega

theorem dec_of_lv : ∀ (k : Nat) (d : List UInt8), d.length = k + 1 → d.all dgB = true → (d.length = 1 ∨ d.head? ≠ some 48) → Lib.decDigits (lvV d).toNat = d
  | 0, d, hl, ha, _ => by
    match d, hl with
    | [x], _ =>
      obtain ⟨g, g1, g2, g3⟩ := dgB_val (by simpa using ha : dgB x = true)
      have : lvV [x] = g := by simp only [lvV, List.foldl_cons, List.foldl_nil, g3]; omega
      rw [this, Int.toNat_natCast, dec_small g1, g2]
  | k + 1, d, hl, ha, hh => by
    have hne : d ≠ [] := fun e => by subst e; simp at hl
    have e := List.dropLast_concat_getLast hne
    have hd : d.dropLast.length = k + 1 := by simp; omega
    have hh : d.head? ≠ some 48 := by
      rcases hh with h | h
      · omega
      · exact h
    rw [← e] at ha hh
    rw [List.all_append, Bool.and_eq_true] at ha
    obtain ⟨g, g1, g2, g3⟩ := dgB_val (by simpa using ha.2 : dgB (d.getLast hne) = true)
    have hq : d.dropLast.head? ≠ some 48 := fun q => hh (by rw [List.head?_append, q]; rfl)
    have p := lv_pos k d.dropLast hd ha.1 hq
    have ih := dec_of_lv k d.dropLast hd ha.1 (.inr hq)
    have v : lvV d = lvV d.dropLast * 10 + g := by
      conv => lhs; rw [← e]
      rw [lvV_snoc, g3]
    have t : (lvV d).toNat = (lvV d.dropLast).toNat * 10 + g := by rw [v]; omega
    have q1 : ((lvV d.dropLast).toNat * 10 + g) / 10 = (lvV d.dropLast).toNat := by omega
    have q2 : ((lvV d.dropLast).toNat * 10 + g) % 10 = g := by omega
    rw [t, dec_big (by omega), q1, q2, ih, ← g2]
    exact e

theorem dec_back {d : List UInt8} (h : lvOK d = true) : Lib.decDigits (lvV d).toNat = d := by
  simp only [lvOK, Bool.and_eq_true, decide_eq_true_eq, Bool.or_eq_true] at h
  exact dec_of_lv (d.length - 1) d (by omega) h.1.2 h.2

theorem lv_range {d : List UInt8} (h : lvOK d = true) : 0 ≤ lvV d ∧ lvV d ≤ 9999999 := by
  simp only [lvOK, Bool.and_eq_true, decide_eq_true_eq] at h
  obtain ⟨b1, b2⟩ := lvV_bound d.length d rfl h.1.2
  refine ⟨b1, ?_⟩
  have : 10 ^ d.length ≤ 10 ^ 7 := Nat.pow_le_pow_right (n := 10) (by decide) h.1.1.2
  have e1 : 10 ^ 7 = 10000000 := rfl
  have e2 : (10 : Int) ^ d.length = ((10 ^ d.length : Nat) : Int) := (Int.natCast_pow 10 d.length).symm
  omega

/-! lists of names with commas between them -/

theorem join_two (x y : List UInt8) (r : List (List UInt8)) : Lib.join (x :: y :: r) [44] = x ++ 44 :: Lib.join (y :: r) [44] := by
  simp [Lib.join, List.intercalate, List.intersperse]

theorem split_join : ∀ (ns : List (List UInt8)), ns ≠ [] → (∀ p ∈ ns, (44 : UInt8) ∉ p) → splitC 44 (Lib.join ns [44]) = ns
  | [x], _, h => by rw [Lib.join_one, splitC_clean 44 x (h x (by simp))]
  | x :: y :: r, _, h => by
    rw [join_two, splitC_hit 44 _ x (h x (by simp)), split_join (y :: r) (by simp) (fun p hp => h p (by simp [hp]))]

def tot1 (ps : List (List UInt8)) : Nat := (ps.map fun p => p.length + 1).sum

theorem join_tot : ∀ (ns : List (List UInt8)), ns ≠ [] → (Lib.join ns [44]).length + 1 = tot1 ns
  | [x], _ => by rw [Lib.join_one]; simp [tot1]
  | x :: y :: r, _ => by
    have := join_tot (y :: r) (by simp)
    rw [join_two]
    simp only [tot1, List.map_cons, List.sum_cons, List.length_append, List.length_cons] at this ⊢
    omega

theorem split_tot (c : UInt8) : ∀ (l : List UInt8), tot1 (splitC c l) = l.length + 1
  | [] => rfl
  | x :: xs => by
    have := split_tot c xs
    rw [splitC]
    by_cases h : x = c
    · rw [if_pos h]
      simp only [tot1, List.map_cons, List.sum_cons, List.length_nil, List.length_cons] at this ⊢
      omega
    · rw [if_neg h]
      cases hs : splitC c xs with
      | nil => exact absurd hs (splitC_ne c xs)
      | cons p ps =>
        rw [hs] at this
        simp only [tot1, List.map_cons, List.sum_cons, List.length_cons] at this ⊢
        omega

theorem nodup_tot : ∀ (K P : List (List UInt8)), K.Nodup → (∀ x ∈ K, x ∈ P) → tot1 K ≤ tot1 P
  | [], _, _, _ => Nat.zero_le _
  | x :: K, P, hn, hs => by
    obtain ⟨l1, l2, rfl⟩ := List.append_of_mem (hs x (by simp))
    rw [List.nodup_cons] at hn
    have := nodup_tot K (l1 ++ l2) hn.2 (fun y hy => by
      have hm := hs y (by simp [hy])
      rw [List.mem_append, List.mem_cons] at hm
      rw [List.mem_append]
      rcases hm with h | h | h
      · exact .inl h
      · subst h; exact absurd hy hn.1
      · exact .inr h)
    simp only [tot1, List.map_append, List.map_cons, List.sum_append, List.sum_cons] at this ⊢
    omega

end Go.Proofs.YtnahfogbemfngaaGreatDoor

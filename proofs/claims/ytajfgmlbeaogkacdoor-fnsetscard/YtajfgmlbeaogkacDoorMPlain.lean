/-
  Merging two rising lists: plain facts. Own work.
-/
import Derived.Test.YtajfgmlbeaogkacDoorPickP
namespace Go.Proofs.YtajfgmlbeaogkacDoor
open Go.RowKit

/-- where a merge stands -/
structure MInv (ss tt : List ByteArray) (i j : Nat) : Prop where
  i_le : i ≤ ss.length
  j_le : j ≤ tt.length
  A : ∀ p q, p < i → j ≤ q → q < tt.length → sl (nth ss p) (nth tt q) = true
  B : ∀ p q, q < j → i ≤ p → p < ss.length → sl (nth tt q) (nth ss p) = true

theorem MInv.start (ss tt : List ByteArray) : MInv ss tt 0 0 := ⟨Nat.zero_le _, Nat.zero_le _, fun p q h => by omega, fun p q h => by omega⟩

variable {ss tt : List ByteArray} {i j : Nat}

theorem ne_of_sl {a b : ByteArray} (h : sl a b = true) : eqS b a = false := by
  rw [Bool.eq_false_iff]; intro k; rw [eqS_iff] at k; subst k; rw [sl_irrefl] at h; cases h

theorem ne_of_sl' {a b : ByteArray} (h : sl a b = true) : eqS a b = false := by
  rw [Bool.eq_false_iff]; intro k; rw [eqS_iff] at k; subst k; rw [sl_irrefl] at h; cases h

theorem rise_le (hr : risB tt = true) {p q : Nat} (hpq : p ≤ q) (hq : q < tt.length) {x : ByteArray} (h : sl x (nth tt p) = true) : sl x (nth tt q) = true := by
  by_cases e : p = q
  · subst e; exact h
  · exact sl_trans h ((risB_iff tt).1 hr p q (by omega) hq)

/-- the left one comes next -/
theorem MInv.left (h : MInv ss tt i j) (ht : risB tt = true) (hi : i < ss.length) (hc : j < tt.length → sl (nth ss i) (nth tt j) = true) : MInv ss tt (i + 1) j ∧ hasB tt (nth ss i) = false := by
  have hA : ∀ q, j ≤ q → q < tt.length → sl (nth ss i) (nth tt q) = true := fun q hq hq' => rise_le ht hq hq' (hc (by omega))
  refine ⟨⟨by omega, h.j_le, fun p q hp hq hq' => ?_, fun p q hq hp hp' => h.B p q hq (by omega) hp'⟩, hasB_none _ _ fun q hq => ?_⟩
  · by_cases e : p = i
    · subst e; exact hA q hq hq'
    · exact h.A p q (by omega) hq hq'
  · by_cases e : q < j
    · exact ne_of_sl' (h.B i q e (Nat.le_refl _) hi)
    · exact ne_of_sl (hA q (by omega) hq)

/-- the right one comes next -/
theorem MInv.right (h : MInv ss tt i j) (hs : risB ss = true) (hj : j < tt.length) (hc : i < ss.length → sl (nth tt j) (nth ss i) = true) : MInv ss tt i (j + 1) ∧ hasB ss (nth tt j) = false := by
  have hB : ∀ p, i ≤ p → p < ss.length → sl (nth tt j) (nth ss p) = true := fun p hp hp' => rise_le hs hp hp' (hc (by omega))
  refine ⟨⟨h.i_le, by omega, fun p q hp hq hq' => h.A p q hp (by omega) hq', fun p q hq hp hp' => ?_⟩, hasB_none _ _ fun p hp => ?_⟩
  · by_cases e : q = j
    · subst e; exact hB p hp hp'
    · exact h.B p q (by omega) hp hp'
  · by_cases e : p < i
    · exact ne_of_sl' (h.A p j e (Nat.le_refl _) hj)
    · exact ne_of_sl (hB p (by omega) hp)

/-- the two are one -/
theorem MInv.both (h : MInv ss tt i j) (hs : risB ss = true) (ht : risB tt = true) (hi : i < ss.length) (hj : j < tt.length) (h1 : sl (nth ss i) (nth tt j) = false) (h2 : sl (nth tt j) (nth ss i) = false) :
    MInv ss tt (i + 1) (j + 1) ∧ hasB tt (nth ss i) = true ∧ nth ss i = nth tt j := by
  have e := sl_tri _ _ h1 h2
  refine ⟨⟨by omega, by omega, fun p q hp hq hq' => ?_, fun p q hq hp hp' => ?_⟩, ?_, e⟩
  · by_cases k : p = i
    · subst k; rw [e]; exact (risB_iff tt).1 ht j q (by omega) hq'
    · exact h.A p q (by omega) (by omega) hq'
  · by_cases k : q = j
    · subst k; rw [← e]; exact (risB_iff ss).1 hs i p (by omega) hp'
    · exact h.B p q (by omega) (by omega) hp'
  · exact hasB_at _ _ j hj ((eqS_iff _ _).2 e.symm)

/-- What has been kept: by 'onLeftOnly', 'onBothSides', 'onAnySide'. -/
structure KL (ss tt : List ByteArray) (i j : Nat) (K : List ByteArray) : Prop where
  out : K = pick (ss.take i) tt false
structure KB (ss tt : List ByteArray) (i j : Nat) (K : List ByteArray) : Prop where
  out : K = pick (ss.take i) tt true
structure KA (ss tt : List ByteArray) (i j : Nat) (K : List ByteArray) : Prop where
  rise : risB K = true
  mem : ∀ x, x ∈ K ↔ x ∈ ss.take i ∨ x ∈ tt.take j

theorem KL.start : KL ss tt 0 0 [] := ⟨rfl⟩
theorem KB.start : KB ss tt 0 0 [] := ⟨rfl⟩
theorem KA.start : KA ss tt 0 0 [] := ⟨by rfl, by simp⟩

variable {K : List ByteArray}

theorem KL.left (k : KL ss tt i j K) (h : MInv ss tt i j) (ht : risB tt = true) (hi : i < ss.length) (hc : j < tt.length → sl (nth ss i) (nth tt j) = true) : KL ss tt (i + 1) j (K ++ [nth ss i]) :=
  ⟨by rw [pick_yes ss tt false i hi (by rw [(h.left ht hi hc).2]; rfl), k.out]⟩
theorem KL.right (k : KL ss tt i j K) : KL ss tt i (j + 1) K := ⟨k.out⟩
theorem KL.both (k : KL ss tt i j K) (h : MInv ss tt i j) (hs : risB ss = true) (ht : risB tt = true) (hi : i < ss.length) (hj : j < tt.length) (h1 : sl (nth ss i) (nth tt j) = false) (h2 : sl (nth tt j) (nth ss i) = false) : KL ss tt (i + 1) (j + 1) K :=
  ⟨by rw [pick_no ss tt false i hi (by rw [(h.both hs ht hi hj h1 h2).2.1]; rfl), k.out]⟩
theorem KL.last (k : KL ss tt ss.length j K) : K = pick ss tt false := by rw [k.out, List.take_length]

theorem KB.left (k : KB ss tt i j K) (h : MInv ss tt i j) (ht : risB tt = true) (hi : i < ss.length) (hc : j < tt.length → sl (nth ss i) (nth tt j) = true) : KB ss tt (i + 1) j K :=
  ⟨by rw [pick_no ss tt true i hi (by rw [(h.left ht hi hc).2]; rfl), k.out]⟩
theorem KB.right (k : KB ss tt i j K) : KB ss tt i (j + 1) K := ⟨k.out⟩
theorem KB.both (k : KB ss tt i j K) (h : MInv ss tt i j) (hs : risB ss = true) (ht : risB tt = true) (hi : i < ss.length) (hj : j < tt.length) (h1 : sl (nth ss i) (nth tt j) = false) (h2 : sl (nth tt j) (nth ss i) = false) : KB ss tt (i + 1) (j + 1) (K ++ [nth ss i]) :=
  ⟨by rw [pick_yes ss tt true i hi (by rw [(h.both hs ht hi hj h1 h2).2.1]; rfl), k.out]⟩
theorem KB.last (k : KB ss tt ss.length j K) : K = pick ss tt true := by rw [k.out, List.take_length]

theorem risB_snoc (x : ByteArray) (h : risB K = true) (hx : ∀ y ∈ K, sl y x = true) : risB (K ++ [x]) = true := by
  rw [risB, decide_eq_true_eq] at *
  rw [List.pairwise_append]
  refine ⟨h, by simp, fun a ha b hb => ?_⟩
  simp only [List.mem_singleton] at hb
  subst hb; exact hx a ha

theorem mem_take_nth (x : ByteArray) (h : x ∈ ss.take i) : ∃ p, p < i ∧ p < ss.length ∧ nth ss p = x := by
  obtain ⟨p, hp, e⟩ := (mem_nth _ _).1 h
  have hl : (ss.take i).length ≤ i := List.length_take_le _ _
  have hl2 : (ss.take i).length ≤ ss.length := by simp; omega
  refine ⟨p, by omega, by omega, ?_⟩
  rw [← e, nth_eq _ p hp, nth_eq _ p (by omega), List.getElem_take]

theorem KA.left (k : KA ss tt i j K) (h : MInv ss tt i j) (hs : risB ss = true) (hi : i < ss.length) : KA ss tt (i + 1) j (K ++ [nth ss i]) :=
  ⟨risB_snoc _ k.rise fun y hy => by
    rcases (k.mem y).1 hy with hy | hy
    · obtain ⟨p, hp, hp', rfl⟩ := mem_take_nth y hy
      exact (risB_iff ss).1 hs p i hp hi
    · obtain ⟨q, hq, hq', rfl⟩ := mem_take_nth y hy
      exact h.B i q hq (Nat.le_refl _) hi,
  fun x => by rw [List.mem_append, k.mem, take_succ_nth ss i hi, List.mem_append]; simp only [List.mem_singleton]; constructor <;> intro h <;> (rcases h with (h | h) | h <;> simp [h])⟩

theorem KA.right (k : KA ss tt i j K) (h : MInv ss tt i j) (ht : risB tt = true) (hj : j < tt.length) : KA ss tt i (j + 1) (K ++ [nth tt j]) :=
  ⟨risB_snoc _ k.rise fun y hy => by
    rcases (k.mem y).1 hy with hy | hy
    · obtain ⟨p, hp, hp', rfl⟩ := mem_take_nth y hy
      exact h.A p j hp (Nat.le_refl _) hj
    · obtain ⟨q, hq, hq', rfl⟩ := mem_take_nth y hy
      exact (risB_iff tt).1 ht q j hq hj,
  fun x => by rw [List.mem_append, k.mem, take_succ_nth tt j hj, List.mem_append]; simp only [List.mem_singleton]; constructor <;> intro h <;> (first | (rcases h with (h | h) | h <;> simp [h]) | (rcases h with h | h | h <;> simp [h]))⟩

theorem KA.both (k : KA ss tt i j K) (h : MInv ss tt i j) (hs : risB ss = true) (hi : i < ss.length) (hj : j < tt.length) (h1 : sl (nth ss i) (nth tt j) = false) (h2 : sl (nth tt j) (nth ss i) = false) : KA ss tt (i + 1) (j + 1) (K ++ [nth ss i]) := by
  have e := sl_tri _ _ h1 h2
  have k' := k.left h hs hi
  refine ⟨k'.rise, fun x => ?_⟩
  rw [k'.mem, take_succ_nth tt j hj, List.mem_append, take_succ_nth ss i hi, List.mem_append, e]
  simp only [List.mem_singleton]
  constructor <;> intro h
  · rcases h with (h | h) | h <;> simp [h]
  · rcases h with (h | h) | (h | h) <;> simp [h]

end Go.Proofs.YtajfgmlbeaogkacDoor

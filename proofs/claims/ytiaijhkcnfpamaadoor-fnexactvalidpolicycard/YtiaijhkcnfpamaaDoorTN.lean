/-
  Digits of one length: as texts and as numbers. Own work.
-/
import Derived.Test.YtiaijhkcnfpamaaDoorTK
namespace Go.Proofs.YtiaijhkcnfpamaaDoor
open Go.RowKit

theorem lvV_from : ∀ (l : List UInt8) (n : Int), l.foldl (fun n x => n * 10 + ((x.toNat : Int) - 48)) n = n * 10 ^ l.length + lvV l
  | [], n => by simp [lvV]
  | x :: xs, n => by
    have e : lvV (x :: xs) = (0 * 10 + ((x.toNat : Int) - 48)) * 10 ^ xs.length + lvV xs := lvV_from xs _
    rw [List.foldl_cons, lvV_from xs, e, List.length_cons, Int.pow_succ]
    rw [Int.add_mul, Int.add_mul]
    have : n * 10 * 10 ^ xs.length = n * (10 ^ xs.length * 10) := by rw [Int.mul_assoc, Int.mul_comm 10]
    omega

theorem lvV_cons (x : UInt8) (l : List UInt8) : lvV (x :: l) = ((x.toNat : Int) - 48) * 10 ^ l.length + lvV l := by
  rw [lvV, List.foldl_cons, lvV_from]
  simp

theorem lvV_lt : ∀ (a b : List UInt8), a.length = b.length → a.all dgB = true → b.all dgB = true → (a < b ↔ lvV a < lvV b)
  | [], [], _, _, _ => by simp
  | [], _ :: _, h, _, _ => by simp at h
  | _ :: _, [], h, _, _ => by simp at h
  | x :: xs, y :: ys, h, ha, hb => by
    have h' : xs.length = ys.length := by simpa using h
    rw [List.all_cons, Bool.and_eq_true] at ha hb
    have ih := lvV_lt xs ys h' ha.2 hb.2
    obtain ⟨a1, a2⟩ := lvV_bound _ xs rfl ha.2
    obtain ⟨b1, b2⟩ := lvV_bound _ ys rfl hb.2
    rw [lvV_cons, lvV_cons, List.cons_lt_cons_iff, ih, h']
    rw [h'] at a2
    have hp : (0 : Int) < 10 ^ ys.length := by omega
    generalize (10 : Int) ^ ys.length = p at *
    rcases Nat.lt_trichotomy x.toNat y.toNat with e | e | e
    · have h1 : x < y := UInt8.lt_iff_toNat_lt.2 e
      have : ((x.toNat : Int) - 48 + 1) * p ≤ ((y.toNat : Int) - 48) * p := Int.mul_le_mul_of_nonneg_right (by omega) (by omega)
      rw [Int.add_mul] at this
      constructor
      · intro _; omega
      · intro _; exact .inl h1
    · have h1 : x = y := UInt8.toNat_inj.1 e
      subst h1
      constructor
      · rintro (h | ⟨_, h⟩)
        · exact absurd h (by simp [UInt8.lt_irrefl])
        · omega
      · intro h; exact .inr ⟨rfl, by omega⟩
    · have h1 : y < x := UInt8.lt_iff_toNat_lt.2 e
      have : ((y.toNat : Int) - 48 + 1) * p ≤ ((x.toNat : Int) - 48) * p := Int.mul_le_mul_of_nonneg_right (by omega) (by omega)
      rw [Int.add_mul] at this
      constructor
      · rintro (h | ⟨h, _⟩)
        · exfalso; have h2 := UInt8.lt_iff_toNat_lt.1 h; omega
        · subst h; omega
      · intro h; omega

def maxT : List UInt8 := [57, 50, 50, 51, 51, 55, 50, 48, 51, 54, 56, 53, 52, 55, 55, 53, 56, 48, 55]

theorem maxT_v : lvV maxT = 9223372036854775807 := by decide

theorem runL_all (p : UInt8 → Bool) (r : List UInt8) : (r.take (runL p r)).all p = true := by
  have : r.take (runL p r) = r.takeWhile p := by
    obtain ⟨t, ht⟩ := List.takeWhile_prefix p (l := r)
    rw [runL]
    have e : (r.takeWhile p ++ t).take (r.takeWhile p).length = r.takeWhile p := by simp
    rw [ht] at e
    exact e
  rw [this, List.all_takeWhile]

theorem lvV_take_le (k : Nat) (d : List UInt8) (h : d.all dgB = true) : 0 ≤ lvV (d.take k) ∧ lvV (d.take k) ≤ lvV d := by
  have h1 : (d.take k).all dgB = true := by rw [List.all_eq_true] at h ⊢; exact fun x hx => h x (List.mem_of_mem_take hx)
  have h2 : (d.drop k).all dgB = true := by rw [List.all_eq_true] at h ⊢; exact fun x hx => h x (List.mem_of_mem_drop hx)
  obtain ⟨a1, _⟩ := lvV_bound _ _ rfl h1
  obtain ⟨b1, b2⟩ := lvV_bound _ _ rfl h2
  refine ⟨a1, ?_⟩
  conv => rhs; rw [← List.take_append_drop k d, lvV, List.foldl_append, lvV_from]
  have hp : (1 : Int) ≤ 10 ^ (d.drop k).length := by omega
  have := Int.mul_le_mul_of_nonneg_left hp a1
  have e : lvV (d.take k) = List.foldl (fun n x => n * 10 + ((x.toNat : Int) - 48)) 0 (d.take k) := rfl
  rw [← e]
  omega

end Go.Proofs.YtiaijhkcnfpamaaDoor

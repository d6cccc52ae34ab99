/-
  The walk over the model's blanks. Own work.
-/
import Derived.Test.YthndlhlafkldjacDoorTS
namespace Go.Proofs.YthndlhlafkldjacDoor
open Go.RowKit
set_option linter.unusedVariables false

def blB (c : Int) : Bool := decide (c = 32 ∨ c = 10 ∨ c = 9)

theorem blk_at (s : ByteArray) (k : Nat) (h : k < s.size) (hb : (s[k].toNat : Int) = 32 ∨ (s[k].toNat : Int) = 10 ∨ (s[k].toNat : Int) = 9) : blk false ((toL s).drop k) = blk false ((toL s).drop (k + 1)) := by
  rw [drop_cons s k h, blk, if_pos]
  rcases hb with h | h | h
  · exact .inl (UInt8.toNat_inj.1 (by have : (32 : UInt8).toNat = 32 := rfl; omega))
  · exact .inr (.inl (UInt8.toNat_inj.1 (by have : (10 : UInt8).toNat = 10 := rfl; omega)))
  · exact .inr (.inr (UInt8.toNat_inj.1 (by have : (9 : UInt8).toNat = 9 := rfl; omega)))

theorem nblank {c : UInt8} (h1 : ¬ (c.toNat : Int) = 32) (h2 : ¬ (c.toNat : Int) = 10) (h3 : ¬ (c.toNat : Int) = 9) : ¬ (c = 32 ∨ c = 10 ∨ c = 9) := by
  rintro (h | h | h)
  · subst h; exact h1 rfl
  · subst h; exact h2 rfl
  · subst h; exact h3 rfl

theorem blk_hash (s : ByteArray) (k : Nat) (h : k < s.size) (hb : (s[k].toNat : Int) = 35) : blk false ((toL s).drop k) = blk true ((toL s).drop k) := by
  have e : s[k] = 35 := UInt8.toNat_inj.1 (by have : (35 : UInt8).toNat = 35 := rfl; omega)
  rw [drop_cons s k h, e]
  generalize (toL s).drop (k + 1) = r
  simp [blk]

theorem blk_other (s : ByteArray) (k : Nat) (h : k < s.size) (h1 : ¬ (s[k].toNat : Int) = 32) (h2 : ¬ (s[k].toNat : Int) = 10) (h3 : ¬ (s[k].toNat : Int) = 9) (h4 : ¬ (s[k].toNat : Int) = 35) : blk false ((toL s).drop k) = (toL s).drop k := by
  rw [drop_cons s k h, blk, if_neg (nblank h1 h2 h3), if_neg (fun e => h4 (by rw [e]; rfl))]

theorem blk_in (s : ByteArray) (k : Nat) (h : k < s.size) (h1 : ¬ (s[k].toNat : Int) = 10) : blk true ((toL s).drop k) = blk true ((toL s).drop (k + 1)) := by
  rw [drop_cons s k h, blk, if_neg (fun e => h1 (by rw [e]; rfl))]

theorem blk_nl (s : ByteArray) (k : Nat) (h : k < s.size) (h1 : (s[k].toNat : Int) = 10) : blk true ((toL s).drop k) = blk false ((toL s).drop k) := by
  have e : s[k] = 10 := UInt8.toNat_inj.1 (by have : (10 : UInt8).toNat = 10 := rfl; omega)
  rw [drop_cons s k h, e]
  generalize (toL s).drop (k + 1) = r
  simp [blk]

theorem blk_end (o : Bool) (s : ByteArray) (k : Nat) (h : s.size ≤ k) : blk o ((toL s).drop k) = [] := by
  rw [List.drop_of_length_le (by rw [toL_size]; exact h)]
  cases o <;> rfl

theorem blkS_of {s : ByteArray} {j k : Nat} (hk : k ≤ s.size) (h : blk false ((toL s).drop j) = (toL s).drop k) : blkS false s j = k := by
  rw [blkS, h, List.length_drop, toL_size]; omega

set_option maxHeartbeats 3200000 in
theorem l2blank_any (s : ByteArray) (j : Nat) (w : World) (hs : s.size ≤ maxLen) (hj : j ≤ s.size) :
    Calls Tryd.prog 25 #[.string s, .int .i64 j] w fun e w' => (∃ k : Nat, e = .returned (.int .i64 k) ∧ j ≤ k ∧ k ≤ s.size ∧ blk false ((toL s).drop j) = (toL s).drop k ∧ blk false ((toL s).drop k) = (toL s).drop k) ∧ w' = w := by
  unfold maxLen at hs
  go_enter Tryd.func25, Tryd.ntmps25
  go_wp2
  go_loop [1] (fun i => ∃ k : Nat, j ≤ k ∧ k ≤ s.size ∧ i = .int .i64 k ∧ blk false ((toL s).drop j) = blk false ((toL s).drop k)) (fun i => s.size - (intOf i).toNat)
  case atStart => exact ⟨j, Nat.le_refl _, hj, rfl, rfl⟩
  case round =>
    obtain ⟨k, hjk, hk, rfl, he⟩ := hrel
    have He := hide he
    clear he
    by_cases hlt : k < s.size
    · have ilt : (k : Int) < (s.size : Int) := by omega
      by_cases h1 : (s[k].toNat : Int) = 32
      · have Hf := hide (blk_at s k hlt (.inl h1))
        go_wp2
        go_round
        case rel => exact ⟨k + 1, by omega, by omega, by go_num, by rw [unhide He, unhide Hf]⟩
        case measure => simp [intOf]; omega
      by_cases h2 : (s[k].toNat : Int) = 10
      · have Hf := hide (blk_at s k hlt (.inr (.inl h2)))
        go_wp2
        go_round
        case rel => exact ⟨k + 1, by omega, by omega, by go_num, by rw [unhide He, unhide Hf]⟩
        case measure => simp [intOf]; omega
      by_cases h3 : (s[k].toNat : Int) = 9
      · have Hf := hide (blk_at s k hlt (.inr (.inr h3)))
        go_wp2
        go_round
        case rel => exact ⟨k + 1, by omega, by omega, by go_num, by rw [unhide He, unhide Hf]⟩
        case measure => simp [intOf]; omega
      by_cases h4 : (s[k].toNat : Int) = 35
      · have Hf := hide (blk_hash s k hlt h4)
        have Hi := hide (blk_in s k hlt h2)
        go_wp2
        go_loop [1] (fun i => ∃ q : Nat, k ≤ q ∧ q ≤ s.size ∧ i = .int .i64 q ∧ blk true ((toL s).drop k) = blk true ((toL s).drop q)) (fun i => s.size - (intOf i).toNat)
        case atStart => exact ⟨k, Nat.le_refl _, hk, rfl, rfl⟩
        case round =>
          obtain ⟨q, hkq, hq, rfl, hi⟩ := hrel
          have Hq := hide hi
          clear hi
          by_cases hql : q < s.size
          · have iql : (q : Int) < (s.size : Int) := by omega
            by_cases h10 : (s[q].toNat : Int) = 10
            · have Hn := hide (blk_nl s q hql h10)
              have hne : q ≠ k := fun e => by subst e; omega
              go_wp2
              go_round
              case rel => exact ⟨q, by omega, by omega, by go_num, by rw [unhide He, unhide Hf, unhide Hq, unhide Hn]⟩
              case measure => simp [intOf]; omega
            · have Hn := hide (blk_in s q hql h10)
              go_wp2
              go_round
              case rel => exact ⟨q + 1, by omega, by omega, by go_num, by rw [unhide Hq, unhide Hn]⟩
              case measure => simp [intOf]; omega
          · have iql : ¬ ((q : Int) < (s.size : Int)) := by omega
            have Hn := hide ((blk_end true s q (by omega)).trans (blk_end false s q (by omega)).symm)
            go_wp2
            go_round
            case rel => exact ⟨q, by omega, by omega, by go_num, by rw [unhide He, unhide Hf, unhide Hq, unhide Hn]⟩
            case measure => simp [intOf]; omega
      · have Hf := hide (blk_other s k hlt h1 h2 h3 h4)
        have e1 := beq_eq_false_iff_ne.2 h1
        have e2 := beq_eq_false_iff_ne.2 h2
        have e3 := beq_eq_false_iff_ne.2 h3
        have e4 := beq_eq_false_iff_ne.2 h4
        go_wp2
        go_ret
        exact ⟨⟨k, rfl, hjk, hk, by rw [unhide He, unhide Hf], unhide Hf⟩, rfl⟩
    · have ilt : ¬ ((k : Int) < (s.size : Int)) := by omega
      have Hf := hide (blk_end false s k (by omega))
      go_wp2
      go_ret
      have e : (toL s).drop k = [] := List.drop_of_length_le (by rw [toL_size]; omega)
      exact ⟨⟨k, rfl, hjk, hk, by rw [unhide He, unhide Hf, e], by rw [unhide Hf, e]⟩, rfl⟩

end Go.Proofs.YthndlhlafkldjacDoor

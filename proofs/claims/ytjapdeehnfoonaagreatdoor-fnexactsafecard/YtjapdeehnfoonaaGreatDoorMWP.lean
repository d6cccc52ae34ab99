/-
  LawsE, Laws. Own work.
-/
import Derived.Test.YtjapdeehnfoonaaGreatDoorMWB
namespace Go.Proofs.YtjapdeehnfoonaaGreatDoor
open Go.RowKit

set_option maxHeartbeats 800000 in
theorem eqStringS_same (a a' : Option Addr) (n c c' : Nat) (ss : List ByteArray) (w : World) (h : Strs w a n c ss) (h' : Strs w a' n c' ss) :
    Calls Tryz.prog 57 #[.slice a n c, .slice a' n c'] w fun e w' => e = .returned (.bool true) ∧ Below w.heap.size w w' := by
  have hn : n ≤ 9223372036854775807 := by have := h.cap; have := h.small; unfold maxLen at this; omega
  go_enter Tryz.func57, Tryz.ntmps57
  go_wp2
  go_loopw [5] (fun i wr => ∃ k : Nat, k ≤ n ∧ i = .int .i64 k ∧ Below w.heap.size w wr) (fun i _ => n - (intOf i).toNat)
  case atStart => exact ⟨0, Nat.zero_le _, rfl, Below.refl _ _⟩
  case round =>
    obtain ⟨k, hk, rfl, hb⟩ := hrel
    by_cases hlt : k < n
    · obtain ⟨b, off, ha, _, hc⟩ := (h.below hb (Nat.le_refl _)).cells k hlt
      obtain ⟨b', off', ha', _, hc'⟩ := (h'.below hb (Nat.le_refl _)).cells k hlt
      subst ha
      subst ha'
      have i3 : (k : Int) < (n : Int) := by omega
      go_wp2
      go_quiet (fail)
      go_wp2
      go_roundw
      case rel => exact ⟨k + 1, by omega, by go_num, below_drewN hb _⟩
      case measure => simp [intOf]; omega
    · go_wp2
      go_ret
      exact ⟨rfl, hb⟩

end Go.Proofs.YtjapdeehnfoonaaGreatDoor

namespace Go.Proofs.YtjapdeehnfoonaaGreatDoor
open Go.RowKit

set_option maxHeartbeats 800000 in
theorem szStringS_any (a : Option Addr) (n c : Nat) (ss : List ByteArray) (L : Int) (w : World) (h : Strs w a n c ss) (hL : -1 ≤ L) (hL' : L ≤ 1048576) :
    Calls Tryz.prog 41 #[.slice a n c, .int .i64 L] w fun e w' => (∃ r : Int, e = .returned (.int .i64 r) ∧ (r = -1 ∨ 0 ≤ r ∧ r + n + tot ss = L)) ∧ w' = w := by
  have hn : n ≤ 9223372036854775807 := by have := h.cap; have := h.small; unfold maxLen at this; omega
  have Hl := hide h.len
  by_cases h0 : L - n < 0
  · go_enter Tryz.func41, Tryz.ntmps41
    go_wp2
    go_ret
    exact ⟨⟨_, rfl, .inl rfl⟩, rfl⟩
  · have h0' : 0 ≤ L - n := by omega
    have h0b : (L - n < 0) = False := by simp; omega
    go_enter Tryz.func41, Tryz.ntmps41
    go_wp2
    go_loop [1, 4, 5] (fun l _ i => ∃ k : Nat, k ≤ n ∧ i = .int .i64 k ∧ l = .int .i64 (L - n - tot (ss.take k)) ∧ 0 ≤ L - n - tot (ss.take k)) (fun _ _ i => n - (intOf i).toNat)
    case atStart => exact ⟨0, Nat.zero_le _, rfl, by simp [tot], by simp [tot]; omega⟩
    case round =>
      obtain ⟨k, hk, rfl, rfl, hp⟩ := hrel
      by_cases hlt : k < n
      · obtain ⟨b, off, ha', _, hc⟩ := h.cells k hlt
        have hsz := h.sizes k hlt
        subst ha'
        unfold maxLen at hsz
        have Ht := hide (tot_take_succ ss k (by have := unhide Hl; omega))
        generalize hT : tot (ss.take k) = T at *
        have HT := hide hT
        clear hT
        by_cases hneg : L - n - T - ((nth ss k).size : Int) < 0
        · go_wp2
          go_ret
          exact ⟨⟨_, rfl, .inl rfl⟩, rfl⟩
        · have hpos : 0 ≤ L - n - T - ((nth ss k).size : Int) := by omega
          go_wp2
          go_round
          case rel => exact ⟨k + 1, by omega, by go_num, by rw [unhide Ht]; go_num, by rw [unhide Ht]; omega⟩
          case measure => simp [intOf]; omega
      · go_wp2
        go_ret
        have e1 : ss.take k = ss := List.take_of_length_le (by have := unhide Hl; omega)
        rw [e1] at hp ⊢
        exact ⟨⟨_, rfl, .inr ⟨hp, by omega⟩⟩, rfl⟩

set_option maxHeartbeats 800000 in
theorem toStringS_any (a : Option Addr) (n c : Nat) (ss : List ByteArray) (w : World) (h : Strs w a n c ss) (hsm : n ≤ 1048576) :
    Calls Tryz.prog 49 #[.slice a n c] w fun e w' => e = .returned (.slice (some ⟨w.heap.size, 0, none⟩) n n) ∧ Below w.heap.size w w' ∧ w'.ownsRow w.heap.size 9 1 (.slice (some ⟨w.heap.size, 0, none⟩) n n) n (ss.map Value.string) := by
  obtain ⟨i, hi, hz0, hz1, hz2⟩ := info_parts infoS
  go_enter Tryz.func49, Tryz.ntmps49
  go_wp2_with (at_make; refine wpList_make_full _ rfl _ _ 40 rfl w.heap.size 9 i (.string ByteArray.empty) 1 Tryz.underlying40 hi hz0 hz1 _ _ _ _ n rfl rfl rfl rfl ?b2 ?b3 ?b4 ?_)
  case b2 => rw [hz2]; omega
  case b3 => unfold maxLen; omega
  case b4 => exact Nat.le_refl _
  intro w1 hown hgrow
  have hb1 : Below w.heap.size w w1 := (Below.refl _ _).grown hgrow (Nat.le_refl _) (fun k hk => by cases hk)
  clear hgrow
  have hown1 : w1.ownsRow w.heap.size 9 1 (.slice (some ⟨w.heap.size, 0, none⟩) n n) n ((half ss n 0).map Value.string) := by
    rw [half_zero, List.map_replicate, ← toList_madeCells_one, ← Nat.mul_one n]
    simpa using hown
  clear hown
  go_wp2
  go_loopw [4] (fun i wr => ∃ k : Nat, k ≤ n ∧ i = .int .i64 k ∧ wr.ownsRow w.heap.size 9 1 (.slice (some ⟨w.heap.size, 0, none⟩) n n) n ((half ss n k).map Value.string) ∧ Below w.heap.size w wr) (fun i _ => n - (intOf i).toNat)
  case atStart => exact ⟨0, Nat.zero_le _, rfl, hown1, hb1⟩
  case round =>
    obtain ⟨k, hk, rfl, hown, hb⟩ := hrel
    clear hown1 hb1
    by_cases hlt : k < n
    · obtain ⟨b, off, ha', _, hc⟩ := (h.below hb (Nat.le_refl _)).cells k hlt
      subst ha'
      have hfz := hown.frozenAt k
      have hck := (hown.cellAt k (by omega)).trans (half_at ss n k hlt)
      have Hst := hide (hown.stored k (.string (nth ss k))).1
      have Hown := hide hown
      clear hown
      go_wp2
      go_roundw
      case rel => exact ⟨k + 1, by omega, by go_num, by rw [← half_set]; exact unhide Hst, hb.setCell (Nat.le_refl _) _⟩
      case measure => simp [intOf]; omega
    · have e : k = n := by omega
      subst e
      go_wp2
      go_ret
      exact ⟨rfl, hb, by rw [half_full ss k h.len] at hown; exact hown⟩

end Go.Proofs.YtjapdeehnfoonaaGreatDoor

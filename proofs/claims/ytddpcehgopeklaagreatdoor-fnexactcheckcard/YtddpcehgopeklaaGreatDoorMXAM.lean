/-
  Slices0, Slices. Own work.
-/
import Derived.Test.YtddpcehgopeklaaGreatDoorMXAJ
import Derived.Test.YtddpcehgopeklaaGreatDoorMXAD
import Derived.RegionTactic
import Derived.ChangeAlike
import Derived.Deep.QuietTactic
import Derived.BigQuiet
namespace Go.Proofs.YtddpcehgopeklaaGreatDoor
open Go.RowKit

set_option maxHeartbeats 800000 in
theorem allNames_any (a : Option Addr) (n c : Nat) (ss : List ByteArray) (w : World) (h : Strs w a n c ss) :
    Calls Tryz.prog 111 #[.slice a n c] w fun e w' => e = .returned (.bool (allB ss)) ∧ w' = w := by
  have hn : n ≤ 9223372036854775807 := by have := h.cap; have := h.small; unfold maxLen at this; omega
  go_enter Tryz.func111, Tryz.ntmps111
  go_wp2
  go_loop [4, 7] (fun _ i => ∃ k : Nat, k ≤ n ∧ i = .int .i64 k ∧ ∀ j, j < k → vnB (nth ss j) = true) (fun _ i => n - (intOf i).toNat)
  case atStart => exact ⟨0, Nat.zero_le _, rfl, fun j hj => by omega⟩
  case round =>
    obtain ⟨k, hk, rfl, ha⟩ := hrel
    have Ha := hide ha
    clear ha
    by_cases hlt : k < n
    · obtain ⟨b, off, ha', _, hc⟩ := h.cells k hlt
      have hsz := h.sizes k hlt
      subst ha'
      cases hv : vnB (nth ss k)
      · have Hv := hide hv
        have Hf := hide (allB_not ss k (by have := h.len; omega) hv)
        clear hv
        go_wp2_with (go_at_call 118; refine (iValidName_any _ _ hsz).mono ?_; rintro e w' ⟨rfl, rfl⟩; rw [unhide Hv])
        go_ret
        exact ⟨ret_bool (unhide Hf).symm, rfl⟩
      · have Hv := hide hv
        clear hv
        go_wp2_with (go_at_call 118; refine (iValidName_any _ _ hsz).mono ?_; rintro e w' ⟨rfl, rfl⟩; rw [unhide Hv])
        go_round
        case rel =>
          refine ⟨k + 1, by omega, by go_num, fun j hj => ?_⟩
          by_cases e : j = k
          · subst e; exact unhide Hv
          · exact unhide Ha j (by omega)
        case measure => simp [intOf]; omega
    · go_wp2
      go_ret
      exact ⟨ret_bool (allB_of ss fun j hj => unhide Ha j (by have := h.len; omega)).symm, rfl⟩

end Go.Proofs.YtddpcehgopeklaaGreatDoor

namespace Go.Proofs.YtddpcehgopeklaaGreatDoor
open Go.RowKit

set_option maxHeartbeats 800000 in
theorem strictlyRising_any (a : Option Addr) (n c : Nat) (ss : List ByteArray) (w : World) (h : Strs w a n c ss) :
    Calls Tryz.prog 112 #[.slice a n c] w fun e w' => e = .returned (.bool (risB ss)) ∧ Below w.heap.size w w' := by
  have hn : n ≤ 9223372036854775807 := by have := h.cap; have := h.small; unfold maxLen at this; omega
  have Hl := hide h.len
  go_enter Tryz.func112, Tryz.ntmps112
  go_wp2
  go_loopw [3] (fun i wr => ∃ k : Nat, 0 < k ∧ (k ≤ n ∨ k = 1) ∧ i = .int .i64 k ∧ (∀ j, 0 < j → j < k → sl (nth ss (j - 1)) (nth ss j) = true) ∧ Below w.heap.size w wr) (fun i _ => n + 1 - (intOf i).toNat)
  case atStart => exact ⟨1, by omega, .inr rfl, rfl, fun j hj hj' => by omega, Below.refl _ _⟩
  case round =>
    obtain ⟨k, hk0, hk, rfl, ha, hb⟩ := hrel
    have Ha := hide ha
    clear ha
    by_cases hlt : k < n
    · obtain ⟨b, off, ha', hbl, hc⟩ := (h.below hb (Nat.le_refl _)).at (by omega)
      have hc1 := hc (k - 1) (by omega)
      have hc2 := hc k hlt
      clear hc
      subst ha'
      have i1 : (0 : Int) ≤ (k : Int) - 1 := by omega
      have i2 : (k : Int) - 1 < (n : Int) := by omega
      have i3 : (k : Int) < (n : Int) := by omega
      have t1 : ((k : Int) - 1).toNat = k - 1 := by omega
      cases hs : Op.bytesLess (nth ss (k - 1)).toList (nth ss k).toList
      · have Hf := hide (risB_not ss (k - 1) k (by omega) (by have := h.len; omega) hs)
        go_wp2
        go_quiet (fail)
        go_wp2
        go_ret
        exact ⟨ret_bool (unhide Hf).symm, below_drewN hb _⟩
      · go_wp2
        go_quiet (fail)
        go_wp2
        go_roundw
        case rel =>
          refine ⟨k + 1, by omega, .inl (by omega), by go_num, fun j hj hj' => ?_, ?_⟩
          · by_cases e : j = k
            · subst e; exact hs
            · exact unhide Ha j hj (by omega)
          · exact below_drewN hb _
        case measure => simp [intOf]; omega
    · go_wp2
      go_ret
      exact ⟨ret_bool (risB_of_near ss fun j hj hj' => unhide Ha j hj (by have := h.len; omega)).symm, hb⟩

set_option maxHeartbeats 800000 in
theorem iIsSet_any (a : Option Addr) (n c : Nat) (ss : List ByteArray) (w : World) (h : Strs w a n c ss) :
    Calls Tryz.prog 91 #[.slice a n c] w fun e w' => e = .returned (.bool (setB ss)) ∧ Below w.heap.size w w' := by
  have hl := h.len
  by_cases h64 : n ≤ 64
  · have g : (n : Int) ≤ 64 := by omega
    have Hs := hide (setB_short ss (by omega))
    clear hl
    cases ha : allB ss
    · have Ha := hide ha
      clear ha
      go_enter Tryz.func91, Tryz.ntmps91
      go_wp2_with (go_at_call 111; refine (allNames_any _ _ _ _ _ h).mono ?_; rintro e w' ⟨rfl, rfl⟩; rw [unhide Ha])
      go_ret
      exact ⟨ret_bool (by rw [unhide Hs, unhide Ha]; rfl), Below.refl _ _⟩
    · have Ha := hide ha
      clear ha
      go_enter Tryz.func91, Tryz.ntmps91
      go_wp2_with (first | (go_at_call 111; refine (allNames_any _ _ _ _ _ h).mono ?_; rintro e w' ⟨rfl, rfl⟩; rw [unhide Ha]) | (go_at_call 112; refine (strictlyRising_any _ _ _ _ _ h).mono ?_; rintro e w' ⟨rfl, hb⟩))
      go_ret
      exact ⟨ret_bool (by rw [unhide Hs, unhide Ha]; rfl), hb⟩
  · have g : (64 : Int) < (n : Int) := by omega
    have Hs := hide (setB_long ss (by omega))
    clear hl
    go_enter Tryz.func91, Tryz.ntmps91
    go_wp2
    go_ret
    exact ⟨ret_bool (unhide Hs).symm, Below.refl _ _⟩

set_option maxHeartbeats 1600000 in
theorem sIsSet_any (a : Option Addr) (n c : Nat) (ss : List ByteArray) (w : World) (h : Strs w a n c ss) :
    Calls Tryz.prog 78 #[.slice a n c] w fun e w' => e = .returned (.bool (setB ss)) ∧ w' = w := by
  have hl := h.len
  by_cases h64 : n ≤ 64
  · have g : (n : Int) ≤ 64 := by omega
    have Hs := hide (setB_short ss (by omega))
    have Hl := hide hl
    clear hl
    go_enter Tryz.func78, Tryz.ntmps78
    go_wp2
    go_loop [2, 3, 4, 5, 11] (fun _ _ _ _ i => ∃ k : Nat, k ≤ n ∧ i = .int .i64 k ∧ (∀ j, j < k → vnB (nth ss j) = true) ∧ (∀ i j, i < k → i < j → j < n → sl (nth ss i) (nth ss j) = true)) (fun _ _ _ _ i => n - (intOf i).toNat)
    case atStart => exact ⟨0, Nat.zero_le _, rfl, fun j hj => by omega, fun i j hi => by omega⟩
    case round =>
      obtain ⟨k, hk, rfl, ha, hp⟩ := hrel
      have Ha := hide ha
      have Hp := hide hp
      clear ha hp
      by_cases hlt : k < n
      · obtain ⟨b, off, ha', _, hc⟩ := h.at (by omega)
        have hck := hc k hlt
        have Hc := hide hc
        clear hc
        have hsz := h.sizes k hlt
        subst ha'
        cases hv : vnB (nth ss k)
        · have Hv := hide hv
          have Hf := hide (allB_not ss k (by have := unhide Hl; omega) hv)
          clear hv
          go_wp2_with (go_at_call 101; refine (sValidName_any _ _ hsz).mono ?_; rintro e w' ⟨rfl, rfl⟩; rw [unhide Hv])
          go_ret
          exact ⟨ret_bool (by rw [unhide Hs, unhide Hf]; rfl), rfl⟩
        · have Hv := hide hv
          clear hv
          go_wp2_with (go_at_call 101; refine (sValidName_any _ _ hsz).mono ?_; rintro e w' ⟨rfl, rfl⟩; rw [unhide Hv])
          go_loop [5] (fun i => ∃ m : Nat, k < m ∧ m ≤ n ∧ i = .int .i64 m ∧ ∀ j, k < j → j < m → sl (nth ss k) (nth ss j) = true) (fun i => n - (intOf i).toNat)
          case atStart => exact ⟨k + 1, by omega, by omega, by go_num, fun j hj hj' => by omega⟩
          case round =>
            obtain ⟨m, hkm, hm, rfl, hq⟩ := hrel
            have Hq := hide hq
            clear hq
            by_cases hmn : m < n
            · have hcm := unhide Hc m hmn
              cases hs : Op.bytesLess (nth ss k).toList (nth ss m).toList
              · have Hf := hide (risB_not ss k m hkm (by have := unhide Hl; omega) hs)
                go_wp2
                go_ret
                exact ⟨ret_bool (by rw [unhide Hs, unhide Hf, Bool.and_false]), rfl⟩
              · go_wp2
                go_round
                case rel =>
                  refine ⟨m + 1, by omega, by omega, by go_num, fun j hj hj' => ?_⟩
                  by_cases e : j = m
                  · subst e; exact hs
                  · exact unhide Hq j hj (by omega)
                case measure => simp [intOf]; omega
            · go_wp2
              go_round
              case rel =>
                refine ⟨k + 1, by omega, by go_num, fun j hj => ?_, fun i j hi hij hj => ?_⟩
                · by_cases e : j = k
                  · subst e; exact unhide Hv
                  · exact unhide Ha j (by omega)
                · by_cases e : i = k
                  · subst e; exact unhide Hq j hij (by omega)
                  · exact unhide Hp i j (by omega) hij hj
              case measure => simp [intOf]; omega
      · go_wp2
        go_ret
        have e1 : allB ss = true := allB_of ss fun j hj => unhide Ha j (by have := unhide Hl; omega)
        have e2 : risB ss = true := (risB_iff ss).2 fun i j hij hj => unhide Hp i j (by have := unhide Hl; omega) hij (by have := unhide Hl; omega)
        exact ⟨ret_bool (by rw [unhide Hs, e1, e2]; rfl), rfl⟩
  · have g : (64 : Int) < (n : Int) := by omega
    have Hs := hide (setB_long ss (by omega))
    clear hl
    go_enter Tryz.func78, Tryz.ntmps78
    go_wp2
    go_ret
    exact ⟨ret_bool (unhide Hs).symm, rfl⟩

end Go.Proofs.YtddpcehgopeklaaGreatDoor

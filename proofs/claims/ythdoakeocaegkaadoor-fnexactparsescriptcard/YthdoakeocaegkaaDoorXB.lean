/-
  Scripts: fields and ticks. Own work.
-/
import Derived.Test.YthdoakeocaegkaaDoorXA
import Derived.Test.YthdoakeocaegkaaDoorDG
import Derived.Test.YthdoakeocaegkaaDoorCMem
import Derived.Test.YthdoakeocaegkaaDoorShelf
import Derived.Lib.Slices
import Derived.Deep.QuietTactic
namespace Go.Proofs.YthdoakeocaegkaaDoor
open Go.RowKit
set_option linter.unusedVariables false

/-- the library's variable that strings.Cut looks at -/
def Mxl (w : World) : Prop := ∃ m, w.cell? ⟨0, 0, none⟩ = some (.int .i64 m)

theorem Mxl.drewN {w : World} (h : Mxl w) (n : Nat) : Mxl (w.drewN n) := h

set_option maxHeartbeats 800000 in
theorem cutSpace_any (s : ByteArray) (w : World) (hs : s.size ≤ 1048576) (hm : Mxl w) :
    Calls Tryd.prog 18 #[.string s] w fun e w' => e = .returned (.tuple #[.string (ofL (cutP (toL s)).1), .string (ofL (cutP (toL s)).2)]) ∧ ∃ n, w' = w.drewN n := by
  obtain ⟨m, hm⟩ := hm
  have HC := hide (Tryd.strings_Cut s ⟨#[32]⟩ m w (by omega) hm)
  go_enter Tryd.func18, Tryd.ntmps18
  go_wp2_with fail
  refine (unhide HC).mono ?_
  rintro e w' ⟨rfl, n, rfl⟩
  go_wp2_with fail
  go_ret2
  exact ⟨rfl, n, rfl⟩

/-- what is ahead of a place, where no space is ahead of it -/
theorem take_clean (s : ByteArray) (k : Nat) (h : ∀ j, (hj : j < s.size) → j < k → s[j] ≠ 32) (hk : k ≤ s.size) : (32 : UInt8) ∉ (toL s).take k := by
  intro hm
  obtain ⟨j, hj, he⟩ := List.getElem_of_mem hm
  simp only [List.length_take, toL_size] at hj
  have h1 : j < s.size := by omega
  rw [List.getElem_take] at he
  exact h j h1 (by omega) he

set_option maxHeartbeats 1600000 in
theorem l7cut_any (s : ByteArray) (w : World) (hs : s.size ≤ 1048576) :
    Calls Tryd.prog 15 #[.string s] w fun e w' => e = .returned (.tuple #[.string (ofL (cutP (toL s)).1), .string (ofL (cutP (toL s)).2)]) ∧ ∃ n, w' = w.drewN n := by
  go_enter Tryd.func15, Tryd.ntmps15
  go_wp2_with fail
  go_loop [4] (fun i => ∃ k : Nat, k ≤ s.size ∧ i = .int .i64 k ∧ Hid (∀ j, (hj : j < s.size) → j < k → s[j] ≠ 32)) (fun i => s.size - (intOf i).toNat)
  case atStart => exact ⟨0, Nat.zero_le _, rfl, hide (fun j _ h => absurd h (by omega))⟩
  case round =>
    obtain ⟨k, hk, rfl, HC⟩ := hrel
    by_cases hlt : k < s.size
    · have ilt : (k : Int) < (s.size : Int) := by omega
      have ik1 : (k : Int) + 1 ≤ (s.size : Int) := by omega
      by_cases hc : s[k] = 32
      · have HX := hide (show cutP (toL s) = (toL (s.extract 0 k), toL (s.extract (k + 1) s.size)) by
          have h1 : toL s = (toL s).take k ++ 32 :: (toL s).drop (k + 1) := by
            have h2 := List.take_append_drop k (toL s)
            rw [List.drop_eq_getElem_cons (by rw [toL_size]; exact hlt)] at h2
            have h3 : (toL s)[k]'(by rw [toL_size]; exact hlt) = 32 := hc
            rw [h3] at h2
            exact h2.symm
          rw [h1, cutP_hit _ _ (take_clean s k (unhide HC) (by omega))]
          have h4 : toL (s.extract 0 k) = (toL s).take k := by simp [toL, ByteArray.extract, ByteArray.copySlice]
          have h5 : toL (s.extract (k + 1) s.size) = (toL s).drop (k + 1) := by
            simp [toL]
            exact List.take_of_length_le (by simp)
          rw [h4, h5])
        have hcv : ((s[k].toNat : Int) == 32) = true := by rw [hc]; rfl
        clear hc
        go_wp2_with fail
        go_region
        all_goals
          go_wp2_with fail
          go_ret2
          rw [unhide HX, ofL_toL, ofL_toL]
          exact ⟨rfl, 1, rfl⟩
      · have HC2 := hide (show ∀ j, (hj : j < s.size) → j < k + 1 → s[j] ≠ 32 from fun j hj h => by
          by_cases e : j = k
          · subst e; exact hc
          · exact unhide HC j hj (by omega))
        have hcv : ((s[k].toNat : Int) == 32) = false := by
          rw [beq_eq_false_iff_ne]
          intro e
          exact hc (UInt8.toNat_inj.1 (by have : (32 : UInt8).toNat = 32 := rfl; omega))
        clear hc
        go_wp2_with fail
        go_round
        case rel => exact ⟨k + 1, by omega, by go_num, HC2⟩
        case measure => simp [intOf]; omega
    · have HX := hide (show cutP (toL s) = (toL s, []) by
        refine cutP_clean _ (fun hm => ?_)
        have := take_clean s k (unhide HC) hk
        rw [List.take_of_length_le (by rw [toL_size]; omega)] at this
        exact this hm)
      have nlt : ¬ ((k : Int) < (s.size : Int)) := by omega
      go_wp2_with fail
      go_ret2
      rw [unhide HX, ofL_toL]
      exact ⟨rfl, 0, rfl⟩

set_option maxHeartbeats 1600000 in
theorem readTick_any (s : ByteArray) (w : World) (hs : s.size ≤ 1048576) :
    Calls Tryd.prog 19 #[.string s] w fun e w' => e = .returned (.int .i64 (tickV (toL s))) ∧ w' = w := by
  have HD := hide (readDigits_any s 12 w hs (by decide))
  go_enter Tryd.func19, Tryd.ntmps19
  go_wp2_with fail
  refine (unhide HD).mono ?_
  rintro e w' ⟨⟨n, o, rfl, h1, h2⟩, hw⟩
  rw [hw]
  clear hw
  have hl := toL_size s
  cases o with
  | true =>
    obtain ⟨a, b, c, d⟩ := h1 rfl
    have HX := hide (show tickV (toL s) = n by unfold tickV; rw [if_pos ⟨by omega, c⟩, d])
    clear h1 h2 a b c d hl
    go_wp2_with fail
    go_ret
    rw [unhide HX]
    exact ⟨rfl, rfl⟩
  | false =>
    have h3 := h2 rfl
    have HX := hide (show tickV (toL s) = -1 by unfold tickV; rw [if_neg (fun h => h3 ⟨by omega, by omega, h.2⟩)])
    clear h1 h2 h3 hl
    go_wp2_with fail
    go_ret
    rw [unhide HX]
    exact ⟨rfl, rfl⟩

end Go.Proofs.YthdoakeocaegkaaDoor

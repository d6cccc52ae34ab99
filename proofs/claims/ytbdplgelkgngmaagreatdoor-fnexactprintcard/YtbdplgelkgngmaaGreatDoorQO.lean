/-
  The model's levels and signs. Own work.
-/
import Derived.Test.YtbdplgelkgngmaaGreatDoorMHA
import Derived.Test.YtbdplgelkgngmaaGreatDoorVPH
namespace Go.Proofs.YtbdplgelkgngmaaGreatDoor
open Go.RowKit
set_option linter.unusedVariables false

set_option maxHeartbeats 1600000 in
set_option maxRecDepth 100000 in
theorem l2level_any (op : Int) (w : World) (hop : 1 ≤ op ∧ op ≤ 27) :
    Calls Tryz.prog 24 #[.int .i64 op] w fun e w' => e = .returned (.int .i64 (lvN op)) ∧ w' = w := by
  have : op = 1 ∨ op = 2 ∨ op = 3 ∨ op = 4 ∨ op = 5 ∨ op = 6 ∨ op = 7 ∨ op = 8 ∨ op = 9 ∨ op = 10 ∨ op = 11 ∨ op = 12 ∨ op = 13 ∨ op = 14 ∨ op = 15 ∨ op = 16 ∨ op = 17 ∨ op = 18 ∨ op = 19 ∨ op = 20 ∨ op = 21 ∨ op = 22 ∨ op = 23 ∨ op = 24 ∨ op = 25 ∨ op = 26 ∨ op = 27 := by omega
  rcases this with rfl | rfl | rfl | rfl | rfl | rfl | rfl | rfl | rfl | rfl | rfl | rfl | rfl | rfl | rfl | rfl | rfl | rfl | rfl | rfl | rfl | rfl | rfl | rfl | rfl | rfl | rfl
  all_goals
    go_enter Tryz.func24, Tryz.ntmps24
    go_wp2
    go_ret
    exact ⟨rfl, rfl⟩

def sgV : Array Value := (signs.map Value.string).toArray

def sg (k : Nat) : ByteArray := signs.getD k ⟨#[]⟩

theorem sgV_at {k : Nat} (h : k < 16) : sgV[k]? = some (.string (sg k)) := by
  match k, h with
  | 0, _ => rfl
  | 1, _ => rfl
  | 2, _ => rfl
  | 3, _ => rfl
  | 4, _ => rfl
  | 5, _ => rfl
  | 6, _ => rfl
  | 7, _ => rfl
  | 8, _ => rfl
  | 9, _ => rfl
  | 10, _ => rfl
  | 11, _ => rfl
  | 12, _ => rfl
  | 13, _ => rfl
  | 14, _ => rfl
  | 15, _ => rfl
  | k + 16, h => exact absurd h (by omega)

theorem sg_same : ∀ (j k : Fin 16), ((sg k).data.toList == (sg j).data.toList) = decide (j = k) := by decide

theorem sg_eq {j k : Nat} (hj : j < 16) (hk : k < 16) : ((sg k).toList == (sg j).toList) = decide (j = k) := by
  rw [ByteArray.toList_eq, ByteArray.toList_eq]
  have := sg_same ⟨j, hj⟩ ⟨k, hk⟩
  simpa using this

set_option maxHeartbeats 1600000 in
set_option maxRecDepth 100000 in
theorem l2op_any (k : Nat) (hk : k < 16) (w : World) :
    Calls Tryz.prog 44 #[.string (sg k)] w fun e w' => e = .returned (.int .i64 (11 + k)) ∧ Below w.heap.size w w' := by
  have R : Row (w.alloc (.cells #[.string ⟨#[43]⟩, .string ⟨#[45]⟩, .string ⟨#[42]⟩, .string ⟨#[47]⟩, .string ⟨#[37]⟩, .string ⟨#[124]⟩, .string ⟨#[38]⟩, .string ⟨#[92]⟩, .string ⟨#[61, 61]⟩, .string ⟨#[33, 61]⟩, .string ⟨#[60]⟩, .string ⟨#[60, 61]⟩, .string ⟨#[105, 110]⟩, .string ⟨#[119, 105, 116, 104, 105, 110]⟩, .string ⟨#[97, 110, 100]⟩, .string ⟨#[111, 114]⟩] 9)) w.heap.size sgV 9 := Row.new w sgV 9
  have B0 := (Below.refl w.heap.size w).alloc (Nat.le_refl _) (.cells #[.string ⟨#[43]⟩, .string ⟨#[45]⟩, .string ⟨#[42]⟩, .string ⟨#[47]⟩, .string ⟨#[37]⟩, .string ⟨#[124]⟩, .string ⟨#[38]⟩, .string ⟨#[92]⟩, .string ⟨#[61, 61]⟩, .string ⟨#[33, 61]⟩, .string ⟨#[60]⟩, .string ⟨#[60, 61]⟩, .string ⟨#[105, 110]⟩, .string ⟨#[119, 105, 116, 104, 105, 110]⟩, .string ⟨#[97, 110, 100]⟩, .string ⟨#[111, 114]⟩] 9)
  have HE := hide (fun j (hj : j < 16) => sg_eq (k := k) hj hk)
  generalize sg k = s at HE ⊢
  go_enter Tryz.func44, Tryz.ntmps44
  go_wp2
  generalize w.alloc (.cells #[.string ⟨#[43]⟩, .string ⟨#[45]⟩, .string ⟨#[42]⟩, .string ⟨#[47]⟩, .string ⟨#[37]⟩, .string ⟨#[124]⟩, .string ⟨#[38]⟩, .string ⟨#[92]⟩, .string ⟨#[61, 61]⟩, .string ⟨#[33, 61]⟩, .string ⟨#[60]⟩, .string ⟨#[60, 61]⟩, .string ⟨#[105, 110]⟩, .string ⟨#[119, 105, 116, 104, 105, 110]⟩, .string ⟨#[97, 110, 100]⟩, .string ⟨#[111, 114]⟩] 9) = W at R B0 ⊢
  go_loop [7] (fun i => ∃ j : Nat, j ≤ k ∧ i = .int .i64 j) (fun i => 16 - (intOf i).toNat)
  case atStart => exact ⟨0, by omega, rfl⟩
  case round =>
    obtain ⟨j, hj, rfl⟩ := hrel
    have ilt : (j : Int) < 16 := by omega
    have hc := (R.cell j).trans (sgV_at (by omega))
    have h := unhide HE j (by omega)
    generalize sg j = x at hc h
    by_cases e : j = k
    · rw [decide_eq_true e] at h
      have HK := hide e
      clear e
      go_wp2
      go_ret
      exact ⟨by rw [← unhide HK]; rfl, B0⟩
    · rw [decide_eq_false e] at h
      have HK := hide e
      clear e
      go_wp2
      go_round
      case rel => exact ⟨j + 1, by have := unhide HK; omega, by go_num⟩
      case measure => simp [intOf]; omega

set_option maxHeartbeats 1600000 in
set_option maxRecDepth 100000 in
theorem l2sign_any (op : Int) (hop : 11 ≤ op ∧ op ≤ 26) (w : World) :
    Calls Tryz.prog 27 #[.int .i64 op] w fun e w' => e = .returned (.string (signB op)) ∧ Below w.heap.size w w' := by
  obtain ⟨k, hk, rfl⟩ : ∃ k : Nat, k < 16 ∧ op = 11 + (k : Int) := ⟨(op - 11).toNat, by omega, by omega⟩
  have R : Row (w.alloc (.cells #[.string ⟨#[43]⟩, .string ⟨#[45]⟩, .string ⟨#[42]⟩, .string ⟨#[47]⟩, .string ⟨#[37]⟩, .string ⟨#[124]⟩, .string ⟨#[38]⟩, .string ⟨#[92]⟩, .string ⟨#[61, 61]⟩, .string ⟨#[33, 61]⟩, .string ⟨#[60]⟩, .string ⟨#[60, 61]⟩, .string ⟨#[105, 110]⟩, .string ⟨#[119, 105, 116, 104, 105, 110]⟩, .string ⟨#[97, 110, 100]⟩, .string ⟨#[111, 114]⟩] 9)) w.heap.size sgV 9 := Row.new w sgV 9
  have B0 := (Below.refl w.heap.size w).alloc (Nat.le_refl _) (.cells #[.string ⟨#[43]⟩, .string ⟨#[45]⟩, .string ⟨#[42]⟩, .string ⟨#[47]⟩, .string ⟨#[37]⟩, .string ⟨#[124]⟩, .string ⟨#[38]⟩, .string ⟨#[92]⟩, .string ⟨#[61, 61]⟩, .string ⟨#[33, 61]⟩, .string ⟨#[60]⟩, .string ⟨#[60, 61]⟩, .string ⟨#[105, 110]⟩, .string ⟨#[119, 105, 116, 104, 105, 110]⟩, .string ⟨#[97, 110, 100]⟩, .string ⟨#[111, 114]⟩] 9)
  have HS := hide (show signB (11 + (k : Int)) = sg k by rw [signB, sg]; congr 1; omega)
  rw [unhide HS]
  clear hop HS
  go_enter Tryz.func27, Tryz.ntmps27
  go_wp2_with fail
  have z0 : w.heap.size < (w.alloc (.cells #[.string ⟨#[43]⟩, .string ⟨#[45]⟩, .string ⟨#[42]⟩, .string ⟨#[47]⟩, .string ⟨#[37]⟩, .string ⟨#[124]⟩, .string ⟨#[38]⟩, .string ⟨#[92]⟩, .string ⟨#[61, 61]⟩, .string ⟨#[33, 61]⟩, .string ⟨#[60]⟩, .string ⟨#[60, 61]⟩, .string ⟨#[105, 110]⟩, .string ⟨#[119, 105, 116, 104, 105, 110]⟩, .string ⟨#[97, 110, 100]⟩, .string ⟨#[111, 114]⟩] 9)).heap.size := by simp
  generalize w.alloc (.cells #[.string ⟨#[43]⟩, .string ⟨#[45]⟩, .string ⟨#[42]⟩, .string ⟨#[47]⟩, .string ⟨#[37]⟩, .string ⟨#[124]⟩, .string ⟨#[38]⟩, .string ⟨#[92]⟩, .string ⟨#[61, 61]⟩, .string ⟨#[33, 61]⟩, .string ⟨#[60]⟩, .string ⟨#[60, 61]⟩, .string ⟨#[105, 110]⟩, .string ⟨#[119, 105, 116, 104, 105, 110]⟩, .string ⟨#[97, 110, 100]⟩, .string ⟨#[111, 114]⟩] 9) = W at R B0 z0 ⊢
  go_loopw [7] (fun i wr => ∃ j : Nat, j ≤ k ∧ i = .int .i64 j ∧ Below W.heap.size W wr) (fun i _ => 16 - (intOf i).toNat)
  case atStart => exact ⟨0, by omega, rfl, Below.refl _ _⟩
  case round =>
    obtain ⟨j, hj, rfl, B1⟩ := hrel
    have ilt : (j : Int) < 16 := by omega
    have hc := ((R.after B1 (Nat.le_refl _)).cell j).trans (sgV_at (by omega))
    have HC := hide (l2op_any j (by omega))
    have zb := B1.size
    have HF := hide (show sg k = sg k from rfl)
    by_cases e : j = k
    · subst e
      obtain ⟨x, hx⟩ : ∃ x, x = sg j := ⟨_, rfl⟩
      rw [← hx] at hc HC
      have HX := hide hx
      clear hx
      go_wp2_with fail
      refine (unhide HC _).mono ?_
      rintro r w2 ⟨rfl, hb2⟩
      have eb : ((11 + (j : Int)) == 11 + (j : Int)) = true := beq_self_eq_true _
      dsimp only
      go_wp2_with fail
      go_ret
      exact ⟨by rw [← unhide HX]; rfl, (B0.trans (B1.mono B0.size)).trans (hb2.mono (Nat.le_trans B0.size zb))⟩
    · generalize sg j = x at hc HC ⊢
      have eb : ((11 + (j : Int)) == 11 + (k : Int)) = false := beq_eq_false_iff_ne.2 (by omega)
      have HK := hide e
      clear e
      go_wp2_with fail
      refine (unhide HC _).mono ?_
      rintro r w2 ⟨rfl, hb2⟩
      dsimp only
      go_wp2_with fail
      go_roundw
      case rel => exact ⟨j + 1, by have := unhide HK; omega, by go_num, B1.trans (hb2.mono zb)⟩
      case measure => simp [intOf]; omega

end Go.Proofs.YtbdplgelkgngmaaGreatDoor

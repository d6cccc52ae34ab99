/-
  The law's look at a typed policy's size. Own work.
-/
import Derived.Test.YtjapdeehnfoonaaGreatDoorMWQ
namespace Go.Proofs.YtjapdeehnfoonaaGreatDoor
open Go.RowKit
set_option linter.unusedVariables false

theorem rowT3 {w : World} {b : Nat} {v0 v1 v2 : Value} {t : TypeId} (R : Row w b #[v0, v1, v2] t) : w.cell? ⟨b, 0, none⟩ = some v0 ∧ w.cell? ⟨b, 1, none⟩ = some v1 ∧ w.cell? ⟨b, 2, none⟩ = some v2 := ⟨R.cell 0, R.cell 1, R.cell 2⟩

def smallT (n m p : Nat) (N : List Nd) (L : List St) : Prop := smallP n m N L ∧ p ≤ 1048576

set_option maxHeartbeats 1600000 in
theorem szTyped_any (a b f : Option Addr) (n c m d p g : Nat) (N : List Nd) (L : List St) (T : List Int) (w : World) (h1 : NdsR w a n c N) (h2 : StsR w b m d L) (h3 : IntsR w f p g T) :
    Calls Tryz.prog 4 #[.agg #[.slice a n c, .slice b m d, .slice f p g], .int .i64 1048576] w fun e w' => Left 1048576 (smallT n m p N L) e ∧ Below w.heap.size w w' := by
  have R0 := Row.new w #[.slice a n c, .slice b m d, .slice f p g] 26
  have B0 := (Below.refl w.heap.size w).alloc (Nat.le_refl _) (.cells #[.slice a n c, .slice b m d, .slice f p g] 26)
  have N0 := h1.below B0 (Nat.le_refl _)
  have L0 := h2.below B0 (Nat.le_refl _)
  have hp : p ≤ maxLen := Nat.le_trans h3.cap h3.small
  go_enter Tryz.func4, Tryz.ntmps4
  go_wp2_with (first
    | (go_at_call 9; refine (szNodeS_any _ _ _ _ _ _ N0 (by omega) (by omega)).mono ?_; rintro e w2 ⟨⟨r, rfl, hr⟩, hb2⟩; have hr1 : -1 ≤ r ∧ r ≤ 1048576 := (by rcases hr with h | h <;> omega); have Hr := hide hr; clear hr; obtain ⟨q0, q1, q2⟩ := rowT3 (R0.after hb2 (Nat.le_refl _)); have E2 := B0.trans (hb2.mono B0.size))
    | (go_at_call 10; refine (szStmtS_any _ _ _ _ _ _ (L0.below hb2 (Nat.le_refl _)) (by omega) (by omega)).mono ?_; rintro e w3 ⟨⟨r2, rfl, hr2⟩, hb3⟩; have hr3 : -1 ≤ r2 ∧ r2 ≤ 1048576 := (by rcases hr2 with h | h <;> omega); have Hr2 := hide hr2; clear hr2; obtain ⟨u0, u1, u2⟩ := rowT3 ((R0.after hb2 (Nat.le_refl _)).after hb3 (Nat.le_refl _)); have E3 := E2.trans (hb3.mono E2.size))
    | (go_at_call 11; refine (szIntS_any _ _ _ _ _ hp (by omega) (by omega)).mono ?_; rintro e w4 ⟨⟨r3, rfl, hr4⟩, hw4⟩; rw [hw4]; clear hw4; have Hr3 := hide hr4; clear hr4))
  · go_ret
    exact ⟨left_no _ _, E2⟩
  · go_ret
    exact ⟨left_no _ _, E3⟩
  · go_ret
    exact ⟨left_no _ _, E3⟩
  · go_ret
    have a1 := unhide Hr
    have a2 := unhide Hr2
    have a3 := unhide Hr3
    refine ⟨⟨_, rfl, .inr ⟨by omega, by omega, ⟨?_, ?_⟩, ?_⟩⟩, E3⟩
    · rcases a1 with e | e
      · omega
      · exact e.2.2
    · rcases a2 with e | e
      · omega
      · exact e.2.2
    · rcases a3 with e | e
      · omega
      · exact e.2.2

end Go.Proofs.YtjapdeehnfoonaaGreatDoor

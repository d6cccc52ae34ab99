/-
  The walk over the law of valid policies. Own work.
-/
import Derived.Test.YtbdplgelkgngmaaGreatDoorVPX
import Derived.Test.YtbdplgelkgngmaaGreatDoorVPM
import Derived.Test.YtbdplgelkgngmaaGreatDoorVPS
namespace Go.Proofs.YtbdplgelkgngmaaGreatDoor
open Go.RowKit
set_option linter.unusedVariables false

theorem shapeI_iff (N : List Nd) (L : List St) : shapeI N L = true ↔ ∃ S, runT (N.map Nd.kids) N.length [] 0 = some S ∧ topsI S = L.flatMap askedOf := by
  rw [shapeI]
  cases h : runT (N.map Nd.kids) N.length [] 0 with
  | none => simp
  | some S => simp

/-- the program and the model say the same -/
theorem well_same (N : List Nd) (L : List St) : wellI N L = true ↔ (N.length ≤ 4000 ∧ 1 ≤ L.length ∧ L.length ≤ 600) ∧ N.all fieldsB = true ∧ ValidS N L := by
  rw [← valid_same, ValidI, ← shapeI_iff, wellI]
  simp only [Bool.and_eq_true, decide_eq_true_eq]
  constructor
  · rintro ⟨⟨⟨h1, h2, h3⟩, h4⟩, h5⟩
    exact ⟨⟨h1, h2⟩, h4, h3, h5⟩
  · rintro ⟨⟨h1, h2⟩, h4, h3, h5⟩
    exact ⟨⟨⟨h1, h2, h3⟩, h4⟩, h5⟩

theorem shape_well {n m : Nat} {N : List Nd} {L : List St} {e : Ending} (h : ShapeAns n m N L e) (hn : N.length = n) (hm : L.length = m) : e = .returned (.bool (wellI N L)) := by
  obtain ⟨b, rfl, hb⟩ := h
  have : b = wellI N L := by
    rw [Bool.eq_iff_iff, hb, well_same, hn, hm]
  rw [this]

set_option maxHeartbeats 800000 in
theorem sValidPolicy_any (a b : Option Addr) (n c m d : Nat) (N : List Nd) (L : List St) (w : World) (h1 : Nds w a n c N) (h2 : Sts w b m d L) :
    Calls Tryz.prog 11 #[.agg #[.slice a n c, .slice b m d]] w fun e w' => e = .returned (.bool (wellI N L)) ∧ Below w.heap.size w w' := by
  have B0 := (Below.refl w.heap.size w).alloc (Nat.le_refl _) (.cells #[.slice a n c, .slice b m d] 31)
  have HN := hide h1.len
  have HL := hide h2.len
  go_enter Tryz.func11, Tryz.ntmps11
  go_wp2_with (go_at_call 23; refine (l2shape_any _ _ _ _ _ _ N L _ (h1.below B0 (Nat.le_refl _)) (h2.below B0 (Nat.le_refl _))).mono ?_; rintro e w2 ⟨he, hb2⟩; have he2 := shape_well he (unhide HN) (unhide HL); subst he2; clear he)
  go_ret
  exact ⟨rfl, B0.trans (hb2.mono B0.size)⟩

end Go.Proofs.YtbdplgelkgngmaaGreatDoor

/-
  DERIVED. GIVEN WITH THE SEED: THE CARDS: each row of YtiaijhkcnfpamaaDoorRows.lean that lists a variable, with what it lists TIED to the program's text (the seventh form; the later family's looks); each row that meets fmt, with fmt's text TOLD by the authors' own Lean function (tested against real Go, not proved from fmt's source: count such statements apart). THE CARD IS WHAT COUNTS. Prove the row's statement (the work); the ties are given (YtiaijhkcnfpamaaDoorTie.lean); close each card by the builder's one call (the guide's Derived/Test/ToyasCard.lean, 'card_holds'). Laid BY PROGRAM, IN A SANDBOX (cutbox-door.mjs). By AI agents, Wed Nov 11 2026. No macro, syntax, notation, axiom, sorry.
-/
import Derived.Test.YtiaijhkcnfpamaaDoorRows
import GoSem.ClaimSeven
namespace Go.Proofs.YtiaijhkcnfpamaaDoor
namespace Rows

/-- THE TIED CARD OF 'laws.FnExactValidPolicy'. -/
def fnExactValidPolicyCard : Claim7 := { stood := { row := fnExactValidPolicyRow, standIns := [], harness := (true, "c68b9a9feafa6b25c1c80663ad42116f75f08e558e73b9326a18aa9cdcd215c0"), looks := false }, kinds := [], alts := [], laidByText := true, laidKinds := [.data], laidTests := true, laidLooks := .later }
def FnExactValidPolicyCardSaid : Prop := Claim7.holds Tryd.pinned (.plain (OpenSpec.ofChange fnExactValidPolicySpec)) fnExactValidPolicyCard

/-- THE SECOND FORM's CARD OF 'laws.FnExactValidPolicy'. -/
def fnExactValidPolicyUptoCard : Claim7 := { stood := { row := fnExactValidPolicyUptoRow, standIns := [], harness := (true, "c68b9a9feafa6b25c1c80663ad42116f75f08e558e73b9326a18aa9cdcd215c0"), looks := false }, kinds := [], alts := [], laidByText := true, laidKinds := [.data], laidTests := true, laidLooks := .later }
def FnExactValidPolicyUptoCardSaid : Prop := Claim7.holds Tryd.pinned (.plain (OpenSpec.upto fnExactValidPolicySpec)) fnExactValidPolicyUptoCard
end Rows
end Go.Proofs.YtiaijhkcnfpamaaDoor

/-
  DERIVED. GIVEN WITH THE SEED: THE CARDS: each row of YtlcfoihgfcmfeaaGreatDoorRows.lean that lists a variable, with what it lists TIED to the program's text (the seventh form; the later family's looks); each row that meets fmt, with fmt's text TOLD by the authors' own Lean function (tested against real Go, not proved from fmt's source: count such statements apart). THE CARD IS WHAT COUNTS. Prove the row's statement (the work); the ties are given (YtlcfoihgfcmfeaaGreatDoorTie.lean); close each card by the builder's one call (the guide's Derived/Test/ToyasCard.lean, 'card_holds'). Laid BY PROGRAM, IN A SANDBOX (cutbox-door.mjs). By AI agents, Wed Nov 11 2026. No macro, syntax, notation, axiom, sorry.
-/
import Derived.Test.YtlcfoihgfcmfeaaGreatDoorRows
import GoSem.ClaimSeven
namespace Go.Proofs.YtlcfoihgfcmfeaaGreatDoor
namespace Rows

/-- THE TIED CARD OF 'laws.FnOptimized'. -/
def fnOptimizedCard : Claim7 := { stood := { row := fnOptimizedRow, standIns := [], harness := (true, "04e46eacbf2cbfa1f9061613e2c2ae63030cba66e6776468b1ca2edc53169d62"), looks := true }, kinds := [], alts := [], laidByText := true, laidKinds := [.sentinel, .sentinel, .sentinel, .sentinel, .sentinel, .sentinel, .sentinel, .data, .data, .data], laidTests := true, laidLooks := .later }
def FnOptimizedCardSaid : Prop := Claim7.holds Tryz.pinned (.plain (OpenSpec.ofChange fnOptimizedSpec)) fnOptimizedCard

/-- THE SECOND FORM's CARD OF 'laws.FnOptimized'. -/
def fnOptimizedUptoCard : Claim7 := { stood := { row := fnOptimizedUptoRow, standIns := [], harness := (true, "04e46eacbf2cbfa1f9061613e2c2ae63030cba66e6776468b1ca2edc53169d62"), looks := true }, kinds := [], alts := [], laidByText := true, laidKinds := [.sentinel, .sentinel, .sentinel, .sentinel, .sentinel, .sentinel, .sentinel, .data, .data, .data], laidTests := true, laidLooks := .later }
def FnOptimizedUptoCardSaid : Prop := Claim7.holds Tryz.pinned (.plain (OpenSpec.upto fnOptimizedSpec)) fnOptimizedUptoCard
end Rows
end Go.Proofs.YtlcfoihgfcmfeaaGreatDoor

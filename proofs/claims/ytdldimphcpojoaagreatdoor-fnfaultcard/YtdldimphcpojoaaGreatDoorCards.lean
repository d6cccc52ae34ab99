/-
  DERIVED. GIVEN WITH THE SEED: THE CARDS: each row of YtdldimphcpojoaaGreatDoorRows.lean that lists a variable, with what it lists TIED to the program's text (the seventh form; the later family's looks); each row that meets fmt, with fmt's text TOLD by the authors' own Lean function (tested against real Go, not proved from fmt's source: count such statements apart). THE CARD IS WHAT COUNTS. Prove the row's statement (the work); the ties are given (YtdldimphcpojoaaGreatDoorTie.lean); close each card by the builder's one call (the guide's Derived/Test/ToyasCard.lean, 'card_holds'). Laid BY PROGRAM, IN A SANDBOX (cutbox-door.mjs). By AI agents, Wed Nov 11 2026. No macro, syntax, notation, axiom, sorry.
-/
import Derived.Test.YtdldimphcpojoaaGreatDoorRows
import GoSem.ClaimSeven
namespace Go.Proofs.YtdldimphcpojoaaGreatDoor
namespace Rows

/-- THE TIED CARD OF 'laws.FnFault'. -/
def fnFaultCard : Claim7 := { stood := { row := fnFaultRow, standIns := [], harness := (true, "3b5aa8eca6035095e82affde625ed33e8c117a9402786a3ecba2ae66c8da3b0b"), looks := true }, kinds := [], alts := [], laidByText := true, laidKinds := [.data, .data, .data, .handle, .sentinel, .sentinel, .sentinel, .sentinel, .sentinel, .sentinel, .sentinel, .sentinel, .sentinel, .sentinel, .sentinel, .data], laidTests := true, laidLooks := .later }
def FnFaultCardSaid : Prop := Claim7.holds Tryz.pinned (.plain (OpenSpec.ofChange fnFaultSpec)) fnFaultCard

/-- THE SECOND FORM's CARD OF 'laws.FnFault'. -/
def fnFaultUptoCard : Claim7 := { stood := { row := fnFaultUptoRow, standIns := [], harness := (true, "3b5aa8eca6035095e82affde625ed33e8c117a9402786a3ecba2ae66c8da3b0b"), looks := true }, kinds := [], alts := [], laidByText := true, laidKinds := [.data, .data, .data, .handle, .sentinel, .sentinel, .sentinel, .sentinel, .sentinel, .sentinel, .sentinel, .sentinel, .sentinel, .sentinel, .sentinel, .data], laidTests := true, laidLooks := .later }
def FnFaultUptoCardSaid : Prop := Claim7.holds Tryz.pinned (.plain (OpenSpec.upto fnFaultSpec)) fnFaultUptoCard
end Rows
end Go.Proofs.YtdldimphcpojoaaGreatDoor

/-
  DERIVED. GIVEN WITH THE SEED: THE CARDS: each row of YteiieikcjcfkkaaGreatDoorRows.lean that lists a variable, with what it lists TIED to the program's text (the seventh form; the later family's looks); each row that meets fmt, with fmt's text TOLD by the authors' own Lean function (tested against real Go, not proved from fmt's source: count such statements apart). THE CARD IS WHAT COUNTS. Prove the row's statement (the work); the ties are given (YteiieikcjcfkkaaGreatDoorTie.lean); close each card by the builder's one call (the guide's Derived/Test/ToyasCard.lean, 'card_holds'). Laid BY PROGRAM, IN A SANDBOX (cutbox-door.mjs). By AI agents, Wed Nov 11 2026. No macro, syntax, notation, axiom, sorry.
-/
import Derived.Test.YteiieikcjcfkkaaGreatDoorRows
import GoSem.ClaimSeven
namespace Go.Proofs.YteiieikcjcfkkaaGreatDoor
namespace Rows

/-- THE TIED CARD OF 'laws.FnExactOptimize'. -/
def fnExactOptimizeCard : Claim7 := { stood := { row := fnExactOptimizeRow, standIns := [], harness := (true, "04f58a658cf94a1da9b25ae8e0340806d4a60641bb21af8f37173f5d03ba946e"), looks := true }, kinds := [], alts := [], laidByText := true, laidKinds := [.sentinel, .sentinel, .sentinel, .sentinel, .sentinel, .sentinel, .sentinel, .data, .data, .data], laidTests := true, laidLooks := .later }
def FnExactOptimizeCardSaid : Prop := Claim7.holds Tryz.pinned (.plain (OpenSpec.ofChange fnExactOptimizeSpec)) fnExactOptimizeCard

/-- THE SECOND FORM's CARD OF 'laws.FnExactOptimize'. -/
def fnExactOptimizeUptoCard : Claim7 := { stood := { row := fnExactOptimizeUptoRow, standIns := [], harness := (true, "04f58a658cf94a1da9b25ae8e0340806d4a60641bb21af8f37173f5d03ba946e"), looks := true }, kinds := [], alts := [], laidByText := true, laidKinds := [.sentinel, .sentinel, .sentinel, .sentinel, .sentinel, .sentinel, .sentinel, .data, .data, .data], laidTests := true, laidLooks := .later }
def FnExactOptimizeUptoCardSaid : Prop := Claim7.holds Tryz.pinned (.plain (OpenSpec.upto fnExactOptimizeSpec)) fnExactOptimizeUptoCard
end Rows
end Go.Proofs.YteiieikcjcfkkaaGreatDoor

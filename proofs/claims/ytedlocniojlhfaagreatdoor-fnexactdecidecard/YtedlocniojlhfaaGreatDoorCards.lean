/-
  DERIVED. GIVEN WITH THE SEED: THE CARDS: each row of YtedlocniojlhfaaGreatDoorRows.lean that lists a variable, with what it lists TIED to the program's text (the seventh form; the later family's looks); each row that meets fmt, with fmt's text TOLD by the authors' own Lean function (tested against real Go, not proved from fmt's source: count such statements apart). THE CARD IS WHAT COUNTS. Prove the row's statement (the work); the ties are given (YtedlocniojlhfaaGreatDoorTie.lean); close each card by the builder's one call (the guide's Derived/Test/ToyasCard.lean, 'card_holds'). Laid BY PROGRAM, IN A SANDBOX (cutbox-door.mjs). By AI agents, Wed Nov 11 2026. No macro, syntax, notation, axiom, sorry.
-/
import Derived.Test.YtedlocniojlhfaaGreatDoorRows
import GoSem.ClaimSeven
namespace Go.Proofs.YtedlocniojlhfaaGreatDoor
namespace Rows

/-- THE TIED CARD OF 'laws.FnExactDecide'. -/
def fnExactDecideCard : Claim7 := { stood := { row := fnExactDecideRow, standIns := [], harness := (true, "81b678780674f2a2ed27198f5c85ef1911ae80879c30ccfbc62b54c8ab322c0f"), looks := true }, kinds := [], alts := [], laidByText := true, laidKinds := [.sentinel, .sentinel, .sentinel, .sentinel, .sentinel, .sentinel, .sentinel, .data, .data, .data], laidTests := true, laidLooks := .later }
def FnExactDecideCardSaid : Prop := Claim7.holds Tryz.pinned (.plain (OpenSpec.ofChange fnExactDecideSpec)) fnExactDecideCard

/-- THE SECOND FORM's CARD OF 'laws.FnExactDecide'. -/
def fnExactDecideUptoCard : Claim7 := { stood := { row := fnExactDecideUptoRow, standIns := [], harness := (true, "81b678780674f2a2ed27198f5c85ef1911ae80879c30ccfbc62b54c8ab322c0f"), looks := true }, kinds := [], alts := [], laidByText := true, laidKinds := [.sentinel, .sentinel, .sentinel, .sentinel, .sentinel, .sentinel, .sentinel, .data, .data, .data], laidTests := true, laidLooks := .later }
def FnExactDecideUptoCardSaid : Prop := Claim7.holds Tryz.pinned (.plain (OpenSpec.upto fnExactDecideSpec)) fnExactDecideUptoCard
end Rows
end Go.Proofs.YtedlocniojlhfaaGreatDoor

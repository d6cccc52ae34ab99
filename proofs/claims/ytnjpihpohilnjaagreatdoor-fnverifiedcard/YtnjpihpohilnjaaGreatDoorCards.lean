/-
  DERIVED. GIVEN WITH THE SEED: THE CARDS: each row of YtnjpihpohilnjaaGreatDoorRows.lean that lists a variable, with what it lists TIED to the program's text (the seventh form; the later family's looks); each row that meets fmt, with fmt's text TOLD by the authors' own Lean function (tested against real Go, not proved from fmt's source: count such statements apart). THE CARD IS WHAT COUNTS. Prove the row's statement (the work); the ties are given (YtnjpihpohilnjaaGreatDoorTie.lean); close each card by the builder's one call (the guide's Derived/Test/ToyasCard.lean, 'card_holds'). Laid BY PROGRAM, IN A SANDBOX (cutbox-door.mjs). By AI agents, Wed Nov 11 2026. No macro, syntax, notation, axiom, sorry.
-/
import Derived.Test.YtnjpihpohilnjaaGreatDoorRows
import GoSem.ClaimSeven
namespace Go.Proofs.YtnjpihpohilnjaaGreatDoor
namespace Rows

/-- THE TIED CARD OF 'laws.FnVerified'. -/
def fnVerifiedCard : Claim7 := { stood := { row := fnVerifiedRow, standIns := [], harness := (true, "5cdffb4ef60e637c8b3899f46ba87c687735e0b57424755716c8028b8a87a912"), looks := true }, kinds := [], alts := [], laidByText := true, laidKinds := [.sentinel, .sentinel, .sentinel, .sentinel, .sentinel, .data, .data, .data], laidTests := true, laidLooks := .later }
def FnVerifiedCardSaid : Prop := Claim7.holds Tryz.pinned (.plain (OpenSpec.ofChange fnVerifiedSpec)) fnVerifiedCard

/-- THE SECOND FORM's CARD OF 'laws.FnVerified'. -/
def fnVerifiedUptoCard : Claim7 := { stood := { row := fnVerifiedUptoRow, standIns := [], harness := (true, "5cdffb4ef60e637c8b3899f46ba87c687735e0b57424755716c8028b8a87a912"), looks := true }, kinds := [], alts := [], laidByText := true, laidKinds := [.sentinel, .sentinel, .sentinel, .sentinel, .sentinel, .data, .data, .data], laidTests := true, laidLooks := .later }
def FnVerifiedUptoCardSaid : Prop := Claim7.holds Tryz.pinned (.plain (OpenSpec.upto fnVerifiedSpec)) fnVerifiedUptoCard
end Rows
end Go.Proofs.YtnjpihpohilnjaaGreatDoor

/-
  DERIVED. GIVEN WITH THE SEED: THE CARDS: each row of YtcnhknlgkidlcaaDoorRows.lean that lists a variable, with what it lists TIED to the program's text (the seventh form; the later family's looks); each row that meets fmt, with fmt's text TOLD by the authors' own Lean function (tested against real Go, not proved from fmt's source: count such statements apart). THE CARD IS WHAT COUNTS. Prove the row's statement (the work); the ties are given (YtcnhknlgkidlcaaDoorTie.lean); close each card by the builder's one call (the guide's Derived/Test/ToyasCard.lean, 'card_holds'). Laid BY PROGRAM, IN A SANDBOX (cutbox-door.mjs). By AI agents, Wed Nov 11 2026. No macro, syntax, notation, axiom, sorry.
-/
import Derived.Test.YtcnhknlgkidlcaaDoorRows
import GoSem.ClaimSeven
namespace Go.Proofs.YtcnhknlgkidlcaaDoor
namespace Rows

/-- THE TIED CARD OF 'laws.FnExactWellTyped'. -/
def fnExactWellTypedCard : Claim7 := { stood := { row := fnExactWellTypedRow, standIns := [], harness := (true, "a9b2c1c674ccfd45a0c95db003a295a62dd3ee0274d44e65c058bfa549c5c689"), looks := true }, kinds := [], alts := [], laidByText := true, laidKinds := [.sentinel, .sentinel, .sentinel, .data, .data, .data], laidTests := true, laidLooks := .later }
def FnExactWellTypedCardSaid : Prop := Claim7.holds Tryd.pinned (.plain (OpenSpec.ofChange fnExactWellTypedSpec)) fnExactWellTypedCard

/-- THE SECOND FORM's CARD OF 'laws.FnExactWellTyped'. -/
def fnExactWellTypedUptoCard : Claim7 := { stood := { row := fnExactWellTypedUptoRow, standIns := [], harness := (true, "a9b2c1c674ccfd45a0c95db003a295a62dd3ee0274d44e65c058bfa549c5c689"), looks := true }, kinds := [], alts := [], laidByText := true, laidKinds := [.sentinel, .sentinel, .sentinel, .data, .data, .data], laidTests := true, laidLooks := .later }
def FnExactWellTypedUptoCardSaid : Prop := Claim7.holds Tryd.pinned (.plain (OpenSpec.upto fnExactWellTypedSpec)) fnExactWellTypedUptoCard
end Rows
end Go.Proofs.YtcnhknlgkidlcaaDoor

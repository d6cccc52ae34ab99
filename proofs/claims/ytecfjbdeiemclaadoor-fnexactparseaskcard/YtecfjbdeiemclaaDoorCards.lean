/-
  DERIVED. GIVEN WITH THE SEED: THE CARDS: each row of YtecfjbdeiemclaaDoorRows.lean that lists a variable, with what it lists TIED to the program's text (the seventh form; the later family's looks); each row that meets fmt, with fmt's text TOLD by the authors' own Lean function (tested against real Go, not proved from fmt's source: count such statements apart). THE CARD IS WHAT COUNTS. Prove the row's statement (the work); the ties are given (YtecfjbdeiemclaaDoorTie.lean); close each card by the builder's one call (the guide's Derived/Test/ToyasCard.lean, 'card_holds'). Laid BY PROGRAM, IN A SANDBOX (cutbox-door.mjs). By AI agents, Wed Nov 11 2026. No macro, syntax, notation, axiom, sorry.
-/
import Derived.Test.YtecfjbdeiemclaaDoorRows
import GoSem.ClaimSeven
namespace Go.Proofs.YtecfjbdeiemclaaDoor
namespace Rows

/-- THE TIED CARD OF 'laws.FnExactParseAsk'. -/
def fnExactParseAskCard : Claim7 := { stood := { row := fnExactParseAskRow, standIns := [], harness := (true, "e6d9b4922cdcfdb13efc1309ca84b122137714032265ed74ea59b636eb3c40de"), looks := false }, kinds := [], alts := [], laidByText := true, laidKinds := [.data, .pinned], laidTests := true, laidLooks := .later }
def FnExactParseAskCardSaid : Prop := Claim7.holds Tryd.pinned (.plain (OpenSpec.ofChange fnExactParseAskSpec)) fnExactParseAskCard

/-- THE SECOND FORM's CARD OF 'laws.FnExactParseAsk'. -/
def fnExactParseAskUptoCard : Claim7 := { stood := { row := fnExactParseAskUptoRow, standIns := [], harness := (true, "e6d9b4922cdcfdb13efc1309ca84b122137714032265ed74ea59b636eb3c40de"), looks := false }, kinds := [], alts := [], laidByText := true, laidKinds := [.data, .pinned], laidTests := true, laidLooks := .later }
def FnExactParseAskUptoCardSaid : Prop := Claim7.holds Tryd.pinned (.plain (OpenSpec.upto fnExactParseAskSpec)) fnExactParseAskUptoCard
end Rows
end Go.Proofs.YtecfjbdeiemclaaDoor

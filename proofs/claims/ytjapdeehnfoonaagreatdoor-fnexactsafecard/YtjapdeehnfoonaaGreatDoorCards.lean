/-
  DERIVED. GIVEN WITH THE SEED: THE CARDS: each row of YtjapdeehnfoonaaGreatDoorRows.lean that lists a variable, with what it lists TIED to the program's text (the seventh form; the later family's looks); each row that meets fmt, with fmt's text TOLD by the authors' own Lean function (tested against real Go, not proved from fmt's source: count such statements apart). THE CARD IS WHAT COUNTS. Prove the row's statement (the work); the ties are given (YtjapdeehnfoonaaGreatDoorTie.lean); close each card by the builder's one call (the guide's Derived/Test/ToyasCard.lean, 'card_holds'). Laid BY PROGRAM, IN A SANDBOX (cutbox-door.mjs). By AI agents, Wed Nov 11 2026. No macro, syntax, notation, axiom, sorry.
-/
import Derived.Test.YtjapdeehnfoonaaGreatDoorRows
import GoSem.ClaimSeven
namespace Go.Proofs.YtjapdeehnfoonaaGreatDoor
namespace Rows

/-- THE TIED CARD OF 'laws.FnExactSafe'. -/
def fnExactSafeCard : Claim7 := { stood := { row := fnExactSafeRow, standIns := [], harness := (true, "896c7ddefe92ce4df94d759916726394b1b21e3a7da85375556bd9828091649d"), looks := true }, kinds := [], alts := [], laidByText := true, laidKinds := [.sentinel, .sentinel, .sentinel, .data, .data, .data], laidTests := true, laidLooks := .later }
def FnExactSafeCardSaid : Prop := Claim7.holds Tryz.pinned (.plain (OpenSpec.ofChange fnExactSafeSpec)) fnExactSafeCard

/-- THE SECOND FORM's CARD OF 'laws.FnExactSafe'. -/
def fnExactSafeUptoCard : Claim7 := { stood := { row := fnExactSafeUptoRow, standIns := [], harness := (true, "896c7ddefe92ce4df94d759916726394b1b21e3a7da85375556bd9828091649d"), looks := true }, kinds := [], alts := [], laidByText := true, laidKinds := [.sentinel, .sentinel, .sentinel, .data, .data, .data], laidTests := true, laidLooks := .later }
def FnExactSafeUptoCardSaid : Prop := Claim7.holds Tryz.pinned (.plain (OpenSpec.upto fnExactSafeSpec)) fnExactSafeUptoCard
end Rows
end Go.Proofs.YtjapdeehnfoonaaGreatDoor

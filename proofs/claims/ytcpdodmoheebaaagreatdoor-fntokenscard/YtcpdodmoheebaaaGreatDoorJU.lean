/-
  A tree's kids and place, by its methods. Own work.
-/
import Derived.Test.YtcpdodmoheebaaaGreatDoorMXAF
import Derived.Test.YtcpdodmoheebaaaGreatDoorMXAH
namespace Go.Proofs.YtcpdodmoheebaaaGreatDoor
open Go.RowKit
set_option linter.unusedVariables false
end Go.Proofs.YtcpdodmoheebaaaGreatDoor

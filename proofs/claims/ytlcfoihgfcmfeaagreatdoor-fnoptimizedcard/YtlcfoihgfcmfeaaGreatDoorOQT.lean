import Derived.Test.YtlcfoihgfcmfeaaGreatDoorMXBC
import Derived.Deep.DeepCutAuto
import Derived.Deep.CutBlock
namespace Go.Proofs.YtlcfoihgfcmfeaaGreatDoor
open Go.RowKit
set_option linter.unusedVariables false
end Go.Proofs.YtlcfoihgfcmfeaaGreatDoor

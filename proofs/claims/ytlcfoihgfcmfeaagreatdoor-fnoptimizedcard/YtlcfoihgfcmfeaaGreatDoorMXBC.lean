import Derived.Test.YtlcfoihgfcmfeaaGreatDoorOQE
import Derived.Test.YtlcfoihgfcmfeaaGreatDoorMXAO
import Derived.Test.YtlcfoihgfcmfeaaGreatDoorMXAS
namespace Go.Proofs.YtlcfoihgfcmfeaaGreatDoor
open Go.RowKit
set_option linter.unusedVariables false
structure S5 where
 aF:Int
 name:M1
 n:Int
 ca:M2 Addr
 cn:Nat
 cc:Nat
 ga:M2 Addr
 gn:Nat
 gc:Nat
end Go.Proofs.YtlcfoihgfcmfeaaGreatDoor

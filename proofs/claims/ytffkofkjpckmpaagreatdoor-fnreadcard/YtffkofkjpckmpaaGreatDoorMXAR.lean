/-
  MarkT, Mark, OwnM, Own. Own work.
-/
import Derived.Test.YtffkofkjpckmpaaGreatDoorMXAM
import Derived.Test.YtffkofkjpckmpaaGreatDoorMXAB
namespace Go.Proofs.YtffkofkjpckmpaaGreatDoor
open Go.RowKit
end Go.Proofs.YtffkofkjpckmpaaGreatDoor

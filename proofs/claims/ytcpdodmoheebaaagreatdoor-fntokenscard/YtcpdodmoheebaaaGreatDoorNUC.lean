/-
  Numbering: a tree is added. Own work.
-/
import Derived.Test.YtcpdodmoheebaaaGreatDoorMXAL
import Derived.Test.YtcpdodmoheebaaaGreatDoorMXAF
namespace Go.Proofs.YtcpdodmoheebaaaGreatDoor
open Go.RowKit
set_option linter.unusedVariables false
theorem L6:(Tryz.prog.info? 99).map (fun a=>(a.zero,a.size,a.bytes))=some (some (.agg #[.int .i64 0,.int .i64 0,.string ByteArray.empty,.slice none 0 0,.slice none 0 0]),5,80):=by kernel_rfl
theorem LW (w:World):Below w.heap.size w w.drew:=⟨rfl,rfl,rfl,Nat.le_refl _,fun _ _=>rfl⟩
end Go.Proofs.YtcpdodmoheebaaaGreatDoor

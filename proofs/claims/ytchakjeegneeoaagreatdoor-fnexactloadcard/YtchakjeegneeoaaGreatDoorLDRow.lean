/-
  FnExactLoad: the row, and its card (written by mkldrow.py). Own work.
-/
import Derived.Test.YtchakjeegneeoaaGreatDoorLDR0
import Derived.Test.YtchakjeegneeoaaGreatDoorTie
import Derived.Test.YtchakjeegneeoaaGreatDoorCards
import Derived.SevenTiedAt
import Derived.WalkKit
import Derived.ProofKit
import Derived.OpenShut
import Derived.OpenVars
import Derived.ShutString
import Derived.LaidMore
import Derived.LaidHandle
import Derived.Stop.LaidErr
import Derived.Stop.Joined
import Derived.ChangeOld
import Derived.Below
import Derived.WalkSmall
namespace Go.Proofs.YtchakjeegneeoaaGreatDoor.fnExactLoadDone
open Go.ChangeShapes Go.WideShapes Go.ChangeAt Go.RowKit
open Go.ChangeMaps (open_string shut_string)
set_option linter.unusedVariables false
set_option maxRecDepth 100000
theorem over:Rows.FnExactLoadSaid:=
 OpenClaim.holds_of_wide 3 Tryz.f3 rfl rfl rfl rfl rfl rfl rfl ⟨rfl,rfl,rfl,rfl,rfl⟩ rfl rfl rfl rfl rfl (by kernel_rfl) Tryz.func3 (by kernel_rfl)
  (of_decide_eq_true (by kernel_rfl)) (by unfold Func.isWrapper;first | (rw[if_pos (by decide+kernel)];kernel_rfl) | (rw[if_neg (by decide+kernel)];exact ⟨rfl,rfl⟩))
  (fun os a b enc _=>AdF os a b enc)
theorem card:Rows.FnExactLoadCardSaid:=
 Claim7.holds_tied_plain_at .later [] [.data,.data,.data,.handle,.sentinel,.sentinel,.sentinel,.sentinel,.sentinel,.sentinel,.sentinel,.sentinel,.sentinel,.sentinel,.sentinel,.sentinel,.data,.data,.data] true (true, "2f31f3bce59cdae5fc47b64e16a411437d1b9bbf54c7fe42c41c68cef29084d7") true
  over (fun _ h=>by cases h) (by kernel_rfl) (fun _ h=>by cases h) fnExactLoad_row_tie rfl ⟨rfl,rfl⟩ (by kernel_rfl) rfl
  (fun f a hf b=>by
   obtain rfl:f= 3:=Option.some.inj ((show Tryz.prog.funcNamed "loop.example/s01308/laws.FnExactLoad" =some 3 by kernel_rfl).symm.trans hf) |>.symm;obtain rfl:a= Tryz.f3:=(Option.some.inj (Tryz.func3.symm.trans b)).symm;exact ⟨by kernel_rfl,fun j t ht=>by
    rw[Tryz.params3] at ht;have c:t∈ [9]:=by simpa using Array.mem_of_getElem? ht
    have d:([9].all fun u=>!Tryz.prog.wantsStandIn u)=true:=by kernel_rfl
    exact (show Tryz.prog.wantsStandIn t=false by simpa using z6.1 d t c)⟩)
  (by kernel_rfl)
end Go.Proofs.YtchakjeegneeoaaGreatDoor.fnExactLoadDone
namespace Go.Proofs.YtchakjeegneeoaaGreatDoor
theorem fnExactLoad_holds:Rows.FnExactLoadCardSaid:=fnExactLoadDone.card
end Go.Proofs.YtchakjeegneeoaaGreatDoor

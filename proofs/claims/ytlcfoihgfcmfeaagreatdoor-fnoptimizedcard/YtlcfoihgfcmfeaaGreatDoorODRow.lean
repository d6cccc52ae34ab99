import Derived.Test.YtlcfoihgfcmfeaaGreatDoorODR0
namespace Go.Proofs.YtlcfoihgfcmfeaaGreatDoor.fnOptimizedDone
open Proofs.Tryz
open Proofs.Tryz renaming prog->jZ
open ChangeShapes Go.WideShapes Go.ChangeAt Go.RowKit
set_option linter.unusedVariables false
set_option maxRecDepth 100000
theorem Ano:Rows.FnOptimizedSaid:=OpenClaim.holds_of_wide 3 Tryz.f3 rfl rfl rfl rfl rfl rfl rfl ⟨rfl,rfl,rfl,rfl,rfl⟩ rfl rfl rfl rfl rfl Ok func3 Ok (M0 Ok) (by unfold Func.isWrapper;first|(rw[K1 (by decide+kernel)];kernel_rfl)|(rw[K0<|by decide+kernel];exact⟨rfl,rfl⟩)) (λos a b enc _=>Ald os a b enc)
theorem card:Rows.FnOptimizedCardSaid:=Claim7.holds_tied_plain_at .later [] [.sentinel,.sentinel,.sentinel,.sentinel,.sentinel,.sentinel,.sentinel,.data,.data,.data] true (true,"04e46eacbf2cbfa1f9061613e2c2ae63030cba66e6776468b1ca2edc53169d62") true Ano (λ_ h=>O6) Ok (λ_ h=>O6) fnOptimized_row_tie rfl ⟨rfl,rfl⟩ Ok rfl (λf fn hf a=>by obtain rfl:f=3:=Option.some.inj ((Ok:jZ.funcNamed "loop.example/s01308/laws.FnOptimized"=some 3).symm.trans hf)|>.symm;obtain rfl:fn=Tryz.f3:=(Option.some.inj (func3.symm.trans a)).symm;exact⟨Ok,λj t ht=>by
    rw[params3]at ht;have hm:t∈[22,22]:=by simpa using Array.mem_of_getElem? ht
    have b:([22,22].all λu=>!jZ.wantsStandIn u)=true:=Ok;exact(show jZ.wantsStandIn t=false by simpa using zo.1 b t hm)⟩) Ok
end Go.Proofs.YtlcfoihgfcmfeaaGreatDoor.fnOptimizedDone
namespace Go.Proofs.YtlcfoihgfcmfeaaGreatDoor
theorem fnOptimized_holds:Rows.FnOptimizedCardSaid:=fnOptimizedDone.card
end Go.Proofs.YtlcfoihgfcmfeaaGreatDoor

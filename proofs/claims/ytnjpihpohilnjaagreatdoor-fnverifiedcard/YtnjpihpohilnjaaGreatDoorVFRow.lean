import Derived.Test.YtnjpihpohilnjaaGreatDoorVFR0
namespace Go.Proofs.YtnjpihpohilnjaaGreatDoor.fnVerifiedDone
open Proofs.Tryz
open Proofs.Tryz renaming prog->jZ
open ChangeShapes Go.WideShapes Go.ChangeAt Go.RowKit
set_option linter.unusedVariables false
set_option maxRecDepth 100000
theorem Alt:Rows.FnVerifiedSaid:=
 OpenClaim.holds_of_wide 3 Tryz.f3 rfl rfl rfl rfl rfl rfl rfl ⟨rfl,rfl,rfl,rfl,rfl⟩ rfl rfl rfl rfl rfl Oy func3 Oy
  (K8 Oy) (by unfold Func.isWrapper;first|(rw[H8 (by decide+kernel)];kernel_rfl)|(rw[H7<|by decide+kernel];exact⟨rfl,rfl⟩))
  (λos a b enc _=>AjG os a b enc)
theorem card:Rows.FnVerifiedCardSaid:=
 Claim7.holds_tied_plain_at .later [] [.sentinel,.sentinel,.sentinel,.sentinel,.sentinel,.data,.data,.data] true (true, "5cdffb4ef60e637c8b3899f46ba87c687735e0b57424755716c8028b8a87a912") true
  Alt (λ_ h=>Qy) Oy (λ_ h=>Qy) fnVerified_row_tie rfl ⟨rfl,rfl⟩ Oy rfl
  (λf a b c=>by
   obtain rfl:f= 3:=Option.some.inj ((Oy:jZ.funcNamed "loop.example/s01308/laws.FnVerified" =some 3).symm.trans b) |>.symm;obtain rfl:a= Tryz.f3:=(Option.some.inj (func3.symm.trans c)).symm;exact⟨Oy,λj t ht=>by
    rw[params3]at ht;have hm:t∈ [22,22]:=by simpa using Array.mem_of_getElem? ht
    have d:([22,22].all λu=>!jZ.wantsStandIn u)=true:=Oy;exact(show jZ.wantsStandIn t=false by simpa using zq.1 d t hm)⟩)
  Oy
end Go.Proofs.YtnjpihpohilnjaaGreatDoor.fnVerifiedDone
namespace Go.Proofs.YtnjpihpohilnjaaGreatDoor
theorem fnVerified_holds:Rows.FnVerifiedCardSaid:=fnVerifiedDone.card
end Go.Proofs.YtnjpihpohilnjaaGreatDoor

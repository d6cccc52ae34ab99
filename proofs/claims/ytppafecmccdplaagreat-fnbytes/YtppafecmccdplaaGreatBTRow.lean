import Derived.Test.YtppafecmccdplaaGreatBTW
open Go.Proofs.Tryz
open Go.Proofs.Tryz renaming prog->jL
namespace Go.Proofs.YtppafecmccdplaaGreat.fnBytesDone
set_option maxRecDepth 100000
open Go.ChangeShapes Go.WideShapes Go.ChangeAt Go.RowKit
open Go.ChangeMaps (open_string shut_string)
set_option linter.unusedVariables false
theorem own:ownKnob jL.godebug=none:=by kernel_rfl
theorem Y9:laidOutB jL =true:=by kernel_rfl
theorem Af8 (os:Os)(z:os.Started)(A:Type)(enc:TypeId×Value->A):
  ReturnsInHanded {} Tryz.checked os 3 .any (Rows.fnBytesSpec.pre6 enc jL Tryz.f3 Rows.fnBytesRow.domain false) (Rows.fnBytesSpec.post enc jL Tryz.f3 false true false false):=by
 refine returnsInHanded_of_change (C:=Tryz.checked) own z (by kernel_rfl) func3
  (ChangeSpec.witness6 (enc:=enc) (C:=Tryz.checked) false ⟨#[],#[.slice none 0 0,.slice none 0 0],[]⟩ 8 (by kernel_rfl) (by kernel_rfl) (by kernel_rfl) (by kernel_rfl)) ?_
 intro a base args B P S d f W _;have b:∀(j:Nat) t v,Tryz.f3.params[j]? =some t->args[j]? =some v->Value.okWide jL a .any base t v:=d;have D:=f;obtain⟨p,q,g,E,rfl,aa,ab⟩:=f;have i:DataW.TrodAll enc jL a 0 (fun _=>true) true Tryz.f3.params.toList args.toList B p:=g;rw[params3]at i b;obtain⟨k,ac,ad,ae,F,af,ag,rfl,rfl,h0,G⟩:=trodAll_cons i;obtain⟨l,ah,d1,ai,H,aj,rfl,rfl,rfl,h1,I⟩:=trodAll_cons G;obtain⟨rfl,rfl,rfl⟩:=trodAll_nil I;obtain rfl:args= #[k,l]:=by cases args;simp_all
 obtain⟨rfl,rfl⟩:=trodVars_none E;obtain⟨n,o,r,rfl⟩:=okWide_slice underlying22 (b 0 22 k rfl rfl);have s:=h0;have J:∀x∈F,x.block<a.heap.size:=by obtain⟨m,hm⟩:=s;exact DataW.trod_lt m _ _ _ hm
 obtain⟨K,w0⟩:∃ss,Eh a n o r ss:=by
  obtain⟨L,c⟩:=h0;exact Eh.of_trod underlying22 underlying5 (by kernel_rfl) c
 obtain⟨a1,u,w,rfl⟩:=okWide_slice underlying22 (b 1 22 l rfl rfl);have y:=h1;have M:∀x∈H,x.block<a.heap.size:=by obtain⟨m,hm⟩:=y;exact DataW.trod_lt m _ _ _ hm
 obtain⟨N,O⟩:∃ss,Eh a a1 u w ss:=by
  obtain⟨L,c⟩:=h1;exact Eh.of_trod underlying22 underlying5 (by kernel_rfl) c
 clear g d;refine(Un n o r K a1 u w N a w0 O).mono fun e ak ⟨he,bel⟩=>?_;subst he;exact⟨_,rfl,_,_,_,[],_,[],D,trodAll_mk1 (shut_bool underlying4 _),(trodAll_cons_mk (Below.trod Y9 (by kernel_rfl) (of_decide_eq_true (by kernel_rfl)) s bel J) (trodAll_cons_mk (Below.trod Y9 (by kernel_rfl) (of_decide_eq_true (by kernel_rfl)) y bel M) trodAll_mk0)),rfl,bel.frame _,fun h=>by cases h⟩
theorem Aiw:Rows.fnBytesRow.holds Tryz.pinned (OpenSpec.ofChange Rows.fnBytesSpec):=
 OpenClaim.holds_of_wide 3 Tryz.f3 rfl rfl rfl rfl rfl rfl rfl ⟨rfl,rfl,rfl,rfl,rfl⟩ rfl rfl rfl rfl rfl (by kernel_rfl) func3 (by kernel_rfl)
  (of_decide_eq_true (by kernel_rfl)) (by unfold Func.isWrapper;first|(rw[if_pos (by decide+kernel)];kernel_rfl)|(rw[if_neg (by decide+kernel)];exact⟨rfl,rfl⟩))
  (fun os a b enc _=>Af8 os a b enc)
end Go.Proofs.YtppafecmccdplaaGreat.fnBytesDone
namespace Go.Proofs.YtppafecmccdplaaGreat
theorem fnBytes_holds:Rows.FnBytesSaid:=fnBytesDone.Aiw
end Go.Proofs.YtppafecmccdplaaGreat

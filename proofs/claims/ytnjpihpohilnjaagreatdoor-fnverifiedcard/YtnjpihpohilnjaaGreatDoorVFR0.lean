import Derived.Test.YtnjpihpohilnjaaGreatDoorMXAR
import Derived.Test.YtnjpihpohilnjaaGreatDoorTie
import Derived.Test.YtnjpihpohilnjaaGreatDoorCards
open Go.Proofs.Tryz
open Go.Proofs.Tryz renaming prog->jZ
namespace Go.Proofs.YtnjpihpohilnjaaGreatDoor.fnVerifiedDone
open Go.ChangeShapes Go.WideShapes Go.ChangeAt Go.RowKit
set_option linter.unusedVariables false
set_option maxRecDepth 100000
theorem own:ownKnob jZ.godebug=none:=Oy
theorem Vu:laidOutB jZ =true:=Oy
abbrev XY:List<|String×DataW Unit:= [("loop.example/s01308/impl.errOverflow",Rows.laid_loop_example_s01308_impl_errOverflow),("loop.example/s01308/impl.errZero",Rows.laid_loop_example_s01308_impl_errZero),("loop.example/s01308/impl.errWidth",Rows.laid_loop_example_s01308_impl_errWidth),("loop.example/s01308/impl.errShape",Rows.laid_loop_example_s01308_impl_errShape),("loop.example/s01308/impl.errType",Rows.laid_loop_example_s01308_impl_errType),("loop.example/s01308/impl.binaryOperators",Rows.laid_loop_example_s01308_impl_binaryOperators),("loop.example/s01308/impl.attributes",Rows.laid_loop_example_s01308_impl_attributes),("loop.example/s01308/impl.signatures",Rows.laid_loop_example_s01308_impl_signatures)]
theorem AfM (os:Os)(args:Array Value):laidMetH jZ XY ((World.doorLaid jZ 158 os).forCall (λ_ _=>0) ⟨#[],args,[]⟩).memory:=
 laidMetH_of_parts3 (fuel:=8) (laidMet_of_run' 8 Oy Oy) Oy Oy
abbrev Abq:List<|String×N4×Nat:= [("loop.example/s01308/impl.errOverflow",[116,104,101,32,110,117,109,98,101,114,32,100,111,101,115,32,110,111,116,32,102,105,116],0),("loop.example/s01308/impl.errZero",[100,105,118,105,115,105,111,110,32,98,121,32,122,101,114,111],1),("loop.example/s01308/impl.errWidth",[116,104,101,32,115,101,116,32,104,97,115,32,116,111,111,32,109,97,110,121,32,110,97,109,101,115],2),("loop.example/s01308/impl.errShape",[105,108,108,45,102,111,114,109,101,100,32,97,114,103,117,109,101,110,116],6),("loop.example/s01308/impl.errType",[116,104,101,32,116,121,112,101,32,100,111,101,115,32,110,111,116,32,102,105,116],4)]
theorem AfN:(Abq.all λx=>(jZ.globalNamed x.1==some x.2.2)&&((jZ.globals[x.2.2]?).map (·.type)==some 101))=true:=Oy
theorem XZ {d:World}(h0:laidMetH jZ XY d):∃n aS aO aZ aW,AfO d n aS aO aZ aW:=by
 rw[MakeChecks.laidMetH_plain _ _ _ Oy]at h0;obtain⟨o,h3,p,s⟩:=h0;have ok:∀x∈Abq,jZ.globalNamed x.1=some x.2.2/\(jZ.globals[x.2.2]?).map (·.type)=some 101:=λx hx=>by simpa using zq.1 AfN x hx
 obtain⟨f,q,b,t,k,_,_⟩:=TP s Abq [("loop.example/s01308/impl.binaryOperators",Rows.laid_loop_example_s01308_impl_binaryOperators),("loop.example/s01308/impl.attributes",Rows.laid_loop_example_s01308_impl_attributes),("loop.example/s01308/impl.signatures",Rows.laid_loop_example_s01308_impl_signatures)] o ok (λ_ h=>h) h3 p;have l:=UZ (g:=7) (V:=Nb) k Oy Oy underlying256 underlying239 Oy Oy (AiU Oy) Oy;obtain⟨_,_,_,_,_,_,_,_,_,_,m,_⟩:=k;obtain⟨a1,a2⟩:=UZ (g:=3) (V:=AkJ) m Oy Oy underlying191 underlying190 Oy Oy (AiU Oy) Oy;obtain⟨_,_,_,_,_,_,_,_,_,_,u,_⟩:=m;obtain⟨s1,s2⟩:=UZ (g:=5) (V:=Ya) u Oy Oy underlying215 underlying214 Oy Oy (AiU Oy) Oy;have c:=λi x h=>(b i x h).2.1;have lt:=λ(i:Nat) x (h:Abq[i]? =some x)=>TO (ok _<|zn h).1 (b i x h).1;have a:∀i j,i<5->j<5->i≠j->f i≠f j:=λi j hi v w e=>w<|t i j hi v e;have y:=lt 0 _ rfl;have l1:=lt 1 _ rfl;have z:=lt 2 _ rfl;have A:=lt 3 _ rfl;have r:=λi x h=>(b i x h).2.2.1;exact⟨f 4,f 3,f 0,f 1,f 2,⟨s1,s2,a1,a2,lt 4 _ rfl,c 4 _ rfl⟩,⟨c 3 _ rfl,c 0 _ rfl,c 1 _ rfl,c 2 _ rfl,Oa,r 3 _ rfl,r 0 _ rfl,r 1 _ rfl,r 2 _ rfl,a _ _ Ob Ob Ob,a _ _ Ob Ob Ob,a _ _ Ob Ob Ob,a _ _ Ob Ob Ob,a _ _ Ob Ob Ob,a _ _ Ob Ob Ob⟩,l.1,l.2⟩
theorem Yb {a:Type}{enc:TypeId×Value->a}{P:Program}{w:World}{c:Nat->Bool} :∀{ns:List String} {b:List (DataW a)} {d:List MemPlace},DataW.TrodVars enc P w c ns b d->List.length b=List.length ns
 |[],[],_,_=>rfl
 |_ ::_,_ ::_,_,⟨_,_,_,_,_,_,_,_,_,_,h,_⟩=>congrArg (· +1)<|Yb h
theorem AfP {f:Type}{a:List (DataW f)}(h:List.length a=8):∃g0 g1 g2 g3 b c d g7,a=[g0,g1,g2,g3,b,c,d,g7]:=
 match a,h with
 |[g0,g1,g2,g3,b,c,d,g7],_=>⟨g0,g1,g2,g3,b,c,d,g7,rfl⟩
theorem AjG (os:Os)(F:os.Started)(G:Type)(enc:TypeId×Value->G):
  ReturnsInHanded {} Tryz.checked os 3 .any (λw args=>(Rows.fnVerifiedSpec.pre enc jZ Tryz.f3 [] false w args/\laidMetH jZ XY w)/\sizedMet enc jZ Tryz.f3 (OpenSpec.ofChange Rows.fnVerifiedSpec) false w args)
   (Rows.fnVerifiedSpec.post enc jZ Tryz.f3 false true false false):=by
 refine returnsInHanded_of_change_and (C:=Tryz.checked) (X:=λw _=>laidMetH jZ XY w) (λ_ _ _ hh h=>h.of_heap hh) own F Oy func3
  (ChangeSpec.witness_shaped (enc:=enc) (C:=Tryz.checked) (os:=os) (X:=λw _=>laidMetH jZ XY w) false (World.doorLaid jZ 158 os) #[.slice none 0 0,.slice none 0 0] 8 rfl (World.shaped_of_RefB Oy Oy) Oy Oy Oy (AfM os _)) ?_
 intro a base args H I ae f g _ _ J _;have c:∀(j:Nat) t v,Tryz.f3.params[j]? =some t->args[j]? =some v->Value.okWide jZ a .any base t v:=f;have K:=g;obtain⟨p,q,i,k,rfl,af,ag⟩:=g;have l:DataW.TrodAll enc jZ a 0 (λ_=>true) true Tryz.f3.params.toList args.toList H p:=i;have n:DataW.TrodVars enc jZ a (λ_=>true) ["loop.example/s01308/impl.errType", "loop.example/s01308/impl.signatures", "loop.example/s01308/impl.attributes", "loop.example/s01308/impl.binaryOperators", "loop.example/s01308/impl.errShape", "loop.example/s01308/impl.errOverflow", "loop.example/s01308/impl.errZero", "loop.example/s01308/impl.errWidth"] I q:=k;rw[params3]at l c;obtain⟨o,Vw,ah,ai,L,aj,ak,rfl,rfl,h0,M⟩:=trodAll_cons l;obtain⟨r,al,d1,ao,N,q1,rfl,rfl,rfl,s,O⟩:=trodAll_cons M;obtain⟨rfl,rfl,rfl⟩:=trodAll_nil O;obtain rfl:args= #[o,r]:=by cases args;simp_all
 obtain⟨u,y,z,rfl⟩:=okWide_slice underlying22<|c 0 22 o rfl rfl;have A:=h0;have P:∀x∈L,x.block<Array.size (World.heap a):=by obtain⟨m,hm⟩:=A;exact DataW.trod_lt m _ _ _ hm
 obtain⟨W,w0⟩:∃ss,DI a u y z ss:=by
  obtain⟨fuel,d⟩:=h0;exact DI.dL underlying22 underlying5 Oy d
 obtain⟨a1,B,D,rfl⟩:=okWide_slice underlying22<|c 1 22 r rfl rfl;have E:=s;have aa:∀x∈N,x.block<Array.size (World.heap a):=by obtain⟨m,hm⟩:=E;exact DataW.trod_lt m _ _ _ hm
 obtain⟨ab,ac⟩:∃ss,DI a a1 B D ss:=by
  obtain⟨fuel,d⟩:=s;exact DI.dL underlying22 underlying5 Oy d
 obtain⟨ap,aq,ar,au,av,aw,ax,ay,rfl⟩:=AfP<|Yb n;obtain⟨ad,aS,aO,aZ,aW,S⟩:=XZ J;clear i k f;refine(Pt u y z W a1 B D ab ad aS aO aZ aW a w0 ac S).mono λe az ⟨he,b⟩=>?_;subst he;exact⟨_,rfl,_,_,_,[],_,_,K,trodAll_mk1<|shut_bool underlying4 _,(trodAll_cons_mk (Below.trod Vu Oy (of_decide_eq_true Oy) A b P)<|trodAll_cons_mk (Below.trod Vu Oy (of_decide_eq_true Oy) E b aa) trodAll_mk0),Below.trodVars Vu b Oy n,b.frame _,λh=>Qy⟩
end Go.Proofs.YtnjpihpohilnjaaGreatDoor.fnVerifiedDone

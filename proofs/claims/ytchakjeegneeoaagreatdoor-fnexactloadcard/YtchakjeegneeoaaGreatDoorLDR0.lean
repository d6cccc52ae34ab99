/-
  FnExactLoad: the row, and its card (written by mkldrow.py). Own work.
-/
import Derived.Test.YtchakjeegneeoaaGreatDoorLDV
import Derived.Test.YtchakjeegneeoaaGreatDoorMXBI
import Derived.Test.YtchakjeegneeoaaGreatDoorTie
import Derived.Test.YtchakjeegneeoaaGreatDoorCards
import Derived.SevenTiedAt
import Derived.WalkKit
import Derived.ProofKit
import Derived.OpenShut
import Derived.OpenVars
import Derived.ShutString
import Derived.LaidMore
import Derived.LaidHandle
import Derived.Stop.LaidErr
import Derived.Stop.Joined
import Derived.ChangeOld
import Derived.Below
import Derived.WalkSmall
namespace Go.Proofs.YtchakjeegneeoaaGreatDoor.fnExactLoadDone
open Go.ChangeShapes Go.WideShapes Go.ChangeAt Go.RowKit
open Go.ChangeMaps (open_string shut_string)
set_option linter.unusedVariables false
set_option maxRecDepth 100000
theorem own:ownKnob Tryz.prog.godebug=none:=by kernel_rfl
theorem Ace:laidOutB Tryz.prog =true:=by kernel_rfl
abbrev Ly:List (String × DataW Unit):= [("math/bits.deBruijn32tab",Rows.laid_math_bits_deBruijn32tab),("math/bits.deBruijn64tab",Rows.laid_math_bits_deBruijn64tab),("internal/strconv.uint64pow10",Rows.laid_internal_strconv_uint64pow10),("errors.errorType",Rows.laid_errors_errorType),("strconv.ErrRange",Rows.laid_strconv_ErrRange),("strconv.ErrSyntax",Rows.laid_strconv_ErrSyntax),("loop.example/s01308/impl.errWidth",Rows.laid_loop_example_s01308_impl_errWidth),("loop.example/s01308/impl.errShape",Rows.laid_loop_example_s01308_impl_errShape),("loop.example/s01308/impl.errSize",Rows.laid_loop_example_s01308_impl_errSize),("loop.example/s01308/impl.errByte",Rows.laid_loop_example_s01308_impl_errByte),("loop.example/s01308/impl.errToken",Rows.laid_loop_example_s01308_impl_errToken),("loop.example/s01308/impl.errSyntax",Rows.laid_loop_example_s01308_impl_errSyntax),("loop.example/s01308/impl.errDepth",Rows.laid_loop_example_s01308_impl_errDepth),("loop.example/s01308/impl.errName",Rows.laid_loop_example_s01308_impl_errName),("loop.example/s01308/impl.errAgain",Rows.laid_loop_example_s01308_impl_errAgain),("loop.example/s01308/impl.errType",Rows.laid_loop_example_s01308_impl_errType),("loop.example/s01308/impl.binaryOperators",Rows.laid_loop_example_s01308_impl_binaryOperators),("loop.example/s01308/impl.attributes",Rows.laid_loop_example_s01308_impl_attributes),("loop.example/s01308/impl.signatures",Rows.laid_loop_example_s01308_impl_signatures)]
abbrev Acf:List (String × DataW Unit):= [("math/bits.deBruijn32tab",Rows.laid_math_bits_deBruijn32tab),("math/bits.deBruijn64tab",Rows.laid_math_bits_deBruijn64tab),("internal/strconv.uint64pow10",Rows.laid_internal_strconv_uint64pow10),("strconv.ErrRange",Rows.laid_strconv_ErrRange),("strconv.ErrSyntax",Rows.laid_strconv_ErrSyntax),("loop.example/s01308/impl.errWidth",Rows.laid_loop_example_s01308_impl_errWidth),("loop.example/s01308/impl.errShape",Rows.laid_loop_example_s01308_impl_errShape),("loop.example/s01308/impl.errSize",Rows.laid_loop_example_s01308_impl_errSize),("loop.example/s01308/impl.errByte",Rows.laid_loop_example_s01308_impl_errByte),("loop.example/s01308/impl.errToken",Rows.laid_loop_example_s01308_impl_errToken),("loop.example/s01308/impl.errSyntax",Rows.laid_loop_example_s01308_impl_errSyntax),("loop.example/s01308/impl.errDepth",Rows.laid_loop_example_s01308_impl_errDepth),("loop.example/s01308/impl.errName",Rows.laid_loop_example_s01308_impl_errName),("loop.example/s01308/impl.errAgain",Rows.laid_loop_example_s01308_impl_errAgain),("loop.example/s01308/impl.errType",Rows.laid_loop_example_s01308_impl_errType),("loop.example/s01308/impl.binaryOperators",Rows.laid_loop_example_s01308_impl_binaryOperators),("loop.example/s01308/impl.attributes",Rows.laid_loop_example_s01308_impl_attributes),("loop.example/s01308/impl.signatures",Rows.laid_loop_example_s01308_impl_signatures)]
theorem AaQ (os:Os)(args:Array Value):laidMetH Tryz.prog Ly ((World.doorLaid Tryz.prog 313 os).forCall (fun _ _=>0) ⟨#[],args, []⟩).memory:=
 laidMetH_of_parts3 (fuel:=8) (laidMet_of_run' 8 (by kernel_rfl) (by kernel_rfl)) (by kernel_rfl) (by kernel_rfl)
abbrev AaR:List (String × List UInt8 × Nat):= [("strconv.ErrRange", [118,97,108,117,101,32,111,117,116,32,111,102,32,114,97,110,103,101],15),("strconv.ErrSyntax", [105,110,118,97,108,105,100,32,115,121,110,116,97,120],14),("loop.example/s01308/impl.errWidth", [116,104,101,32,115,101,116,32,104,97,115,32,116,111,111,32,109,97,110,121,32,110,97,109,101,115],2),("loop.example/s01308/impl.errShape", [105,108,108,45,102,111,114,109,101,100,32,97,114,103,117,109,101,110,116],0),("loop.example/s01308/impl.errSize", [116,104,101,32,116,101,120,116,32,105,115,32,116,111,111,32,108,111,110,103],1),("loop.example/s01308/impl.errByte", [110,111,32,116,111,107,101,110,32,98,101,103,105,110,115,32,119,105,116,104,32,116,104,105,115,32,98,121,116,101],5),("loop.example/s01308/impl.errToken", [116,104,101,32,116,111,107,101,110,32,98,114,101,97,107,115,32,105,116,115,32,114,117,108,101],6),("loop.example/s01308/impl.errSyntax", [116,104,101,32,116,111,107,101,110,32,100,111,101,115,32,110,111,116,32,102,105,116,32,104,101,114,101],7),("loop.example/s01308/impl.errDepth", [116,104,101,32,101,120,112,114,101,115,115,105,111,110,32,105,115,32,116,111,111,32,100,101,101,112],3),("loop.example/s01308/impl.errName", [116,104,101,32,110,97,109,101,32,105,115,32,110,111,116,32,107,110,111,119,110,32,104,101,114,101],8),("loop.example/s01308/impl.errAgain", [116,104,101,32,110,97,109,101,32,105,115,32,107,110,111,119,110,32,97,108,114,101,97,100,121],9),("loop.example/s01308/impl.errType", [116,104,101,32,116,121,112,101,32,100,111,101,115,32,110,111,116,32,102,105,116],10)]
theorem AaS:(AaR.all fun x=>(Tryz.prog.globalNamed x.1== some x.2.2) && ((Tryz.prog.globals[x.2.2]?).map (·.type)== some 72))=true:=by kernel_rfl
theorem AdC:((List.range 342).filter fun t=>Tryz.prog.rowNamed t [101,114,114,111,114])= [72]:=by kernel_rfl
theorem AdD: Tryz.prog.types.size= 342:=by kernel_rfl
theorem Acg:(Tryz.prog.cutTypes.find? (·.1== "internal/reflectlite.rtype")).map (·.2)=some 193:=by kernel_rfl
theorem Ach: Tryz.prog.globalNamed "errors.errorType" =some 4:=by kernel_rfl
theorem Ys {W:World}(h:handlesMet Tryz.prog [("errors.errorType",Rows.laid_errors_errorType)] W):W.cell? ⟨4,0,none⟩=some (.iface 193 (.agg #[.pointer (some ⟨20,72,none⟩)])):=by
 obtain ⟨name,u,ty,e1,e2,e3,e4,e5⟩:=h _ (zL.2 rfl);have b:name= [101,114,114,111,114]:=(Option.some.inj e1).symm;subst b;obtain rfl:=Option.some.inj (Acg.symm.trans e2);have a:ty∈(List.range 342).filter fun t=>Tryz.prog.rowNamed t [101,114,114,111,114]:=List.mem_filter.2 ⟨List.mem_range.2 (by rw[← AdD];exact e3),e4⟩;rw[AdC] at a;obtain rfl:=zL.1 a;have c:typeHandle Tryz.prog 72 = .pointer (some ⟨20,72,none⟩):=by kernel_rfl
 rw[c] at e5;simpa using World.var?_cell Ach e5 0
theorem AeX: Tryz.prog.globalNamed "math/bits.deBruijn64tab" =some 19:=by kernel_rfl
theorem VO {W:World}(h:laidMetH Tryz.prog Ly W):laidMet Tryz.prog Acf W∧handlesMet Tryz.prog [("errors.errorType",Rows.laid_errors_errorType)] W:=h
theorem TT {W:World}(h0:laidMetH Tryz.prog Ly W):∃ p a1 a2 a3 a4 a5 r s u v,AdE W p a1 a2 a3 a4 a5 r s u v:=by
 obtain ⟨hp,w⟩:=VO h0;have gE:=Ys w;obtain ⟨K,y⟩:=Yq (Ff hp);have big:=Lx AeX y;obtain ⟨z,h3,A,B⟩:=Ff (Ff (Ff hp));have ok:∀ x∈AaR,Tryz.prog.globalNamed x.1=some x.2.2∧(Tryz.prog.globals[x.2.2]?).map (·.type)=some 72:=fun x hx=>by simpa using z6.1 AaS x hx
 obtain ⟨f,q,b,C,l,_,_⟩:=Qj B AaR [("loop.example/s01308/impl.binaryOperators",Rows.laid_loop_example_s01308_impl_binaryOperators),("loop.example/s01308/impl.attributes",Rows.laid_loop_example_s01308_impl_attributes),("loop.example/s01308/impl.signatures",Rows.laid_loop_example_s01308_impl_signatures)] z ok (fun _ h=>h) h3 A;have j:=RC (g:=12) (V:=Je) l (by kernel_rfl) (by kernel_rfl) Tryz.underlying264 Tryz.underlying249 (by kernel_rfl) (by kernel_rfl) (AdB (by kernel_rfl)) (by kernel_rfl);obtain ⟨_,_,_,_,_,_,_,_,_,_,m,_⟩:=l;obtain ⟨a1,a2⟩:=RC (g:=11) (V:=Zm) m (by kernel_rfl) (by kernel_rfl) Tryz.underlying169 Tryz.underlying168 (by kernel_rfl) (by kernel_rfl) (AdB (by kernel_rfl)) (by kernel_rfl);obtain ⟨_,_,_,_,_,_,_,_,_,_,E,_⟩:=m;obtain ⟨F,H⟩:=RC (g:=13) (V:=TN) E (by kernel_rfl) (by kernel_rfl) Tryz.underlying267 Tryz.underlying266 (by kernel_rfl) (by kernel_rfl) (AdB (by kernel_rfl)) (by kernel_rfl);have n:∀ L:List Nat,(∀ i∈L,i < 12)→∀ a∈L.map f,∃ c t,W.heap[a.block]? =some (.cells c t (0,0)):=fun L d a k=>by
  obtain ⟨i,hi,rfl⟩:=zQ.1 k;exact (b i _ (zH (d i hi))).2.2.1
 have o:∀ L:List Nat,(∀ i∈L,i < 12)→L.Nodup→(L.map f).Nodup:=fun L d hd=>List.pairwise_map.2 (List.Pairwise.imp_of_mem (fun k I J e=>J (C _ _ (d _ k) (d _ I) e)) hd);have c:=fun i x h=>(b i x h).2.1;exact ⟨f 3,f 4,f 5,f 6,f 7,f 2,f 8,f 9,f 10,f 11,⟨⟨⟨c 4 _ rfl,c 5 _ rfl,c 6 _ rfl,c 7 _ rfl,c 2 _ rfl,c 8 _ rfl,gE,⟨_,_,(b 0 _ rfl).1⟩,by omega,n [4,5,6,7,2,8] (by decide),o [4,5,6,7,2,8] (by decide) (by decide)⟩,j.2⟩,⟨j.1,j.2⟩,⟨F,H,a1,a2,Lx (ok _ (z5 (i:=11) rfl)).1 (b 11 _ rfl).1,c 11 _ rfl⟩,⟨c 4 _ rfl,c 5 _ rfl,c 6 _ rfl,c 7 _ rfl,c 2 _ rfl,c 8 _ rfl,c 9 _ rfl,c 10 _ rfl,c 11 _ rfl,c 3 _ rfl,gE,by omega,n [4,5,6,7,2,8,9,10,11] (by decide),o [4,5,6,7,2,8,9,10,11] (by decide) (by decide)⟩⟩⟩
theorem TU {a:Type}{enc:TypeId × Value→a}{P:Program}{w:World}{c:Nat→Bool} :∀ {ns:List String} {b:List (DataW a)} {d:List MemPlace},DataW.TrodVars enc P w c ns b d→b.length=ns.length
 | [], [],_,_=>rfl
 |_ ::_,_ ::_,_,⟨_,_,_,_,_,_,_,_,_,_,h,_⟩=>congrArg (· +1) (TU h)
theorem AaT {f:Type}{a:List (DataW f)}(h:a.length=13):∃ g0 g1 g2 g3 g4 g5 g6 g7 g8 g9 b c d,a= [g0,g1,g2,g3,g4,g5,g6,g7,g8,g9,b,c,d]:=
 match a,h with
 | [g0,g1,g2,g3,g4,g5,g6,g7,g8,g9,b,c,d],_=>⟨g0,g1,g2,g3,g4,g5,g6,g7,g8,g9,b,c,d,rfl⟩
theorem AdF (os:Os)(l:os.Started)(m:Type)(enc:TypeId × Value→m):
  ReturnsInHanded {} Tryz.checked os 3 .any (fun w args=>(Rows.fnExactLoadSpec.pre enc Tryz.prog Tryz.f3 [] false w args∧laidMetH Tryz.prog Ly w)∧sizedMet enc Tryz.prog Tryz.f3 (OpenSpec.ofChange Rows.fnExactLoadSpec) false w args)
   (Rows.fnExactLoadSpec.post enc Tryz.prog Tryz.f3 false true false false):=by
 refine returnsInHanded_of_change_and (C:=Tryz.checked) (X:=fun w _=>laidMetH Tryz.prog Ly w) (fun _ _ _ n h=>h.of_heap n) own l (by kernel_rfl) Tryz.func3
  (ChangeSpec.witness_shaped (enc:=enc) (C:=Tryz.checked) (os:=os) (X:=fun w _=>laidMetH Tryz.prog Ly w) false (World.doorLaid Tryz.prog 313 os) #[.string ByteArray.empty] 8 rfl (World.shaped_of_RefB (by kernel_rfl) (by kernel_rfl)) (by kernel_rfl) (by kernel_rfl) (by kernel_rfl) (AaQ os _)) ?_
 intro W o args r u J a b _ _ x _;have c:∀ (j:Nat) t v,Tryz.f3.params[j]? =some t→args[j]? =some v→Value.okWide Tryz.prog W .any o t v:=a;have y:=b;obtain ⟨p,q,d,f,rfl,K,L⟩:=b;have g:DataW.TrodAll enc Tryz.prog W 0 (fun _=>true) true Tryz.f3.params.toList args.toList r p:=d;have i:DataW.TrodVars enc Tryz.prog W (fun _=>true) ["loop.example/s01308/impl.errSize", "loop.example/s01308/impl.errToken", "loop.example/s01308/impl.errByte", "loop.example/s01308/impl.errSyntax", "loop.example/s01308/impl.binaryOperators", "loop.example/s01308/impl.errWidth", "loop.example/s01308/impl.errDepth", "loop.example/s01308/impl.errName", "loop.example/s01308/impl.errAgain", "loop.example/s01308/impl.errType", "loop.example/s01308/impl.errShape", "loop.example/s01308/impl.attributes", "loop.example/s01308/impl.signatures"] u q:=f;rw[Tryz.params3] at g c;obtain ⟨z,M,rfl,rfl,h0⟩:=trodAll_one g;obtain ⟨s,rfl,rfl,rfl,A⟩:=open_string Tryz.underlying9 (c 0 9 z rfl rfl) h0;obtain ⟨N,O,P,Q,R,T,U,V,Y,Z,aa,ab,ac,rfl⟩:=AaT (TU i);obtain ⟨B,a1,a2,a3,a4,a5,E,F,H,I,S⟩:=TT x;clear d f a;refine (LA s B a1 a2 a3 a4 a5 E F H I W S).mono fun e ad ⟨he,k⟩=>?_;subst he;exact ⟨_,rfl,_,_,_, [], [],_,y,trodAll_mk1 (shut_bool Tryz.underlying4 _),trodAll_mk1 (shut_string Tryz.underlying9 A),Below.trodVars Ace k (by kernel_rfl) i,k.frame _,fun h=>by cases h⟩
end Go.Proofs.YtchakjeegneeoaaGreatDoor.fnExactLoadDone

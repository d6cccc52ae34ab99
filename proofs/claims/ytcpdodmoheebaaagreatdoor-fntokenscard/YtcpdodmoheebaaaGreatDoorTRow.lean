/-
  FnTokens: the row, and its card. Own work.
-/
import Derived.Test.YtcpdodmoheebaaaGreatDoorKTR
import Derived.Test.YtcpdodmoheebaaaGreatDoorTie
import Derived.Test.YtcpdodmoheebaaaGreatDoorCards
import Derived.SevenTiedAt
import Derived.WalkKit
import Derived.ProofKit
import Derived.OpenShut
import Derived.ShutString
import Derived.LaidMore
import Derived.LaidHandle
import Derived.Stop.LaidErr
import Derived.Stop.Joined
import Derived.ChangeOld
import Derived.Below
import Derived.WalkSmall
namespace Go.Proofs.YtcpdodmoheebaaaGreatDoor.fnTokensDone
open Go.ChangeShapes Go.WideShapes Go.ChangeAt Go.RowKit
open Go.ChangeMaps (open_string shut_string)
set_option linter.unusedVariables false
set_option maxRecDepth 100000
theorem own:ownKnob Tryz.prog.godebug=none:=by kernel_rfl
theorem LL:laidOutB Tryz.prog =true:=by kernel_rfl
abbrev Eo:List (String × DataW Unit):= [("math/bits.deBruijn32tab",Rows.laid_math_bits_deBruijn32tab),("math/bits.deBruijn64tab",Rows.laid_math_bits_deBruijn64tab),("internal/strconv.uint64pow10",Rows.laid_internal_strconv_uint64pow10),("errors.errorType",Rows.laid_errors_errorType),("strconv.ErrRange",Rows.laid_strconv_ErrRange),("strconv.ErrSyntax",Rows.laid_strconv_ErrSyntax),("loop.example/s01308/impl.errWidth",Rows.laid_loop_example_s01308_impl_errWidth),("loop.example/s01308/impl.errSize",Rows.laid_loop_example_s01308_impl_errSize),("loop.example/s01308/impl.errByte",Rows.laid_loop_example_s01308_impl_errByte),("loop.example/s01308/impl.errToken",Rows.laid_loop_example_s01308_impl_errToken),("loop.example/s01308/impl.errSyntax",Rows.laid_loop_example_s01308_impl_errSyntax),("loop.example/s01308/impl.errDepth",Rows.laid_loop_example_s01308_impl_errDepth),("loop.example/s01308/impl.errName",Rows.laid_loop_example_s01308_impl_errName),("loop.example/s01308/impl.errAgain",Rows.laid_loop_example_s01308_impl_errAgain),("loop.example/s01308/impl.errType",Rows.laid_loop_example_s01308_impl_errType)]
abbrev LM:List (String × DataW Unit):= [("math/bits.deBruijn32tab",Rows.laid_math_bits_deBruijn32tab),("math/bits.deBruijn64tab",Rows.laid_math_bits_deBruijn64tab),("internal/strconv.uint64pow10",Rows.laid_internal_strconv_uint64pow10),("strconv.ErrRange",Rows.laid_strconv_ErrRange),("strconv.ErrSyntax",Rows.laid_strconv_ErrSyntax),("loop.example/s01308/impl.errWidth",Rows.laid_loop_example_s01308_impl_errWidth),("loop.example/s01308/impl.errSize",Rows.laid_loop_example_s01308_impl_errSize),("loop.example/s01308/impl.errByte",Rows.laid_loop_example_s01308_impl_errByte),("loop.example/s01308/impl.errToken",Rows.laid_loop_example_s01308_impl_errToken),("loop.example/s01308/impl.errSyntax",Rows.laid_loop_example_s01308_impl_errSyntax),("loop.example/s01308/impl.errDepth",Rows.laid_loop_example_s01308_impl_errDepth),("loop.example/s01308/impl.errName",Rows.laid_loop_example_s01308_impl_errName),("loop.example/s01308/impl.errAgain",Rows.laid_loop_example_s01308_impl_errAgain),("loop.example/s01308/impl.errType",Rows.laid_loop_example_s01308_impl_errType)]
theorem At {P:Program}{x:String × DataW Unit}{l:List (String × DataW Unit)}{a:World}(h:laidMet P (x ::l) a):laidMet P l a:=by
 obtain ⟨m,hl,c,i⟩:=h
 obtain ⟨n,d⟩:=x
 obtain ⟨g,t,o,f,p,j,h1,h2,h3,h4,h5,rfl⟩:=hl
 exact ⟨j,h5,(List.nodup_append.1 c).2.1,fun b k hm=>i b k (List.mem_append_right _ hm)⟩
theorem J2 {P:Program}{a:World}{n:String}{g:Nat}{b:Array Value}(c:P.globalNamed n=some g)(h:a.var? P n=some b):g < a.heap.size:=by
 rcases Nat.lt_or_ge g a.heap.size with k | k
 ·exact k
 ·unfold World.var? at h
  rw [c] at h
  simp [Array.getElem?_eq_none k] at h
theorem J3 {P:Program}{n:String}{d:DataW Unit}{l:List (String × DataW Unit)}{b:World}(h:laidMet P ((n,d) ::l) b):∃ a,b.var? P n=some a:=by
 obtain ⟨c,hl,_⟩:=h
 obtain ⟨g,t,a,f,p,i,h1,h2,h3,h4,h5,rfl⟩:=hl
 exact ⟨a,h3⟩
theorem Mw:∀ u,Tryz.prog.typeName? 3 u=some "*errors.errorString" →u= 150:=
 typeName_ptr_named (nm:= "errors.errorString") (by kernel_rfl) (by kernel_rfl) (by decide)
theorem LN: Tryz.prog.cellsOf 152 =1:=by kernel_rfl
theorem Mf: Tryz.prog.cellsOf 9 =1:=by kernel_rfl
theorem DS {d:World}{n:String}{text:List UInt8}{g:Nat}{i:Array Value}{f:Nat}{p:List MemPlace}{j:List MemPlace}(k: Tryz.prog.globalNamed n=some g)(m:d.var? Tryz.prog n=some i)
  (v:DataW.trod (fun _=>()) Tryz.prog d 0 (fun _=>true) false f 38 i.toList=some (.iface "*errors.errorString" (.ptr (.agg [.lit (.string text)])),p))
  (o:∀ x∈MemPlace.row ⟨g,0,none⟩ i.size ++p,x∈j)(q:∀ b r,MemPlace.cell b r∈j→(∃ c t,d.heap[b]? =some (.cells c t (0,0)))∧∀ u h,d.cell? ⟨b,r,none⟩=some (.iface u h)→Value.okWide Tryz.prog d .any 0 u h):
  ∃ a,i= #[.iface 150 (.pointer (some a))]∧p=MemPlace.row a 1∧(∃ c t,d.heap[a.block]? =some (.cells c t (0,0)))∧d.cell? ⟨g,0,none⟩=some (.iface 150 (.pointer (some a))):=by
 obtain ⟨l⟩:=i
 have w:∀ u h,l= [.iface u h]→Value.okWide Tryz.prog d .any 0 u h:=fun u h e=>by
  subst e
  exact (q g 0 (o _ (by simp [MemPlace.row]))).2 u h (by simpa using World.var?_cell k m 0)
 obtain ⟨a,s,rfl,hc,_,_,rfl⟩:=errorString_of_trod Tryz.underlying38 Mw Tryz.underlying150 Tryz.underlying152 rfl rfl Tryz.underlying9 LN Mf v w
 exact ⟨a,rfl,rfl,(q a.block a.off (o _ (by simp [MemPlace.row]))).1,by simpa using World.var?_cell k m 0⟩
theorem Cj {b:World}{n:String}{text:List UInt8}{l:List (String × DataW Unit)}{g:Nat}(h:laidMet Tryz.prog ((n,.iface "*errors.errorString" (.ptr (.agg [.lit (.string text)]))) ::l) b)(c: Tryz.prog.globalNamed n=some g)(d:(Tryz.prog.globals[g]?).map (·.type)=some 38):
  ∃ a,b.var? Tryz.prog n=some #[.iface 150 (.pointer (some a))]:=by
 obtain ⟨j,hl,k,i⟩:=h
 obtain ⟨m,t,o,f,p,q,h1,h2,h3,h4,h5,rfl⟩:=hl
 obtain rfl:=Option.some.inj (c.symm.trans h1)
 obtain rfl:=Option.some.inj (d.symm.trans h2)
 obtain ⟨a,rfl,_⟩:=DS c h3 h4 (fun x hx=>List.mem_append_left _ hx) i
 exact ⟨a,h3⟩
theorem C8: Tryz.prog.globalNamed "loop.example/s01308/impl.errSize" =some 0:=by kernel_rfl
theorem Gf:(Tryz.prog.globals[0]?).map (·.type)=some 38:=by kernel_rfl
theorem CJ: Tryz.prog.globalNamed "loop.example/s01308/impl.errToken" =some 3:=by kernel_rfl
theorem Ft:(Tryz.prog.globals[3]?).map (·.type)=some 38:=by kernel_rfl
theorem C9: Tryz.prog.globalNamed "loop.example/s01308/impl.errByte" =some 2:=by kernel_rfl
theorem Gg:(Tryz.prog.globals[2]?).map (·.type)=some 38:=by kernel_rfl
theorem CS: Tryz.prog.globalNamed "loop.example/s01308/impl.errSyntax" =some 4:=by kernel_rfl
theorem EJ:(Tryz.prog.globals[4]?).map (·.type)=some 38:=by kernel_rfl
theorem Dp: Tryz.prog.globalNamed "loop.example/s01308/impl.errWidth" =some 5:=by kernel_rfl
theorem Fu:(Tryz.prog.globals[5]?).map (·.type)=some 38:=by kernel_rfl
theorem Dq: Tryz.prog.globalNamed "loop.example/s01308/impl.errDepth" =some 6:=by kernel_rfl
theorem Fv:(Tryz.prog.globals[6]?).map (·.type)=some 38:=by kernel_rfl
theorem Ep: Tryz.prog.globalNamed "loop.example/s01308/impl.errName" =some 7:=by kernel_rfl
theorem Gh:(Tryz.prog.globals[7]?).map (·.type)=some 38:=by kernel_rfl
theorem Dr: Tryz.prog.globalNamed "loop.example/s01308/impl.errAgain" =some 8:=by kernel_rfl
theorem Fw:(Tryz.prog.globals[8]?).map (·.type)=some 38:=by kernel_rfl
theorem Eq: Tryz.prog.globalNamed "loop.example/s01308/impl.errType" =some 9:=by kernel_rfl
theorem Gi:(Tryz.prog.globals[9]?).map (·.type)=some 38:=by kernel_rfl
theorem I4: Tryz.prog.globalNamed "strconv.ErrRange" =some 11:=by kernel_rfl
theorem I5:(Tryz.prog.globals[11]?).map (·.type)=some 38:=by kernel_rfl
theorem ML: Tryz.prog.globalNamed "math/bits.deBruijn64tab" =some 15:=by kernel_rfl
theorem I6 {a:World}{l:List (String × DataW Unit)}(h:laidMet Tryz.prog (("loop.example/s01308/impl.errSize",Rows.laid_loop_example_s01308_impl_errSize) ::("loop.example/s01308/impl.errByte",Rows.laid_loop_example_s01308_impl_errByte) ::("loop.example/s01308/impl.errToken",Rows.laid_loop_example_s01308_impl_errToken) ::l) a):
  ∃ aS aB aT,(a.var? Tryz.prog "loop.example/s01308/impl.errSize" =some #[.iface 150 (.pointer (some aS))]∧a.var? Tryz.prog "loop.example/s01308/impl.errByte" =some #[.iface 150 (.pointer (some aB))]∧a.var? Tryz.prog "loop.example/s01308/impl.errToken" =some #[.iface 150 (.pointer (some aT))])∧
   (a.cell? ⟨0,0,none⟩=some (.iface 150 (.pointer (some aS)))∧a.cell? ⟨2,0,none⟩=some (.iface 150 (.pointer (some aB)))∧a.cell? ⟨3,0,none⟩=some (.iface 150 (.pointer (some aT))))∧
   ((∃ c t,a.heap[aS.block]? =some (.cells c t (0,0)))∧(∃ c t,a.heap[aB.block]? =some (.cells c t (0,0)))∧∃ c t,a.heap[aT.block]? =some (.cells c t (0,0)))∧aS≠aB∧aS≠aT∧aB≠aT:=by
 obtain ⟨z,⟨A,B,C,D,E,F,i,j,d,k,⟨G,H,I,J,K,L,m,n,f,o,⟨M,N,O,P,Q,q2,p,q,g,r,R,e2⟩,e1⟩,s⟩,u,b⟩:=h
 obtain rfl:=Option.some.inj (C8.symm.trans i)
 obtain rfl:=Option.some.inj (C9.symm.trans m)
 obtain rfl:=Option.some.inj (CJ.symm.trans p)
 obtain rfl:=Option.some.inj (Gf.symm.trans j)
 obtain rfl:=Option.some.inj (Gg.symm.trans n)
 obtain rfl:=Option.some.inj (Ft.symm.trans q)
 subst e2
 subst e1
 subst s
 obtain ⟨aS,rfl,rfl,rS,v⟩:=DS C8 d k (fun x hx=>List.mem_append_left _ hx) b
 obtain ⟨aB,rfl,rfl,rB,w⟩:=DS C9 f o (fun x hx=>List.mem_append_right _ (List.mem_append_left _ hx)) b
 obtain ⟨aT,rfl,rfl,rT,y⟩:=DS CJ g r (fun x hx=>List.mem_append_right _ (List.mem_append_right _ (List.mem_append_left _ hx))) b
 refine ⟨aS,aB,aT,⟨d,f,g⟩,⟨v,w,y⟩,⟨rS,rB,rT⟩,?_,?_,?_⟩
 all_goals (rintro rfl;simp [MemPlace.row] at u)
theorem Mg:((List.range 194).filter fun t=>Tryz.prog.rowNamed t [101,114,114,111,114])= [38]:=by kernel_rfl
theorem Mh: Tryz.prog.types.size= 194:=by kernel_rfl
theorem LO:(Tryz.prog.cutTypes.find? (·.1== "internal/reflectlite.rtype")).map (·.2)=some 106:=by kernel_rfl
theorem LP: Tryz.prog.globalNamed "errors.errorType" =some 1:=by kernel_rfl
theorem J4 {a:World}(h:handlesMet Tryz.prog [("errors.errorType",Rows.laid_errors_errorType)] a):a.cell? ⟨1,0,none⟩=some (.iface 106 (.agg #[.pointer (some ⟨16,38,none⟩)])):=by
 obtain ⟨name,u,ty,e1,e2,e3,e4,e5⟩:=h _ (List.mem_singleton.2 rfl)
 have b:name= [101,114,114,111,114]:=(Option.some.inj e1).symm
 subst b
 obtain rfl:=Option.some.inj (LO.symm.trans e2)
 have hm:ty∈(List.range 194).filter fun t=>Tryz.prog.rowNamed t [101,114,114,111,114]:=List.mem_filter.2 ⟨List.mem_range.2 (by rw [← Mh];exact e3),e4⟩
 rw [Mg] at hm
 obtain rfl:=List.mem_singleton.1 hm
 have c:typeHandle Tryz.prog 38 = .pointer (some ⟨16,38,none⟩):=by kernel_rfl
 rw [c] at e5
 simpa using World.var?_cell LP e5 0
theorem I7 {a:World}(h:laidMetH Tryz.prog Eo a):laidMet Tryz.prog LM a∧handlesMet Tryz.prog [("errors.errorType",Rows.laid_errors_errorType)] a:=h
theorem KU (os:Os)(args:Array Value):laidMetH Tryz.prog Eo ((World.doorLaid Tryz.prog 240 os).forCall (fun _ _=>0) ⟨#[],args, []⟩).memory:=
 laidMetH_of_parts3 (fuel:=8) (laidMet_of_run' 8 (by kernel_rfl) (by kernel_rfl)) (by kernel_rfl) (by kernel_rfl)
theorem Ip {a:World}(h0:laidMetH Tryz.prog Eo a):∃ aS aB aT b c d f g h,Fc a aS aB aT∧a.var? Tryz.prog "loop.example/s01308/impl.errSize" =some #[.iface 150 (.pointer (some aS))]∧a.var? Tryz.prog "loop.example/s01308/impl.errToken" =some #[.iface 150 (.pointer (some aT))]∧a.var? Tryz.prog "loop.example/s01308/impl.errByte" =some #[.iface 150 (.pointer (some aB))]∧a.var? Tryz.prog "loop.example/s01308/impl.errSyntax" =some #[.iface 150 (.pointer (some b))]∧a.var? Tryz.prog "loop.example/s01308/impl.errWidth" =some #[.iface 150 (.pointer (some c))]∧a.var? Tryz.prog "loop.example/s01308/impl.errDepth" =some #[.iface 150 (.pointer (some d))]∧a.var? Tryz.prog "loop.example/s01308/impl.errName" =some #[.iface 150 (.pointer (some f))]∧a.var? Tryz.prog "loop.example/s01308/impl.errAgain" =some #[.iface 150 (.pointer (some g))]∧a.var? Tryz.prog "loop.example/s01308/impl.errType" =some #[.iface 150 (.pointer (some h))]:=by
 obtain ⟨i,j⟩:=I7 h0
 have gE:=J4 j
 obtain ⟨y,k⟩:=J3 (At i)
 have big:=J2 ML k
 have h3:=At (At (At i))
 obtain ⟨z,l⟩:=Cj h3 I4 I5
 have h5:=At (At h3)
 obtain ⟨c,m⟩:=Cj h5 Dp Fu
 have h6:=At h5
 obtain ⟨aS,aB,aT,⟨n,o,p⟩,⟨q,r,s⟩,⟨rS,rB,rT⟩,nSB,nST,nBT⟩:=I6 h6
 have h9:=At (At (At h6))
 obtain ⟨b,t⟩:=Cj h9 CS EJ
 have h10:=At h9
 obtain ⟨d,u⟩:=Cj h10 Dq Fv
 have h11:=At h10
 obtain ⟨f,v⟩:=Cj h11 Ep Gh
 have h12:=At h11
 obtain ⟨g,w⟩:=Cj h12 Dr Fw
 have h13:=At h12
 obtain ⟨h,x⟩:=Cj h13 Eq Gi
 exact ⟨aS,aB,aT,b,c,d,f,g,h,⟨q,r,s,gE,⟨_,_,l⟩,by omega,rS,rB,rT,nSB,nST,nBT⟩,n,p,o,t,m,u,v,w,x⟩
theorem Fx {l:Type}(enc:TypeId × Value→l){a:World}{b c d f g h i j k:Value}(h0:a.var? Tryz.prog "loop.example/s01308/impl.errSize" =some #[b])(h1:a.var? Tryz.prog "loop.example/s01308/impl.errToken" =some #[c])(h2:a.var? Tryz.prog "loop.example/s01308/impl.errByte" =some #[d])(h3:a.var? Tryz.prog "loop.example/s01308/impl.errSyntax" =some #[f])(h4:a.var? Tryz.prog "loop.example/s01308/impl.errWidth" =some #[g])(h5:a.var? Tryz.prog "loop.example/s01308/impl.errDepth" =some #[h])(h6:a.var? Tryz.prog "loop.example/s01308/impl.errName" =some #[i])(h7:a.var? Tryz.prog "loop.example/s01308/impl.errAgain" =some #[j])(h8:a.var? Tryz.prog "loop.example/s01308/impl.errType" =some #[k])(m:IsIface b)(n:IsIface c)(o:IsIface d)(p:IsIface f)(q:IsIface g)(r:IsIface h)(s:IsIface i)(t:IsIface j)(u:IsIface k)(v:Nat→Bool):
  DataW.TrodVars enc Tryz.prog a v ["loop.example/s01308/impl.errSize", "loop.example/s01308/impl.errToken", "loop.example/s01308/impl.errByte", "loop.example/s01308/impl.errSyntax", "loop.example/s01308/impl.errWidth", "loop.example/s01308/impl.errDepth", "loop.example/s01308/impl.errName", "loop.example/s01308/impl.errAgain", "loop.example/s01308/impl.errType"] [tok enc b,tok enc c,tok enc d,tok enc f,tok enc g,tok enc h,tok enc i,tok enc j,tok enc k] [.cell 0 0,.cell 3 0,.cell 2 0,.cell 4 0,.cell 5 0,.cell 6 0,.cell 7 0,.cell 8 0,.cell 9 0]:=
 ⟨0,38,#[b],1, [], [.cell 3 0,.cell 2 0,.cell 4 0,.cell 5 0,.cell 6 0,.cell 7 0,.cell 8 0,.cell 9 0],C8,Gf,h0,trod_held Tryz.underlying38 m 0,⟨3,38,#[c],1, [], [.cell 2 0,.cell 4 0,.cell 5 0,.cell 6 0,.cell 7 0,.cell 8 0,.cell 9 0],CJ,Ft,h1,trod_held Tryz.underlying38 n 0,⟨2,38,#[d],1, [], [.cell 4 0,.cell 5 0,.cell 6 0,.cell 7 0,.cell 8 0,.cell 9 0],C9,Gg,h2,trod_held Tryz.underlying38 o 0,⟨4,38,#[f],1, [], [.cell 5 0,.cell 6 0,.cell 7 0,.cell 8 0,.cell 9 0],CS,EJ,h3,trod_held Tryz.underlying38 p 0,⟨5,38,#[g],1, [], [.cell 6 0,.cell 7 0,.cell 8 0,.cell 9 0],Dp,Fu,h4,trod_held Tryz.underlying38 q 0,⟨6,38,#[h],1, [], [.cell 7 0,.cell 8 0,.cell 9 0],Dq,Fv,h5,trod_held Tryz.underlying38 r 0,⟨7,38,#[i],1, [], [.cell 8 0,.cell 9 0],Ep,Gh,h6,trod_held Tryz.underlying38 s 0,⟨8,38,#[j],1, [], [.cell 9 0],Dr,Fw,h7,trod_held Tryz.underlying38 t 0,⟨9,38,#[k],1, [], [],Eq,Gi,h8,trod_held Tryz.underlying38 u 0,rfl,rfl⟩,rfl⟩,rfl⟩,rfl⟩,rfl⟩,rfl⟩,rfl⟩,rfl⟩,rfl⟩
theorem Mi (os:Os)(F:os.Started)(G:Type)(enc:TypeId × Value→G):
  ReturnsInHanded {} Tryz.checked os 3 .any (fun w args=>(Rows.fnTokensSpec.pre enc Tryz.prog Tryz.f3 [] false w args∧laidMetH Tryz.prog Eo w)∧sizedMet enc Tryz.prog Tryz.f3 (OpenSpec.ofChange Rows.fnTokensSpec) false w args)
   (Rows.fnTokensSpec.post enc Tryz.prog Tryz.f3 false true false false):=by
 refine returnsInHanded_of_change_and (C:=Tryz.checked) (X:=fun w _=>laidMetH Tryz.prog Eo w) (fun _ _ _ H h=>h.of_heap H) own F (by kernel_rfl) Tryz.func3
  (ChangeSpec.witness_shaped (enc:=enc) (C:=Tryz.checked) (os:=os) (X:=fun w _=>laidMetH Tryz.prog Eo w) false (World.doorLaid Tryz.prog 240 os) #[.slice none 0 0] 8 rfl (World.shaped_of_RefB (by kernel_rfl) (by kernel_rfl)) (by kernel_rfl) (by kernel_rfl) (by kernel_rfl) (KU os _)) ?_
 intro a I args J K V b c _ _ L _
 have d:∀ (j:Nat) t v,Tryz.f3.params[j]? =some t→args[j]? =some v→Value.okWide Tryz.prog a .any I t v:=b
 have M:=c
 obtain ⟨p,N,f,g,rfl,W,Y⟩:=c
 have i:DataW.TrodAll enc Tryz.prog a 0 (fun _=>true) true Tryz.f3.params.toList args.toList J p:=f
 have O:DataW.TrodVars enc Tryz.prog a (fun _=>true) ["loop.example/s01308/impl.errSize", "loop.example/s01308/impl.errToken", "loop.example/s01308/impl.errByte", "loop.example/s01308/impl.errSyntax", "loop.example/s01308/impl.errWidth", "loop.example/s01308/impl.errDepth", "loop.example/s01308/impl.errName", "loop.example/s01308/impl.errAgain", "loop.example/s01308/impl.errType"] K N:=g
 rw [Tryz.params3] at i d
 obtain ⟨P,Z,rfl,rfl,h0⟩:=trodAll_one i
 obtain ⟨k,l,n,rfl⟩:=okWide_slice Tryz.underlying22 (d 0 22 P rfl rfl)
 have o:=h0
 have Q:∀ x∈p,x.block < a.heap.size:=by obtain ⟨m,hm⟩:=o;exact DataW.trod_lt m _ _ _ hm
 obtain ⟨R,S⟩:∃ T,Co a k l n T:=by
  obtain ⟨fuel,U⟩:=h0
  exact Co.of_trod Tryz.underlying22 Tryz.underlying5 (by kernel_rfl) U
 obtain ⟨aS,aB,aT,aa,ab,ac,ad,ae,af,q,r,s,u,y,z,A,B,D,E⟩:=Ip L
 obtain ⟨rfl,rfl⟩:=O.unique (Fx enc r s u y z A B D E trivial trivial trivial trivial trivial trivial trivial trivial trivial _)
 clear f g b
 have big:=q.big
 refine (FR k l n R a S q).mono fun e ag ⟨he,bel⟩=>?_
 subst he
 exact ⟨_,rfl,_,_,_, [],_, [.cell 0 0,.cell 3 0,.cell 2 0,.cell 4 0,.cell 5 0,.cell 6 0,.cell 7 0,.cell 8 0,.cell 9 0],M,trodAll_mk1 (shut_bool Tryz.underlying4 _),trodAll_mk1 (Below.trod LL (by kernel_rfl) (of_decide_eq_true (by kernel_rfl)) o bel Q),Fx enc (var?_below bel C8 (by omega) r) (var?_below bel CJ (by omega) s) (var?_below bel C9 (by omega) u) (var?_below bel CS (by omega) y) (var?_below bel Dp (by omega) z) (var?_below bel Dq (by omega) A) (var?_below bel Ep (by omega) B) (var?_below bel Dr (by omega) D) (var?_below bel Eq (by omega) E) trivial trivial trivial trivial trivial trivial trivial trivial trivial _,bel.frame _,fun h=>by cases h⟩
theorem MM:Rows.FnTokensSaid:=
 OpenClaim.holds_of_wide 3 Tryz.f3 rfl rfl rfl rfl rfl rfl rfl ⟨rfl,rfl,rfl,rfl,rfl⟩ rfl rfl rfl rfl rfl (by kernel_rfl) Tryz.func3 (by kernel_rfl)
  (of_decide_eq_true (by kernel_rfl)) (by unfold Func.isWrapper;first | (rw [if_pos (by decide+kernel)];kernel_rfl) | (rw [if_neg (by decide+kernel)];exact ⟨rfl,rfl⟩))
  (fun os a b enc _=>Mi os a b enc)
theorem card:Rows.FnTokensCardSaid:=
 Claim7.holds_tied_plain_at .later [] [.data,.data,.data,.handle,.sentinel,.sentinel,.sentinel,.sentinel,.sentinel,.sentinel,.sentinel,.sentinel,.sentinel,.sentinel,.sentinel] true (true, "4c558eb287615674f9881595effc2bbe4d9a676edfe83882ec338ca085c3f491") true
  MM (fun _ h=>by cases h) (by kernel_rfl) (fun _ h=>by cases h) fnTokens_row_tie rfl ⟨rfl,rfl⟩ (by kernel_rfl) rfl
  (fun f b c d=>by
   obtain rfl:f= 3:=Option.some.inj ((show Tryz.prog.funcNamed "loop.example/s01308/laws.FnTokens" =some 3 by kernel_rfl).symm.trans c) |>.symm
   obtain rfl:b= Tryz.f3:=(Option.some.inj (Tryz.func3.symm.trans d)).symm
   exact ⟨by kernel_rfl,fun j t a=>by
    rw [Tryz.params3] at a
    have hm:t∈ [22]:=by simpa using Array.mem_of_getElem? a
    have g:([22].all fun u=>!Tryz.prog.wantsStandIn u)=true:=by kernel_rfl
    exact (show Tryz.prog.wantsStandIn t=false by simpa using List.all_eq_true.1 g t hm)⟩)
  (by kernel_rfl)
end Go.Proofs.YtcpdodmoheebaaaGreatDoor.fnTokensDone
namespace Go.Proofs.YtcpdodmoheebaaaGreatDoor
theorem fnTokens_holds:Rows.FnTokensCardSaid:=fnTokensDone.card
end Go.Proofs.YtcpdodmoheebaaaGreatDoor

/-
  FnRead: the row, and its card (written by mkfrrow.py). Own work.
-/
import Derived.Test.YtffkofkjpckmpaaGreatDoorMXBV
import Derived.Test.YtffkofkjpckmpaaGreatDoorTie
import Derived.Test.YtffkofkjpckmpaaGreatDoorCards
import Derived.SevenTiedAt
import Derived.WalkKit
import Derived.ProofKit
import Derived.OpenShut
import Derived.OpenVars
import Derived.ShutString
import Derived.LaidMore
import Derived.LaidHandle
import Derived.Lib.LaidTab
import Derived.Stop.LaidErr
import Derived.Stop.Joined
import Derived.ChangeOld
import Derived.Below
import Derived.WalkSmall
namespace Go.Proofs.YtffkofkjpckmpaaGreatDoor.fnReadDone
open Go.ChangeShapes Go.WideShapes Go.ChangeAt Go.RowKit
open Go.ChangeMaps (open_string shut_string)
set_option linter.unusedVariables false
set_option maxRecDepth 100000
theorem own:ownKnob Tryz.prog.godebug=none:=by kernel_rfl
theorem Vw:laidOutB Tryz.prog =true:=by kernel_rfl
theorem Rf: Tryz.prog.cellsOf 3 =1:=by kernel_rfl
theorem X6: Tryz.prog.cellsOf 9 =1:=by kernel_rfl
abbrev Kt:List (String × DataW Unit):= [("math/bits.deBruijn32tab",Rows.laid_math_bits_deBruijn32tab),("math/bits.deBruijn64tab",Rows.laid_math_bits_deBruijn64tab),("internal/strconv.uint64pow10",Rows.laid_internal_strconv_uint64pow10),("errors.errorType",Rows.laid_errors_errorType),("strconv.ErrRange",Rows.laid_strconv_ErrRange),("strconv.ErrSyntax",Rows.laid_strconv_ErrSyntax),("loop.example/s01308/impl.errWidth",Rows.laid_loop_example_s01308_impl_errWidth),("loop.example/s01308/impl.errSize",Rows.laid_loop_example_s01308_impl_errSize),("loop.example/s01308/impl.errByte",Rows.laid_loop_example_s01308_impl_errByte),("loop.example/s01308/impl.errToken",Rows.laid_loop_example_s01308_impl_errToken),("loop.example/s01308/impl.errSyntax",Rows.laid_loop_example_s01308_impl_errSyntax),("loop.example/s01308/impl.errDepth",Rows.laid_loop_example_s01308_impl_errDepth),("loop.example/s01308/impl.errName",Rows.laid_loop_example_s01308_impl_errName),("loop.example/s01308/impl.errAgain",Rows.laid_loop_example_s01308_impl_errAgain),("loop.example/s01308/impl.errType",Rows.laid_loop_example_s01308_impl_errType),("loop.example/s01308/impl.binaryOperators",Rows.laid_loop_example_s01308_impl_binaryOperators)]
abbrev Aaj:List (String × DataW Unit):= [("math/bits.deBruijn32tab",Rows.laid_math_bits_deBruijn32tab),("math/bits.deBruijn64tab",Rows.laid_math_bits_deBruijn64tab),("internal/strconv.uint64pow10",Rows.laid_internal_strconv_uint64pow10),("strconv.ErrRange",Rows.laid_strconv_ErrRange),("strconv.ErrSyntax",Rows.laid_strconv_ErrSyntax),("loop.example/s01308/impl.errWidth",Rows.laid_loop_example_s01308_impl_errWidth),("loop.example/s01308/impl.errSize",Rows.laid_loop_example_s01308_impl_errSize),("loop.example/s01308/impl.errByte",Rows.laid_loop_example_s01308_impl_errByte),("loop.example/s01308/impl.errToken",Rows.laid_loop_example_s01308_impl_errToken),("loop.example/s01308/impl.errSyntax",Rows.laid_loop_example_s01308_impl_errSyntax),("loop.example/s01308/impl.errDepth",Rows.laid_loop_example_s01308_impl_errDepth),("loop.example/s01308/impl.errName",Rows.laid_loop_example_s01308_impl_errName),("loop.example/s01308/impl.errAgain",Rows.laid_loop_example_s01308_impl_errAgain),("loop.example/s01308/impl.errType",Rows.laid_loop_example_s01308_impl_errType),("loop.example/s01308/impl.binaryOperators",Rows.laid_loop_example_s01308_impl_binaryOperators)]
theorem X7 (os:Os)(args:Array Value):laidMetH Tryz.prog Kt ((World.doorLaid Tryz.prog 261 os).forCall (fun _ _=>0) ⟨#[],args, []⟩).memory:=
 laidMetH_of_parts3 (fuel:=8) (laidMet_of_run' 8 (by kernel_rfl) (by kernel_rfl)) (by kernel_rfl) (by kernel_rfl)
theorem AO {P:Program}{x:String × DataW Unit}{l:List (String × DataW Unit)}{a:World}(h:laidMet P (x ::l) a):laidMet P l a:=by
 obtain ⟨k,hl,c,i⟩:=h;obtain ⟨n,d⟩:=x;obtain ⟨g,t,cs,f,p,q,h1,h2,h3,h4,h5,rfl⟩:=hl;exact ⟨q,h5,(List.nodup_append.1 c).2.1,fun b j hm=>i b j (zV _ hm)⟩
theorem Wr {P:Program}{a:World}{n:String}{g:Nat}{cs:Array Value}(b:P.globalNamed n=some g)(h:a.var? P n=some cs):g < a.heap.size:=by
 rcases Nat.lt_or_ge g a.heap.size with k | k
 ·exact k
 ·unfold World.var? at h;rw[b] at h;simp[Array.getElem?_eq_none k] at h
theorem Ws {P:Program}{n:String}{d:DataW Unit}{l:List (String × DataW Unit)}{a:World}(h:laidMet P ((n,d) ::l) a):∃ cs,a.var? P n=some cs:=by
 obtain ⟨b,hl,_⟩:=h;obtain ⟨g,t,cs,f,p,q,h1,h2,h3,h4,h5,rfl⟩:=hl;exact ⟨cs,h3⟩
theorem AcF:∀ u,Tryz.prog.typeName? 3 u=some "*errors.errorString" →u= 276:=
 typeName_ptr_named (nm:= "errors.errorString") (by kernel_rfl) (by kernel_rfl) (by decide)
theorem Aak: Tryz.prog.cellsOf 278 =1:=by kernel_rfl
theorem AbO: Tryz.prog.cellsOf 9 =1:=by kernel_rfl
theorem Fd {d:World}{n:String}{text:List UInt8}{g:Nat}{cs:Array Value}{f:Nat}{p:List MemPlace}{h:List MemPlace}(i: Tryz.prog.globalNamed n=some g)(j:d.var? Tryz.prog n=some cs)
  (q:DataW.trod (fun _=>()) Tryz.prog d 0 (fun _=>true) false f 55 cs.toList=some (.iface "*errors.errorString" (.ptr (.agg [.lit (.string text)])),p))
  (k:∀ x∈MemPlace.row ⟨g,0,none⟩ cs.size ++p,x∈h)(m:∀ b o,MemPlace.cell b o∈h→(∃ c t,d.heap[b]? =some (.cells c t (0,0)))∧∀ u v,d.cell? ⟨b,o,none⟩=some (.iface u v)→Value.okWide Tryz.prog d .any 0 u v):
  ∃ a,cs= #[.iface 276 (.pointer (some a))]∧p=MemPlace.row a 1∧(∃ c t,d.heap[a.block]? =some (.cells c t (0,0)))∧d.cell? ⟨g,0,none⟩=some (.iface 276 (.pointer (some a))):=by
 obtain ⟨l⟩:=cs;have ok:∀ u v,l= [.iface u v]→Value.okWide Tryz.prog d .any 0 u v:=fun u v e=>by
  subst e;exact (m g 0 (k _ (by simp[MemPlace.row]))).2 u v (by simpa using World.var?_cell i j 0)
 obtain ⟨a,s,rfl,hc,_,_,rfl⟩:=errorString_of_trod Tryz.underlying55 AcF Tryz.underlying276 Tryz.underlying278 rfl rfl Tryz.underlying9 Aak AbO q ok;exact ⟨a,rfl,rfl,(m a.block a.off (k _ (by simp[MemPlace.row]))).1,by simpa using World.var?_cell i j 0⟩
theorem X8 {b:World}{n:String}{text:List UInt8}{l:List (String × DataW Unit)}{g:Nat}(h:laidMet Tryz.prog ((n,.iface "*errors.errorString" (.ptr (.agg [.lit (.string text)]))) ::l) b)(c: Tryz.prog.globalNamed n=some g)(ht:(Tryz.prog.globals[g]?).map (·.type)=some 55):
  ∃ a,b.var? Tryz.prog n=some #[.iface 276 (.pointer (some a))]:=by
 obtain ⟨i,hl,j,d⟩:=h;obtain ⟨k,t,cs,f,p,q,h1,h2,h3,h4,h5,rfl⟩:=hl;obtain rfl:=Option.some.inj (c.symm.trans h1);obtain rfl:=Option.some.inj (ht.symm.trans h2);obtain ⟨a,rfl,_⟩:=Fd c h3 h4 (fun x hx=>za _ hx) d;exact ⟨a,h3⟩
theorem Mq: Tryz.prog.globalNamed "loop.example/s01308/impl.errWidth" =some 1:=by kernel_rfl
theorem TR:(Tryz.prog.globals[1]?).map (·.type)=some 55:=by kernel_rfl
theorem OJ: Tryz.prog.globalNamed "loop.example/s01308/impl.errSize" =some 0:=by kernel_rfl
theorem Wt:(Tryz.prog.globals[0]?).map (·.type)=some 55:=by kernel_rfl
theorem OM: Tryz.prog.globalNamed "loop.example/s01308/impl.errByte" =some 4:=by kernel_rfl
theorem Wu:(Tryz.prog.globals[4]?).map (·.type)=some 55:=by kernel_rfl
theorem Mr: Tryz.prog.globalNamed "loop.example/s01308/impl.errToken" =some 5:=by kernel_rfl
theorem TS:(Tryz.prog.globals[5]?).map (·.type)=some 55:=by kernel_rfl
theorem Ln: Tryz.prog.globalNamed "loop.example/s01308/impl.errSyntax" =some 6:=by kernel_rfl
theorem Rg:(Tryz.prog.globals[6]?).map (·.type)=some 55:=by kernel_rfl
theorem Ms: Tryz.prog.globalNamed "loop.example/s01308/impl.errDepth" =some 2:=by kernel_rfl
theorem TU:(Tryz.prog.globals[2]?).map (·.type)=some 55:=by kernel_rfl
theorem TV: Tryz.prog.globalNamed "strconv.ErrRange" =some 13:=by kernel_rfl
theorem TW:(Tryz.prog.globals[13]?).map (·.type)=some 55:=by kernel_rfl
theorem Adf: Tryz.prog.globalNamed "math/bits.deBruijn64tab" =some 16:=by kernel_rfl
theorem X9 {b:World}{l:List (String × DataW Unit)}(h:laidMet Tryz.prog (("loop.example/s01308/impl.errWidth",Rows.laid_loop_example_s01308_impl_errWidth) ::("loop.example/s01308/impl.errSize",Rows.laid_loop_example_s01308_impl_errSize) ::("loop.example/s01308/impl.errByte",Rows.laid_loop_example_s01308_impl_errByte) ::("loop.example/s01308/impl.errToken",Rows.laid_loop_example_s01308_impl_errToken) ::("loop.example/s01308/impl.errSyntax",Rows.laid_loop_example_s01308_impl_errSyntax) ::("loop.example/s01308/impl.errDepth",Rows.laid_loop_example_s01308_impl_errDepth) ::l) b):
  ∃ f g i j k m:Addr,(b.cell? ⟨1,0,none⟩=some (.iface 276 (.pointer (some f)))∧b.cell? ⟨0,0,none⟩=some (.iface 276 (.pointer (some g)))∧b.cell? ⟨4,0,none⟩=some (.iface 276 (.pointer (some i)))∧b.cell? ⟨5,0,none⟩=some (.iface 276 (.pointer (some j)))∧b.cell? ⟨6,0,none⟩=some (.iface 276 (.pointer (some k)))∧b.cell? ⟨2,0,none⟩=some (.iface 276 (.pointer (some m))))∧(∀ a∈ [g,i,j,k,f,m],∃ c t,b.heap[a.block]? =some (.cells c t (0,0)))∧([g,i,j,k,f,m]:List Addr).Nodup:=by
 obtain ⟨ae,⟨af,ag,ah,ai,aj,ak,o,p,q,r,⟨g1,al,ao,f1,ap,aq,s,u,v,w,⟨g2,ar,au,f2,av,q2,y,z,A,B,⟨g3,aw,ax,ay,az,q3,C,E,F,H,⟨g4,aA,aB,aC,aD,q4,I,J,K,L,⟨g5,aE,aF,aG,aH,q5,M,N,O,P,hq,e5⟩,e4⟩,e3⟩,e2⟩,e1⟩,Q⟩,R,d⟩:=h;obtain rfl:=Option.some.inj (Mq.symm.trans o);obtain rfl:=Option.some.inj (TR.symm.trans p);obtain rfl:=Option.some.inj (OJ.symm.trans s);obtain rfl:=Option.some.inj (Wt.symm.trans u);obtain rfl:=Option.some.inj (OM.symm.trans y);obtain rfl:=Option.some.inj (Wu.symm.trans z);obtain rfl:=Option.some.inj (Mr.symm.trans C);obtain rfl:=Option.some.inj (TS.symm.trans E);obtain rfl:=Option.some.inj (Ln.symm.trans I);obtain rfl:=Option.some.inj (Rg.symm.trans J);obtain rfl:=Option.some.inj (Ms.symm.trans M);obtain rfl:=Option.some.inj (TU.symm.trans N);subst e5;subst e4;subst e3;subst e2;subst e1;subst Q;obtain ⟨f,rfl,rfl,S,T⟩:=Fd Mq q r (fun x hx=>za _ hx) d;obtain ⟨g,rfl,rfl,U,V⟩:=Fd OJ v w (fun x hx=>zV _ (za _ hx)) d;obtain ⟨i,rfl,rfl,W,X⟩:=Fd OM A B (fun x hx=>zV _ (zV _ (za _ hx))) d;obtain ⟨j,rfl,rfl,Y,Z⟩:=Fd Mr F H (fun x hx=>zV _ (zV _ (zV _ (za _ hx)))) d;obtain ⟨k,rfl,rfl,aa,ab⟩:=Fd Ln K L (fun x hx=>zV _ (zV _ (zV _ (zV _ (za _ hx))))) d;obtain ⟨m,rfl,rfl,ac,ad⟩:=Fd Ms O P (fun x hx=>zV _ (zV _ (zV _ (zV _ (zV _ (za _ hx)))))) d;refine ⟨f,g,i,j,k,m,⟨T,V,X,Z,ab,ad⟩,fun a n=>?_, ?_⟩
 ·simp only[zG,List.not_mem_nil,or_false] at n;rcases n with rfl | rfl | rfl | rfl | rfl | rfl
  ·exact U
  ·exact W
  ·exact Y
  ·exact aa
  ·exact S
  ·exact ac
 ·simp only[List.nodup_cons,zG,List.not_mem_nil,or_false,not_or,not_false_eq_true,List.nodup_nil,and_true];refine ⟨⟨?_, ?_, ?_, ?_, ?_⟩,⟨?_, ?_, ?_, ?_⟩,⟨?_, ?_, ?_⟩,⟨?_, ?_⟩, ?_⟩
  all_goals (rintro rfl;simp[MemPlace.row] at R)
theorem AbP:((List.range 329).filter fun t=>Tryz.prog.rowNamed t [101,114,114,111,114])= [55]:=by kernel_rfl
theorem AbQ: Tryz.prog.types.size= 329:=by kernel_rfl
theorem Aal:(Tryz.prog.cutTypes.find? (·.1== "internal/reflectlite.rtype")).map (·.2)=some 211:=by kernel_rfl
theorem Aam: Tryz.prog.globalNamed "errors.errorType" =some 3:=by kernel_rfl
theorem Wv {a:World}(h:handlesMet Tryz.prog [("errors.errorType",Rows.laid_errors_errorType)] a):a.cell? ⟨3,0,none⟩=some (.iface 211 (.agg #[.pointer (some ⟨17,55,none⟩)])):=by
 obtain ⟨name,u,ty,e1,e2,e3,e4,e5⟩:=h _ (zJ.2 rfl);have b:name= [101,114,114,111,114]:=(Option.some.inj e1).symm;subst b;obtain rfl:=Option.some.inj (Aal.symm.trans e2);have hm:ty∈(List.range 329).filter fun t=>Tryz.prog.rowNamed t [101,114,114,111,114]:=List.mem_filter.2 ⟨List.mem_range.2 (by rw[← AbQ];exact e3),e4⟩;rw[AbP] at hm;obtain rfl:=zJ.1 hm;have c:typeHandle Tryz.prog 55 = .pointer (some ⟨17,55,none⟩):=by kernel_rfl
 rw[c] at e5;simpa using World.var?_cell Aam e5 0
theorem TX {a:World}(h:laidMetH Tryz.prog Kt a):laidMet Tryz.prog Aaj a∧handlesMet Tryz.prog [("errors.errorType",Rows.laid_errors_errorType)] a:=h
theorem AcG: Tryz.prog.globalNamed "loop.example/s01308/impl.binaryOperators" =some 10:=by kernel_rfl
theorem Adg:(Tryz.prog.globals[10]?).map (·.type)=some 244:=by kernel_rfl
theorem Vx: Tryz.prog.cellsOf 227 =3:=by kernel_rfl
theorem Ya: Tryz.prog.cellsOf 244 =48:=by kernel_rfl
theorem Ww {t:Type}{enc:TypeId × Value→t}{w:World}{b:Nat→Bool}{c:Bool}{fuel:Nat}{l:List Value}{x y:Int}{s:List UInt8}{p:List MemPlace}
  (h:DataW.trod enc Tryz.prog w 0 b c fuel 227 l=some (.agg [.lit (.int .i64 x),.lit (.int .i64 y),.lit (.string s)],p)):l= [.int .i64 x,.int .i64 y,.string ⟨s.toArray⟩]:=by
 obtain ⟨a,n,_,u,f,v,hx⟩:=DataW.trod_struct Tryz.underlying227 h;rw[Vx] at f
 match l,f with
 | [c0,c1,c2],_=>
  have get:∀ i,i < 3→∃ y,a[i]? =some y:=fun i hi=>⟨a[i]'(by simp at v;omega),zM _⟩
  obtain ⟨g,j⟩:=get 0 (by omega);obtain ⟨k,e1⟩:=get 1 (by omega);obtain ⟨m,e2⟩:=get 2 (by omega);have z:DataW.trod enc Tryz.prog w 0 b c n 3 [c0]=some g:=by
   have:=(hx 0 _ rfl).trans j;simpa[Rf] using this
  have f1:DataW.trod enc Tryz.prog w 0 b c n 3 [c1]=some k:=by
   have:=(hx 1 _ rfl).trans e1;simpa[Rf] using this
  have f2:DataW.trod enc Tryz.prog w 0 b c n 9 [c2]=some m:=by
   have:=(hx 2 _ rfl).trans e2;simpa[X6] using this
  obtain ⟨E,o,A,_⟩:=DataW.trod_int Tryz.underlying3 z;obtain ⟨a1,q,B,_⟩:=DataW.trod_int Tryz.underlying3 f1;obtain ⟨a2,r,C,_⟩:=DataW.trod_string Tryz.underlying9 f2;have hm:a.map (·.1)= [.lit (.int .i64 x),.lit (.int .i64 y),.lit (.string s)]:=by
   have:=congrArg Prod.fst u;simpa using this.symm
  have d:(a.map (·.1))[0]? =some g.1:=by rw[zd,j];rfl
  have g1:(a.map (·.1))[1]? =some k.1:=by rw[zd,e1];rfl
  have g2:(a.map (·.1))[2]? =some m.1:=by rw[zd,e2];rfl
  rw[hm] at d g1 g2;rw[A] at d;rw[B] at g1;rw[C] at g2;simp only[List.cons.injEq,and_true] at o q r;simp at d g1 g2;subst d g1;rw[o,q,r,g2]
theorem Yb:∀ i,i < 16→∃ R:List (DataW Unit),Rows.laid_loop_example_s01308_impl_binaryOperators= .agg R∧R[i]? =some (.agg [.lit (.int .i64 (Ev i).op),.lit (.int .i64 (Ev i).lv),.lit (.string (Ev i).text.data.toList)])
 | 0,_ | 1,_ | 2,_ | 3,_ | 4,_ | 5,_ | 6,_ | 7,_ | 8,_ | 9,_ | 10,_ | 11,_ | 12,_ | 13,_ | 14,_ | 15,_=>⟨_,rfl,rfl⟩
 |n+16,h=>absurd h (by omega)
theorem Rh {f:World}{l:List (String × DataW Unit)}(h:laidMet Tryz.prog (("loop.example/s01308/impl.binaryOperators",Rows.laid_loop_example_s01308_impl_binaryOperators) ::l) f):CU f:=by
 obtain ⟨A,⟨B,C,cs,fuel,p,q,o,r,b,s,_,_⟩,_⟩:=h;obtain rfl:=Option.some.inj (AcG.symm.trans o);obtain rfl:=Option.some.inj (Adg.symm.trans r);obtain ⟨g,m,_,hx,j,E,n⟩:=DataW.trod_array Tryz.underlying244 s;rw[Ya] at j;rw[Vx] at n;have u:∀ i,i < 16→(cs.toList.drop (i * 3)).take 3= [.int .i64 (Ev i).op,.int .i64 (Ev i).lv,.string (Ev i).text]:=fun i hi=>by
  obtain ⟨R,v,w⟩:=Yb i hi;have hm:g.map (·.1)=R:=by
   have:=congrArg Prod.fst hx;rw[v] at this;simpa using this.symm
  obtain ⟨y,hy⟩:∃ y,g[i]? =some y:=⟨g[i]'(by omega),zM _⟩
  have h1:=(n i hi).trans hy;have h2:(g.map (·.1))[i]? =some y.1:=by rw[zd,hy];rfl
  rw[hm,w] at h2;have h3:y=(.agg [.lit (.int .i64 (Ev i).op),.lit (.int .i64 (Ev i).lv),.lit (.string (Ev i).text.data.toList)],y.2):=Prod.ext (Option.some.inj h2).symm rfl;rw[h3] at h1;have:=Ww h1;rw[this]
 have x:∀ k:Nat,cs[k]? =EL[k]? :=fun k=>by
  by_cases hk:k < 48
  ·have hi:k / 3 < 16:=by omega
   have e1:=u (k / 3) hi;have e2:=Jy (k / 3) hi;have a1:((cs.toList.drop (k / 3 * 3)).take 3)[k % 3]? =cs[k]? :=by
    rw[List.getElem?_take,if_pos (by omega),List.getElem?_drop,show k / 3 * 3+k % 3=k by omega,Array.getElem?_toList]
   have a2:(EL.extract (k / 3 * 3) (k / 3 * 3+3))[k % 3]? =EL[k]? :=by
    have a:EL.size=48:=rfl;rw[Array.getElem?_extract,if_pos (by rw[a];omega),show k / 3 * 3+k % 3=k by omega]
   rw[← a1,← a2,e1,e2];simp
  ·have a:EL.size=48:=rfl;rw[Array.getElem?_eq_none (by rw[← Array.length_toList,j];omega),Array.getElem?_eq_none (by rw[a];omega)]
 have z:∃ t d,f.heap[10]? =some (.cells cs t d):=by
  simp only[World.var?,AcG,Option.bind_some] at b;split at b
  ·rename_i c t d a;simp only[Option.some.injEq] at b;subst b;exact ⟨t,d,a⟩
  ·cases b
 obtain ⟨t,d,a⟩:=z;exact ⟨(yD.1 a).1,fun k=>(cell_of_row f _ k cs t d a).trans (x k)⟩
theorem Adh:(Tryz.prog.globals[11]?).map (·.type)=some 255:=by kernel_rfl
theorem Ri {a:World}(h0:laidMetH Tryz.prog Kt a):∃ a1 a2 a3 a4 a5 a6,Z4 a a1 a2 a3 a4 a5 a6∧CU a∧Rj a:=by
 obtain ⟨hp,c⟩:=TX h0;have gE:=Wv c;have h3:=AO (AO (AO hp));obtain ⟨u,d⟩:=X8 h3 TV TW;obtain ⟨v,f⟩:=Ws (AO hp);have big:=Wr Adf f;have h5:=AO (AO h3);obtain ⟨g,h,i,j,k,l,⟨m,n,o,p,q,r⟩,s,t⟩:=X9 h5;have b:=Rh (AO (AO (AO (AO (AO (AO (AO (AO (AO h5)))))))));exact ⟨h,i,j,k,g,l,⟨⟨n,o,p,q,m,r,gE,⟨_,_,d⟩,by omega,s,t⟩,b.2⟩,b,Lib.tabIs_of_head AcH Adh Tryz.underlying255 Tryz.underlying246 (by kernel_rfl) (by kernel_rfl) (AO (AO hp))⟩
theorem Yc {c:Type}{enc:TypeId × Value→c}{P:Program}{w:World}{f:Nat→Bool}{g i j k l m n o p q:String} :∀ {d:List (DataW c)} {r:List MemPlace},DataW.TrodVars enc P w f [g,i,j,k,l,m,n,o,p,q] d r→∃ a g1 g2 g3 g4 g5 g6 g7 g8 b,d= [a,g1,g2,g3,g4,g5,g6,g7,g8,b]
 | [],_,h=>by simp[DataW.TrodVars] at h
 | [_],_,h=>by simp[DataW.TrodVars] at h
 | [_,_],_,h=>by simp[DataW.TrodVars] at h
 | [_,_,_],_,h=>by simp[DataW.TrodVars] at h
 | [_,_,_,_],_,h=>by simp[DataW.TrodVars] at h
 | [_,_,_,_,_],_,h=>by simp[DataW.TrodVars] at h
 | [_,_,_,_,_,_],_,h=>by simp[DataW.TrodVars] at h
 | [_,_,_,_,_,_,_],_,h=>by simp[DataW.TrodVars] at h
 | [_,_,_,_,_,_,_,_],_,h=>by simp[DataW.TrodVars] at h
 | [_,_,_,_,_,_,_,_,_],_,h=>by simp[DataW.TrodVars] at h
 | [a,g1,g2,g3,g4,g5,g6,g7,g8,b],_,_=>⟨a,g1,g2,g3,g4,g5,g6,g7,g8,b,rfl⟩
 |_ ::_ ::_ ::_ ::_ ::_ ::_ ::_ ::_ ::_ ::_ ::_,_,h=>by simp[DataW.TrodVars] at h
theorem AbR (os:Os)(s:os.Started)(u:Type)(enc:TypeId × Value→u):
  ReturnsInHanded {} Tryz.checked os 3 .any (fun w args=>(Rows.fnReadSpec.pre enc Tryz.prog Tryz.f3 [] false w args∧laidMetH Tryz.prog Kt w)∧sizedMet enc Tryz.prog Tryz.f3 (OpenSpec.ofChange Rows.fnReadSpec) false w args)
   (Rows.fnReadSpec.post enc Tryz.prog Tryz.f3 false true false false):=by
 refine returnsInHanded_of_change_and (C:=Tryz.checked) (X:=fun w _=>laidMetH Tryz.prog Kt w) (fun _ _ _ y h=>h.of_heap y) own s (by kernel_rfl) Tryz.func3
  (ChangeSpec.witness_shaped (enc:=enc) (C:=Tryz.checked) (os:=os) (X:=fun w _=>laidMetH Tryz.prog Kt w) false (World.doorLaid Tryz.prog 261 os) #[.slice none 0 0] 8 rfl (World.shaped_of_RefB (by kernel_rfl) (by kernel_rfl)) (by kernel_rfl) (by kernel_rfl) (by kernel_rfl) (X7 os _)) ?_
 intro a z args A B O b c _ _ E _;have d:∀ (j:Nat) t v,Tryz.f3.params[j]? =some t→args[j]? =some v→Value.okWide Tryz.prog a .any z t v:=b;have F:=c;obtain ⟨p,q,f,g,rfl,P,Q⟩:=c;have i:DataW.TrodAll enc Tryz.prog a 0 (fun _=>true) true Tryz.f3.params.toList args.toList A p:=f;have k:DataW.TrodVars enc Tryz.prog a (fun _=>true) ["loop.example/s01308/impl.errSize", "loop.example/s01308/impl.errToken", "loop.example/s01308/impl.errByte", "loop.example/s01308/impl.errSyntax", "loop.example/s01308/impl.binaryOperators", "loop.example/s01308/impl.errWidth", "loop.example/s01308/impl.errDepth", "loop.example/s01308/impl.errName", "loop.example/s01308/impl.errAgain", "loop.example/s01308/impl.errType"] B q:=g;rw[Tryz.params3] at i d;obtain ⟨H,R,rfl,rfl,h0⟩:=trodAll_one i;obtain ⟨l,n,o,rfl⟩:=okWide_slice Tryz.underlying22 (d 0 22 H rfl rfl);have r:=h0;have I:∀ x∈p,x.block < a.heap.size:=by obtain ⟨m,hm⟩:=r;exact DataW.trod_lt m _ _ _ hm
 obtain ⟨J,K⟩:∃ L,FA a l n o L:=by
  obtain ⟨fuel,hf⟩:=h0;exact FA.of_trod Tryz.underlying22 Tryz.underlying5 (by kernel_rfl) hf
 obtain ⟨T,U,V,W,Y,Z,aa,ab,ac,ad,rfl⟩:=Yc k;obtain ⟨a1,a2,a3,a4,a5,a6,S,M,N⟩:=Ri E;clear f g b;refine (Rk l n o J a K S M N).mono fun e ae ⟨he,bel⟩=>?_;subst he;exact ⟨_,rfl,_,_,_, [],_,_,F,trodAll_mk1 (shut_bool Tryz.underlying4 _),trodAll_mk1 (Below.trod Vw (by kernel_rfl) (of_decide_eq_true (by kernel_rfl)) r bel I),Below.trodVars Vw bel (by kernel_rfl) k,bel.frame _,fun h=>by cases h⟩
theorem over:Rows.FnReadSaid:=
 OpenClaim.holds_of_wide 3 Tryz.f3 rfl rfl rfl rfl rfl rfl rfl ⟨rfl,rfl,rfl,rfl,rfl⟩ rfl rfl rfl rfl rfl (by kernel_rfl) Tryz.func3 (by kernel_rfl)
  (of_decide_eq_true (by kernel_rfl)) (by unfold Func.isWrapper;first | (rw[if_pos (by decide+kernel)];kernel_rfl) | (rw[if_neg (by decide+kernel)];exact ⟨rfl,rfl⟩))
  (fun os a b enc _=>AbR os a b enc)
theorem card:Rows.FnReadCardSaid:=
 Claim7.holds_tied_plain_at .later [] [.data,.data,.data,.handle,.sentinel,.sentinel,.sentinel,.sentinel,.sentinel,.sentinel,.sentinel,.sentinel,.sentinel,.sentinel,.sentinel,.data] true (true, "6b38f78b6b66a62bf270ccb88985dbb1b285733f3b0a621a78f9232321098082") true
  over (fun _ h=>by cases h) (by kernel_rfl) (fun _ h=>by cases h) fnRead_row_tie rfl ⟨rfl,rfl⟩ (by kernel_rfl) rfl
  (fun f a hf b=>by
   obtain rfl:f= 3:=Option.some.inj ((show Tryz.prog.funcNamed "loop.example/s01308/laws.FnRead" =some 3 by kernel_rfl).symm.trans hf) |>.symm;obtain rfl:a= Tryz.f3:=(Option.some.inj (Tryz.func3.symm.trans b)).symm;exact ⟨by kernel_rfl,fun j t ht=>by
    rw[Tryz.params3] at ht;have hm:t∈ [22]:=by simpa using Array.mem_of_getElem? ht
    have c:([22].all fun u=>!Tryz.prog.wantsStandIn u)=true:=by kernel_rfl
    exact (show Tryz.prog.wantsStandIn t=false by simpa using z1.1 c t hm)⟩)
  (by kernel_rfl)
end Go.Proofs.YtffkofkjpckmpaaGreatDoor.fnReadDone
namespace Go.Proofs.YtffkofkjpckmpaaGreatDoor
theorem fnRead_holds:Rows.FnReadCardSaid:=fnReadDone.card
end Go.Proofs.YtffkofkjpckmpaaGreatDoor

import Derived.Test.YteiieikcjcfkkaaGreatDoorMXBE
import Derived.Test.YteiieikcjcfkkaaGreatDoorTie
import Derived.Test.YteiieikcjcfkkaaGreatDoorCards
import Derived.OpenVars
open Go.Proofs.Tryz
open Option renaming none->T,some->X
open Go.Value renaming int->U,slice->Y,string->Q,iface->jB,agg->jG,pointer->jK
open Go.IntKind renaming i64->V
open Go renaming World->Z,Value->R,TypeId->jJ
open Bool renaming true->jA,false->jC
open Option.some renaming inj->jb,injEq->jr
open Go.DataW renaming trod->jf,trod_int->j1,TrodVars->j3
open List.cons renaming injEq->jo
open Go.MemPlace renaming row->jw
open Go.World renaming var?_cell->j2
open Go.Proofs.Tryz renaming prog->j4
namespace Go.Proofs.YteiieikcjcfkkaaGreatDoor.fnExactOptimizeDone
open Go.ChangeShapes Go.WideShapes Go.ChangeAt Go.RowKit
set_option linter.unusedVariables false
set_option maxRecDepth 100000
variable {cs:Array R}{c:Bool}{d f:Int}{l:List (String×DataW Unit)}{p:List MemPlace}{text:List UInt8}{g:Nat}{b:Nat->Bool}{P:Program}{n:String}{t:Type}{w:Z}
theorem own:ownKnob j4.godebug=T:=by kernel_rfl
theorem AaF:laidOutB j4 =jA:=by kernel_rfl
abbrev Qm:List (String×DataW Unit):= [("loop.example/s01308/impl.errOverflow",Rows.laid_loop_example_s01308_impl_errOverflow),("loop.example/s01308/impl.errZero",Rows.laid_loop_example_s01308_impl_errZero),("loop.example/s01308/impl.errWidth",Rows.laid_loop_example_s01308_impl_errWidth),("loop.example/s01308/impl.errShape",Rows.laid_loop_example_s01308_impl_errShape),("loop.example/s01308/impl.errName",Rows.laid_loop_example_s01308_impl_errName),("loop.example/s01308/impl.errAgain",Rows.laid_loop_example_s01308_impl_errAgain),("loop.example/s01308/impl.errType",Rows.laid_loop_example_s01308_impl_errType),("loop.example/s01308/impl.binaryOperators",Rows.laid_loop_example_s01308_impl_binaryOperators),("loop.example/s01308/impl.attributes",Rows.laid_loop_example_s01308_impl_attributes),("loop.example/s01308/impl.signatures",Rows.laid_loop_example_s01308_impl_signatures)]
theorem Ad6 (os:Os)(args:Array R):laidMetH j4 Qm ((World.doorLaid j4 196 os).forCall (fun _ _=>0) ⟨#[],args,[]⟩).memory:=
 laidMetH_of_parts3 (fuel:=8) (laidMet_of_run' 8 (by kernel_rfl) (by kernel_rfl)) (by kernel_rfl) (by kernel_rfl)
theorem BO {x:String×DataW Unit}{a:Z}(h:laidMet P (x ::l) a):laidMet P l a:=by
 obtain⟨m,c,i,j⟩:=h;obtain⟨n,d⟩:=x;obtain⟨g,t,cs,f,p,q,h1,h2,h3,h4,h5,rfl⟩:=c;exact⟨q,h5,(List.nodup_append.1 i).2.1,fun b k hm=>j b k (List.mem_append_right _ hm)⟩
theorem Ni {a:Z}(hg:P.globalNamed n=X g)(h:a.var? P n=X cs):g<a.heap.size:=by
 rcases Nat.lt_or_ge g a.heap.size with k|k
 ·exact k
 ·unfold World.var? at h;rw[hg]at h;simp[Array.getElem?_eq_none k]at h
theorem Ad7 {d:Z}{f:Nat}{h:List MemPlace}(hg: j4.globalNamed n=X g)(hv:d.var? j4 n=X cs)
  (m:jf (fun _=>()) j4 d 0 (fun _=>jA) jC f 98 cs.toList=X (.iface "*errors.errorString" (.ptr (.agg [.lit (.string text)])),p))
  (i:∀x∈jw ⟨g,0,T⟩ cs.size++p,x∈h)(j:∀b k,MemPlace.cell b k∈h->(∃c t,d.heap[b]? =X (.cells c t (0,0)))/\∀u v,d.cell? ⟨b,k,T⟩=X (jB u v)->Value.okWide j4 d .any 0 u v):
  ∃a,cs= #[jB 297 (jK (X a))]/\p=jw a 1/\(∃c t,d.heap[a.block]? =X (.cells c t (0,0)))/\d.cell? ⟨g,0,T⟩=X (jB 297 (jK (X a))):=by
 obtain⟨l⟩:=cs;have ok:∀u v,l=[jB u v]->Value.okWide j4 d .any 0 u v:=fun u v e=>by
  subst e;exact(j g 0 (i _ (by simp[jw]))).2 u v (by simpa using j2 hg hv 0)
 obtain⟨a,s,rfl,hc,_,_,rfl⟩:=errorString_of_trod underlying98 VN underlying297 underlying319 rfl rfl underlying9 LG PI m ok;exact⟨a,rfl,rfl,(j a.block a.off (i _ (by simp[jw]))).1,by simpa using j2 hg hv 0⟩
theorem Qn {b:Z}(h:laidMet j4 ((n,.iface "*errors.errorString" (.ptr (.agg [.lit (.string text)]))) ::l) b)(hg: j4.globalNamed n=X g)(c:(j4.globals[g]?).map (·.type)=X 98):
  ∃a,b.var? j4 n=X #[jB 297 (jK (X a))]:=by
 obtain⟨j,d,k,i⟩:=h;obtain⟨m,t,cs,f,p,q,h1,h2,h3,h4,h5,rfl⟩:=d;obtain rfl:=jb (hg.symm.trans h1);obtain rfl:=jb (c.symm.trans h2);obtain⟨a,rfl,_⟩:=Ad7 hg h3 h4 (fun x hx=>Z7 _ hx) i;exact⟨a,h3⟩
theorem Nj: j4.globalNamed "loop.example/s01308/impl.errName" =X 5:=by kernel_rfl
theorem Ab4:(j4.globals[5]?).map (·.type)=X 98:=by kernel_rfl
theorem KY: j4.globalNamed "loop.example/s01308/impl.errAgain" =X 2:=by kernel_rfl
theorem Y0:(j4.globals[2]?).map (·.type)=X 98:=by kernel_rfl
theorem Nl: j4.globalNamed "loop.example/s01308/impl.errType" =X 1:=by kernel_rfl
theorem Ab5:(j4.globals[1]?).map (·.type)=X 98:=by kernel_rfl
theorem Ajr: j4.globalNamed "loop.example/s01308/impl.signatures" =X 6:=by kernel_rfl
theorem AjZ:(j4.globals[6]?).map (·.type)=X 284:=by kernel_rfl
theorem Wz: j4.cellsOf 283 =4:=by kernel_rfl
theorem Ab6: j4.cellsOf 284 =68:=by kernel_rfl
theorem Ajs: j4.globalNamed "loop.example/s01308/impl.attributes" =X 0:=by kernel_rfl
theorem Aj0:(j4.globals[0]?).map (·.type)=X 152:=by kernel_rfl
theorem WA: j4.cellsOf 151 =2:=by kernel_rfl
theorem Ab7: j4.cellsOf 152 =12:=by kernel_rfl
theorem Ab8 {enc:jJ×R->t}{fuel:Nat}{l:List R}{x2 x3:Int}
  (h:jf enc j4 w 0 b c fuel 283 l=X (.agg [.lit (.int V d),.lit (.int V f),.lit (.int V x2),.lit (.int V x3)],p)):l=[U V d,U V f,U V x2,U V x3]:=by
 obtain⟨a,n,_,u,g,v,hx⟩:=DataW.trod_struct underlying283 h;rw[Wz]at g
 match l,g with
 |[c0,c1,c2,c3],_=>
  have get:∀i,i<4->∃y,a[i]? =X y:=fun i hi=>⟨a[i]'(by simp at v;omega),zG _⟩
  obtain⟨j,e0⟩:=get 0 (by omega);obtain⟨k,e1⟩:=get 1 (by omega);obtain⟨m,e2⟩:=get 2 (by omega);obtain⟨o,e3⟩:=get 3 (by omega);have x:jf enc j4 w 0 b c n 3 [c0]=X j:=by
   have:=(hx 0 _ rfl).trans e0;simpa[CR]using this
  have z:jf enc j4 w 0 b c n 3 [c1]=X k:=by
   have:=(hx 1 _ rfl).trans e1;simpa[CR]using this
  have A:jf enc j4 w 0 b c n 3 [c2]=X m:=by
   have:=(hx 2 _ rfl).trans e2;simpa[CR]using this
  have B:jf enc j4 w 0 b c n 3 [c3]=X o:=by
   have:=(hx 3 _ rfl).trans e3;simpa[CR]using this
  obtain⟨E,k0,C,_⟩:=j1 underlying3 x;obtain⟨a1,q,D,_⟩:=j1 underlying3 z;obtain⟨a2,r,r2,_⟩:=j1 underlying3 A;obtain⟨a3,s,r3,_⟩:=j1 underlying3 B;have hm:a.map (·.1)=[.lit (.int V d),.lit (.int V f),.lit (.int V x2),.lit (.int V x3)]:=by
   have:=congrArg Prod.fst u;simpa using this.symm
  have g0:(a.map (·.1))[0]? =X j.1:=by rw[zZ,e0];rfl
  have g1:(a.map (·.1))[1]? =X k.1:=by rw[zZ,e1];rfl
  have g2:(a.map (·.1))[2]? =X m.1:=by rw[zZ,e2];rfl
  have g3:(a.map (·.1))[3]? =X o.1:=by rw[zZ,e3];rfl
  rw[hm]at g0 g1 g2 g3;rw[C]at g0;rw[D]at g1;rw[r2]at g2;rw[r3]at g3;simp only[jo,and_true]at k0 q r s;simp at g0 g1 g2 g3;subst g0 g1 g2 g3;rw[k0,q,r,s]
theorem Ab9 {k:Type}{enc:jJ×R->k}{fuel:Nat}{l:List R}{y:Int}{s:List UInt8}
  (h:jf enc j4 w 0 b c fuel 151 l=X (.agg [.lit (.string s),.lit (.int V y)],p)):l=[Q ⟨s.toArray⟩,U V y]:=by
 obtain⟨a,n,_,m,d,o,hx⟩:=DataW.trod_struct underlying151 h;rw[WA]at d
 match l,d with
 |[c0,c1],_=>
  have get:∀i,i<2->∃y,a[i]? =X y:=fun i hi=>⟨a[i]'(by simp at o;omega),zG _⟩
  obtain⟨f,e0⟩:=get 0 (by omega);obtain⟨g,e1⟩:=get 1 (by omega);have q:jf enc j4 w 0 b c n 9 [c0]=X f:=by
   have:=(hx 0 _ rfl).trans e0;simpa[JB]using this
  have r:jf enc j4 w 0 b c n 3 [c1]=X g:=by
   have:=(hx 1 _ rfl).trans e1;simpa[CR]using this
  obtain⟨v,k0,t,_⟩:=DataW.trod_string underlying9 q;obtain⟨a1,j,u,_⟩:=j1 underlying3 r;have hm:a.map (·.1)=[.lit (.string s),.lit (.int V y)]:=by
   have:=congrArg Prod.fst m;simpa using this.symm
  have g0:(a.map (·.1))[0]? =X f.1:=by rw[zZ,e0];rfl
  have g1:(a.map (·.1))[1]? =X g.1:=by rw[zZ,e1];rfl
  rw[hm]at g0 g1;rw[t]at g0;rw[u]at g1;simp only[jo,and_true]at k0 j;simp at g0 g1;subst g1;rw[k0,j,g0]
def Nm (i:Nat):Int×Int×Int×Int:=Ix.getD i (0,0,0,0)
def WC (i:Nat):ByteArray×Int:=match i with|0=>(⟨#[99,108,105,101,110,116]⟩,3)|1=>(⟨#[117,115,101,114]⟩,3)|2=>(⟨#[108,101,118,101,108]⟩,2)|3=>(⟨#[110,111,119]⟩,2)|4=>(⟨#[97,115,107,101,100]⟩,4)|_=>(⟨#[97,103,114,101,101,100]⟩,4)
theorem Aca:∀k,k<6->PZ.extract (k*2) (k*2+2)= #[Q (WC k).1,U V (WC k).2]
 |0,_|1,_|2,_|3,_|4,_|5,_=>rfl
 |n+6,h=>absurd h (by omega)
theorem Ah5:∀i,i<17->∃R:List (DataW Unit),Rows.laid_loop_example_s01308_impl_signatures= .agg R/\R[i]? =X (.agg [.lit (.int V (Nm i).1),.lit (.int V (Nm i).2.1),.lit (.int V (Nm i).2.2.1),.lit (.int V (Nm i).2.2.2)])
 |0,_|1,_|2,_|3,_|4,_|5,_|6,_|7,_|8,_|9,_|10,_|11,_|12,_|13,_|14,_|15,_|16,_=>⟨_,rfl,rfl⟩
 |n+17,h=>absurd h (by omega)
theorem Ah6:∀i,i<6->∃R:List (DataW Unit),Rows.laid_loop_example_s01308_impl_attributes= .agg R/\R[i]? =X (.agg [.lit (.string (WC i).1.data.toList),.lit (.int V (WC i).2)])
 |0,_|1,_|2,_|3,_|4,_|5,_=>⟨_,rfl,rfl⟩
 |n+6,h=>absurd h (by omega)
theorem WD {b:Z}(h:laidMet j4 (("loop.example/s01308/impl.signatures",Rows.laid_loop_example_s01308_impl_signatures) ::l) b): 6 <b.heap.size/\∀k,b.cell? ⟨6,k,T⟩=MY[k]? :=by
 obtain⟨A,⟨B,C,cs,fuel,p,q,o,r,d,s,_,_⟩,_⟩:=h;obtain rfl:=jb (Ajr.symm.trans o);obtain rfl:=jb (AjZ.symm.trans r);obtain⟨g,m,_,hx,j,D,n⟩:=DataW.trod_array underlying284 s;rw[Ab6]at j;rw[Wz]at n;have u:∀i,i<17->(cs.toList.drop (i*4)).take 4=[U V (Nm i).1,U V (Nm i).2.1,U V (Nm i).2.2.1,U V (Nm i).2.2.2]:=fun i hi=>by
  obtain⟨R,v,w⟩:=Ah5 i hi;have hm:g.map (·.1)=R:=by
   have:=congrArg Prod.fst hx;rw[v]at this;simpa using this.symm
  obtain⟨y,hy⟩:∃y,g[i]? =X y:=⟨g[i]'(by omega),zG _⟩
  have h1:=(n i hi).trans hy;have h2:(g.map (·.1))[i]? =X y.1:=by rw[zZ,hy];rfl
  rw[hm,w]at h2;have h3:y=((.agg [.lit (.int V (Nm i).1),.lit (.int V (Nm i).2.1),.lit (.int V (Nm i).2.2.1),.lit (.int V (Nm i).2.2.2)]),y.2):=Prod.ext (jb h2).symm rfl;rw[h3]at h1;have:=Ab8 h1;rw[this]
 have x:∀k:Nat,cs[k]? =MY[k]? :=fun k=>by
  by_cases E:k<68
  ·have hi:k / 4<17:=by omega
   have e1:=u (k / 4) hi;have e2:=VY (k / 4) hi;have a1:((cs.toList.drop (k / 4*4)).take 4)[k % 4]? =cs[k]? :=by
    rw[List.getElem?_take,if_pos (by omega),List.getElem?_drop,show k / 4*4+k % 4=k by omega,yK]
   have a2:(MY.extract (k / 4*4) (k / 4*4+4))[k % 4]? =MY[k]? :=by
    have a:MY.size=68:=rfl;rw[Array.getElem?_extract,if_pos (by rw[a];omega),show k / 4*4+k % 4=k by omega]
   rw[<-a1,<-a2,e1,e2];simp[Nm]
  ·have a:MY.size=68:=rfl;rw[yM (by rw[<-Array.length_toList,j];omega),yM (by rw[a];omega)]
 have z:∃t f,b.heap[6]? =X (.cells cs t f):=by
  simp only[World.var?,Ajr,zm]at d;split at d
  ·rename_i c t f a;simp only[jr]at d;subst d;exact⟨t,f,a⟩
  ·cases d
 obtain⟨t,f,a⟩:=z;exact⟨(z4.1 a).1,fun k=>(cell_of_row b _ k cs t f a).trans (x k)⟩
theorem WE {b:Z}(h:laidMet j4 (("loop.example/s01308/impl.attributes",Rows.laid_loop_example_s01308_impl_attributes) ::l) b): 0 <b.heap.size/\∀k,b.cell? ⟨0,k,T⟩=PZ[k]? :=by
 obtain⟨A,⟨B,C,cs,fuel,p,q,o,r,d,s,_,_⟩,_⟩:=h;obtain rfl:=jb (Ajs.symm.trans o);obtain rfl:=jb (Aj0.symm.trans r);obtain⟨g,m,_,hx,j,D,n⟩:=DataW.trod_array underlying152 s;rw[Ab7]at j;rw[WA]at n;have u:∀i,i<6->(cs.toList.drop (i*2)).take 2=[Q (WC i).1,U V (WC i).2]:=fun i hi=>by
  obtain⟨R,v,w⟩:=Ah6 i hi;have hm:g.map (·.1)=R:=by
   have:=congrArg Prod.fst hx;rw[v]at this;simpa using this.symm
  obtain⟨y,hy⟩:∃y,g[i]? =X y:=⟨g[i]'(by omega),zG _⟩
  have h1:=(n i hi).trans hy;have h2:(g.map (·.1))[i]? =X y.1:=by rw[zZ,hy];rfl
  rw[hm,w]at h2;have h3:y=((.agg [.lit (.string (WC i).1.data.toList),.lit (.int V (WC i).2)]),y.2):=Prod.ext (jb h2).symm rfl;rw[h3]at h1;have:=Ab9 h1;rw[this]
 have x:∀k:Nat,cs[k]? =PZ[k]? :=fun k=>by
  by_cases E:k<12
  ·have hi:k / 2<6:=by omega
   have e1:=u (k / 2) hi;have e2:=Aca (k / 2) hi;have a1:((cs.toList.drop (k / 2*2)).take 2)[k % 2]? =cs[k]? :=by
    rw[List.getElem?_take,if_pos (by omega),List.getElem?_drop,show k / 2*2+k % 2=k by omega,yK]
   have a2:(PZ.extract (k / 2*2) (k / 2*2+2))[k % 2]? =PZ[k]? :=by
    have a:PZ.size=12:=rfl;rw[Array.getElem?_extract,if_pos (by rw[a];omega),show k / 2*2+k % 2=k by omega]
   rw[<-a1,<-a2,e1,e2];simp
  ·have a:PZ.size=12:=rfl;rw[yM (by rw[<-Array.length_toList,j];omega),yM (by rw[a];omega)]
 have z:∃t f,b.heap[0]? =X (.cells cs t f):=by
  simp only[World.var?,Ajs,zm]at d;split at d
  ·rename_i c t f a;simp only[jr]at d;subst d;exact⟨t,f,a⟩
  ·cases d
 obtain⟨t,f,a⟩:=z;exact⟨(z4.1 a).1,fun k=>(cell_of_row b _ k cs t f a).trans (x k)⟩
theorem Ajt: j4.globalNamed "loop.example/s01308/impl.binaryOperators" =X 4:=by kernel_rfl
theorem Aj1:(j4.globals[4]?).map (·.type)=X 272:=by kernel_rfl
theorem AaG: j4.cellsOf 239 =3:=by kernel_rfl
theorem Ad8: j4.cellsOf 272 =48:=by kernel_rfl
theorem Acb {o:Type}{enc:jJ×R->o}{fuel:Nat}{l:List R}{x y:Int}{s:List UInt8}
  (h:jf enc j4 w 0 b c fuel 239 l=X (.agg [.lit (.int V x),.lit (.int V y),.lit (.string s)],p)):l=[U V x,U V y,Q ⟨s.toArray⟩]:=by
 obtain⟨a,n,_,q,d,r,hx⟩:=DataW.trod_struct underlying239 h;rw[AaG]at d
 match l,d with
 |[c0,c1,c2],_=>
  have get:∀i,i<3->∃y,a[i]? =X y:=fun i hi=>⟨a[i]'(by simp at r;omega),zG _⟩
  obtain⟨f,e0⟩:=get 0 (by omega);obtain⟨g,e1⟩:=get 1 (by omega);obtain⟨j,e2⟩:=get 2 (by omega);have t:jf enc j4 w 0 b c n 3 [c0]=X f:=by
   have:=(hx 0 _ rfl).trans e0;simpa[CR]using this
  have u:jf enc j4 w 0 b c n 3 [c1]=X g:=by
   have:=(hx 1 _ rfl).trans e1;simpa[CR]using this
  have v:jf enc j4 w 0 b c n 9 [c2]=X j:=by
   have:=(hx 2 _ rfl).trans e2;simpa[JB]using this
  obtain⟨B,k0,z,_⟩:=j1 underlying3 t;obtain⟨a1,k,A,_⟩:=j1 underlying3 u;obtain⟨a2,m,r2,_⟩:=DataW.trod_string underlying9 v;have hm:a.map (·.1)=[.lit (.int V x),.lit (.int V y),.lit (.string s)]:=by
   have:=congrArg Prod.fst q;simpa using this.symm
  have g0:(a.map (·.1))[0]? =X f.1:=by rw[zZ,e0];rfl
  have g1:(a.map (·.1))[1]? =X g.1:=by rw[zZ,e1];rfl
  have g2:(a.map (·.1))[2]? =X j.1:=by rw[zZ,e2];rfl
  rw[hm]at g0 g1 g2;rw[z]at g0;rw[A]at g1;rw[r2]at g2;simp only[jo,and_true]at k0 k m;simp at g0 g1 g2;subst g0 g1;rw[k0,k,m,g2]
theorem Ad9:∀i,i<16->∃R:List (DataW Unit),Rows.laid_loop_example_s01308_impl_binaryOperators= .agg R/\R[i]? =X (.agg [.lit (.int V (Tw i).op),.lit (.int V (Tw i).lv),.lit (.string (Tw i).text.data.toList)])
 |0,_|1,_|2,_|3,_|4,_|5,_|6,_|7,_|8,_|9,_|10,_|11,_|12,_|13,_|14,_|15,_=>⟨_,rfl,rfl⟩
 |n+16,h=>absurd h (by omega)
theorem WF {f:Z}(h:laidMet j4 (("loop.example/s01308/impl.binaryOperators",Rows.laid_loop_example_s01308_impl_binaryOperators) ::l) f):Ko f:=by
 obtain⟨A,⟨B,C,cs,fuel,p,q,o,r,b,s,_,_⟩,_⟩:=h;obtain rfl:=jb (Ajt.symm.trans o);obtain rfl:=jb (Aj1.symm.trans r);obtain⟨g,m,_,hx,j,D,n⟩:=DataW.trod_array underlying272 s;rw[Ad8]at j;rw[AaG]at n;have u:∀i,i<16->(cs.toList.drop (i*3)).take 3=[U V (Tw i).op,U V (Tw i).lv,Q (Tw i).text]:=fun i hi=>by
  obtain⟨R,v,w⟩:=Ad9 i hi;have hm:g.map (·.1)=R:=by
   have:=congrArg Prod.fst hx;rw[v]at this;simpa using this.symm
  obtain⟨y,hy⟩:∃y,g[i]? =X y:=⟨g[i]'(by omega),zG _⟩
  have h1:=(n i hi).trans hy;have h2:(g.map (·.1))[i]? =X y.1:=by rw[zZ,hy];rfl
  rw[hm,w]at h2;have h3:y=(.agg [.lit (.int V (Tw i).op),.lit (.int V (Tw i).lv),.lit (.string (Tw i).text.data.toList)],y.2):=Prod.ext (jb h2).symm rfl;rw[h3]at h1;have:=Acb h1;rw[this]
 have x:∀k:Nat,cs[k]? =Nn[k]? :=fun k=>by
  by_cases E:k<48
  ·have hi:k / 3<16:=by omega
   have e1:=u (k / 3) hi;have e2:=WG (k / 3) hi;have a1:((cs.toList.drop (k / 3*3)).take 3)[k % 3]? =cs[k]? :=by
    rw[List.getElem?_take,if_pos (by omega),List.getElem?_drop,show k / 3*3+k % 3=k by omega,yK]
   have a2:(Nn.extract (k / 3*3) (k / 3*3+3))[k % 3]? =Nn[k]? :=by
    have a:Nn.size=48:=rfl;rw[Array.getElem?_extract,if_pos (by rw[a];omega),show k / 3*3+k % 3=k by omega]
   rw[<-a1,<-a2,e1,e2];simp
  ·have a:Nn.size=48:=rfl;rw[yM (by rw[<-Array.length_toList,j];omega),yM (by rw[a];omega)]
 have z:∃t d,f.heap[4]? =X (.cells cs t d):=by
  simp only[World.var?,Ajt,zm]at b;split at b
  ·rename_i c t d a;simp only[jr]at b;subst b;exact⟨t,d,a⟩
  ·cases b
 obtain⟨t,d,a⟩:=z;exact⟨(z4.1 a).1,fun k=>(cell_of_row f _ k cs t d a).trans (x k)⟩
theorem WH {a:Z}(h:laidMetH j4 Qm a):∃aT b c aS aO aZ aW,N9 a aT/\RL a b c/\Ko a/\CZ a aS aO aZ aW:=by
 rw[MakeChecks.laidMetH_plain _ _ _ (by kernel_rfl)]at h;obtain⟨aS,aO,aZ,aW,hS,_⟩:=Us h;have h:=BO (BO (BO (BO h)));obtain⟨b,d⟩:=Qn h Nj Ab4;have h1:=BO h;obtain⟨c,f⟩:=Qn h1 KY Y0;have h2:=BO h1;obtain⟨aT,g⟩:=Qn h2 Nl Ab5;have h3:=BO h2;have i:=WF h3;have h4:=BO h3;obtain⟨a1,a2⟩:=WE h4;obtain⟨s1,s2⟩:=WD (BO h4);exact⟨aT,b,c,aS,aO,aZ,aW,⟨s1,s2,a1,a2,Ni Nl g,by simpa using j2 Nl g 0⟩,⟨Ni Nj d,by simpa using j2 Nj d 0,Ni KY f,by simpa using j2 KY f 0⟩,i,hS⟩
theorem Aea {i:Type}{enc:jJ×R->i}{k:Nat->Bool}{n1 n2 n3 l m n o p q r:String} :∀{j:List (DataW i)} {s:List MemPlace},j3 enc P w k [n1,n2,n3,l,m,n,o,p,q,r] j s->∃g1 g2 g3 a b c g7 d f g,j=[g1,g2,g3,a,b,c,g7,d,f,g]
 |[],_,h=>by simp[j3]at h
 |[_],_,h=>by simp[j3]at h
 |[_,_],_,h=>by simp[j3]at h
 |[_,_,_],_,h=>by simp[j3]at h
 |[_,_,_,_],_,h=>by simp[j3]at h
 |[_,_,_,_,_],_,h=>by simp[j3]at h
 |[_,_,_,_,_,_],_,h=>by simp[j3]at h
 |[_,_,_,_,_,_,_],_,h=>by simp[j3]at h
 |[_,_,_,_,_,_,_,_],_,h=>by simp[j3]at h
 |[_,_,_,_,_,_,_,_,_],_,h=>by simp[j3]at h
 |[g1,g2,g3,a,b,c,g7,d,f,g],_,_=>⟨g1,g2,g3,a,b,c,g7,d,f,g,rfl⟩
 |_ ::_ ::_ ::_ ::_ ::_ ::_ ::_ ::_ ::_ ::_ ::_,_,h=>by simp[j3]at h
theorem Ah7 (os:Os)(D:os.Started)(E:Type)(enc:jJ×R->E):
  ReturnsInHanded {} Tryz.checked os 3 .any (fun w args=>(Rows.fnExactOptimizeSpec.pre enc j4 Tryz.f3 [] jC w args/\laidMetH j4 Qm w)/\sizedMet enc j4 Tryz.f3 (OpenSpec.ofChange Rows.fnExactOptimizeSpec) jC w args)
   (Rows.fnExactOptimizeSpec.post enc j4 Tryz.f3 jC jA jC jC):=by
 refine returnsInHanded_of_change_and (C:=Tryz.checked) (X:=fun w _=>laidMetH j4 Qm w) (fun _ _ _ F h=>h.of_heap F) own D (by kernel_rfl) func3
  (ChangeSpec.witness_shaped (enc:=enc) (C:=Tryz.checked) (os:=os) (X:=fun w _=>laidMetH j4 Qm w) jC (World.doorLaid j4 196 os) #[jG #[Y none 0 0,Y none 0 0,Y none 0 0]] 8 rfl (World.shaped_of_RefB (by kernel_rfl) (by kernel_rfl)) (by kernel_rfl) (by kernel_rfl) (by kernel_rfl) (Ad6 os _)) ?_
 intro g G args H I ah l o _ _ J _;have r:∀(j:Nat) t v,Tryz.f3.params[j]? =some t->args[j]? =some v->Value.okWide j4 g .any G t v:=l;have K:=o;obtain⟨p,q,s,u,rfl,ai,aj⟩:=o;have y:DataW.TrodAll enc j4 g 0 (fun _=>jA) jA Tryz.f3.params.toList args.toList H p:=s;have z:j3 enc j4 g (fun _=>jA) ["loop.example/s01308/impl.binaryOperators", "loop.example/s01308/impl.attributes", "loop.example/s01308/impl.errType", "loop.example/s01308/impl.errName", "loop.example/s01308/impl.signatures", "loop.example/s01308/impl.errAgain", "loop.example/s01308/impl.errShape", "loop.example/s01308/impl.errOverflow", "loop.example/s01308/impl.errZero", "loop.example/s01308/impl.errWidth"] I q:=u;rw[params3]at y r;obtain⟨A,ak,al,ao,M,ap,aq,rfl,rfl,h0,O⟩:=trodAll_cons y;obtain⟨rfl,rfl,rfl⟩:=trodAll_nil O;obtain rfl:args= #[A]:=by cases args;simp_all
 have k0:=h0;have P:∀x∈M,x.block<g.heap.size:=by obtain⟨m,hm⟩:=k0;exact DataW.trod_lt m _ _ _ hm
 obtain⟨a,b,e0,n,c,m,d,k,f,N,L,T,rfl,S,W,aa,B⟩:=Aeb (r 0 26 A rfl rfl) h0;obtain⟨aT,ab,ac,aS,aO,aZ,aW,ad,ae,af,ag⟩:=WH J;obtain⟨ar,au,av,aw,ax,ay,az,aA,aB,aC,rfl⟩:=Aea z;clear s u l;refine(Jx a b e0 n c m d k f N L T aT ab ac aS aO aZ aW g ⟨S,W,aa,af,ad,ae,ag⟩ (fun x hx=>⟨(B x hx).1,(B x hx).2⟩)).mono fun e aD ⟨he,i⟩=>?_;subst he;exact⟨_,rfl,_,_,_,[],_,_,K,trodAll_mk1 (shut_bool underlying4 _),(trodAll_cons_mk (Below.trod AaF (by kernel_rfl) (of_decide_eq_true (by kernel_rfl)) k0 i P) trodAll_mk0),Below.trodVars AaF i (by kernel_rfl) z,i.frame _,fun h=>by cases h⟩
theorem Aj2:Rows.FnExactOptimizeSaid:=
 OpenClaim.holds_of_wide 3 Tryz.f3 rfl rfl rfl rfl rfl rfl rfl ⟨rfl,rfl,rfl,rfl,rfl⟩ rfl rfl rfl rfl rfl (by kernel_rfl) func3 (by kernel_rfl)
  (of_decide_eq_true (by kernel_rfl)) (by unfold Func.isWrapper;first|(rw[if_pos (by decide+kernel)];kernel_rfl)|(rw[if_neg (by decide+kernel)];exact⟨rfl,rfl⟩))
  (fun os a b enc _=>Ah7 os a b enc)
theorem card:Rows.FnExactOptimizeCardSaid:=
 Claim7.holds_tied_plain_at .later [] [.sentinel,.sentinel,.sentinel,.sentinel,.sentinel,.sentinel,.sentinel,.data,.data,.data] jA (jA, "04f58a658cf94a1da9b25ae8e0340806d4a60641bb21af8f37173f5d03ba946e") jA
  Aj2 (fun _ h=>by cases h) (by kernel_rfl) (fun _ h=>by cases h) fnExactOptimize_row_tie rfl ⟨rfl,rfl⟩ (by kernel_rfl) rfl
  (fun f fn hf b=>by
   obtain rfl:f= 3:=jb ((show j4.funcNamed "loop.example/s01308/laws.FnExactOptimize" =X 3 by kernel_rfl).symm.trans hf) |>.symm;obtain rfl:fn= Tryz.f3:=(jb (func3.symm.trans b)).symm;exact⟨by kernel_rfl,fun j t a=>by
    rw[params3]at a;have hm:t∈ [26]:=by simpa using Array.mem_of_getElem? a
    have c:([26].all fun u=>!j4.wantsStandIn u)=jA:=by kernel_rfl
    exact(show j4.wantsStandIn t=jC by simpa using z1.1 c t hm)⟩)
  (by kernel_rfl)
end Go.Proofs.YteiieikcjcfkkaaGreatDoor.fnExactOptimizeDone
namespace Go.Proofs.YteiieikcjcfkkaaGreatDoor
variable {cs:Array R}{c:Bool}{d f:Int}{l:List (String×DataW Unit)}{p:List MemPlace}{text:List UInt8}{g:Nat}{b:Nat->Bool}{P:Program}{n:String}{t:Type}{w:Z}
theorem fnExactOptimize_holds:Rows.FnExactOptimizeCardSaid:=fnExactOptimizeDone.card
end Go.Proofs.YteiieikcjcfkkaaGreatDoor

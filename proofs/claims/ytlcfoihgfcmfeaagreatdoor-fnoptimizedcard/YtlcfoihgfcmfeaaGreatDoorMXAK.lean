import Derived.Test.YtlcfoihgfcmfeaaGreatDoorMXAI
import Derived.Test.YtlcfoihgfcmfeaaGreatDoorMXAM
import Derived.Test.YtlcfoihgfcmfeaaGreatDoorMXAR
open Option renaming none->V,some->Z
open List renaming length->Y
open Array renaming size->R,size->jh
open Go renaming World->jD,Value->jF,Addr->jH
namespace Go.Proofs.YtlcfoihgfcmfeaaGreatDoor
open Proofs.Tryz
open Value renaming int->T,slice->X,string->jA,ownBlock->jO,pointer->jQ
open IntKind renaming i64->U
open World renaming heap->Q,heap->jg,cell?->jE,alloc->jK,setCell->jM,ownsRow->jP,drew->jV
open Addr renaming mk->jB
open Proofs.Tryz renaming prog->jZ
open Go.RowKit
set_option linter.unusedVariables false
variable{wild:Bool}{t:Int}{L:List (M1×Int)}{P tt ks:M4}{N:M7}{m b r:N4}{B a c cap c7 p q:Nat}{x:Nd}{o:Obj}{g:M3}{lv pl u k d:jF}{w w' i:jD}
theorem Bh{lo n:Nat}{a:M3}{L:M4}(h:jP w lo 3 1 (X a n c) n<|Ap L)(b:Y L=n)(d:n<=1048576):BN w a n c L:=by refine⟨b,d,λj f=>?_⟩;obtain⟨x,i,e,hx⟩:=Af h;cases e;obtain⟨g,rfl,hg,hc⟩:=hx Oa;refine⟨g,0,rfl,(h.lt g rfl).2,?_⟩;grind[Ap]
def Bg(L:Nz):N4:=L.flatMap λs=>[T U s.aF,jA s.name,T U s.cond,T U s.aD]
theorem XM:∀(L:Nz),Y (Bg L)=Y L*4:=by intro L;induction L<;>intros<;>grind[List.length_cons,zC,Bg]
theorem MI:∀(L:Nz)(j:Nat)(h:j<Y L),∀a,a<4->(Bg L)[j*4+a]?=([Value.int U L[j].aF,jA L[j].name,T U L[j].cond,T U L[j].aD]:N4)[a]?|s::L,0,_,a,hr=>by grind[Bg]|s::L,j+1,h,a,hr=>by have b:=MI L j P4 a hr;rw[Bg,zu,yB Od];have e:(j+1)*4+a-Y ([Value.int U s.aF,jA s.name,T U s.cond,T U s.aD]:N4)=j*4+a:=Od;grind[Bg]|[],_,h,_,_=>K4 h Oz
structure Ry(w:jD)(lo hi:Nat)(x:M3)(n cx:Nat)(y:M3)(m cy:Nat)(z:M3)(p cz:Nat)(N:M7)(nv kv:N4)(L:Nz)(T:M4):Prop where
 nd:BO w lo (X x n cx) N nv kv
 st:jP w lo 97 4 (X y m cy) m<|Bg L
 ty:jP w lo 3 1 (X z p cz) p<|Ap T
 bH:∀q,jO (Value.slice z p cz)=Z q->∀j,(hj:j<Y kv)->jO kv[j]≠Z q
 inN:InN (X x n cx) nv kv hi
 inS:∀q,jO (Value.slice y m cy)=Z q->q<hi
 inT:∀q,jO (Value.slice z p cz)=Z q->q<hi
 top:hi<=R (Q w)nn:Y N=n
 ns:Y L=m
 nt:Y T=p
theorem BO.bR{lo n:Nat}{a:M3}{k l:N4}(h:BO w lo (X a n c) N k l)(q:Y N=n)(hs:n<=1048576)(ok:∀x∈N,okN x/\x.text.size<=1048576):GN w a n c N:=by
 refine⟨q,hs,λx hx=>(ok x hx).2,λj b=>?_⟩;have m:j<Y k:=by rw[h.len];exact b
 have o:j<Y l:=by rw[h.bL];exact b
 have d:=LH N k l j b m o;have r:=d 0 Ob;have s:=d 1 Ob;have x2:=d 2 Ob;have x3:=d 3 Ob;have p:=d 4 Ob;simp only[NM,ze,yA,z5]at r s x2 x3 p;obtain⟨g,y⟩:∃g,a=Z (jB g 0 V):=by obtain⟨_,h0⟩|⟨g,cap,C,D,_⟩:=h.bG.2;all_goals grind
 subst y;subst q;have f:∀i,i<5->jE w ⟨g,0+j*5+i,V⟩=(Fy N k l)[j*5+i]?:=λi hi=>by rw[zT];exact h.bG.cellAt (g:=g) (n:=Y N) (j*5+i) Oa
 obtain⟨an,cn,hu⟩:=AG<|h.aE j b m;obtain⟨z,A,B⟩:=AG<|h.aC j b o;have t:=h.aE j b m;have u:=h.aC j b o;rw[hu]at x3 t;rw[B]at p u;have v:=ok _<|zI b;refine⟨g,0,rfl,(h.bG.lt g rfl).2,an,_,cn,z,_,A,(f 0 Oa).trans r,(f 1 Oa).trans s,(f 2 Oa).trans x2,(f 3 Oa).trans x3,(f 4 Oa).trans p,Am.bB t λi hi=>?_,Bh u rfl v.1.2.1⟩;rw[Dw _ i hi];exact v.1.2.2 _<|zI hi
theorem CZ{lo n:Nat}{a:M3}{L:Nz}(h:jP w lo 97 4 (X a n c) n<|Bg L)(d:Y L=n)(f:n<=1048576)(ok:∀s∈L,s.name.size<=1048576):Lr w a n c L:=by refine⟨d,f,ok,λj i=>?_⟩;have b:=MI L j i;have k:=b 0 Ob;have l:=b 1 Ob;have x2:=b 2 Ob;have x3:=b 3 Ob;simp only[ze,yA,z5]at k l x2 x3;obtain⟨x,m,e,hx⟩:=Af h;cases e;obtain⟨g,rfl,hg,hc⟩:=hx Oa;refine⟨g,0,rfl,(h.lt g rfl).2,?_,?_,?_,?_⟩;all_goals grind
theorem BO.cE{c w2:jD}{lo:Nat}{v v':jF}{a:N4}(h:BO c lo v N a b)(hu:jP c lo 9 1 u (Y x.aE)<|x.aE.map Value.string)(z:jP c lo 3 1 k (Y x.aC)<|Ap x.aC)(A:∀j,(d:j<Y a)->∀q,jO a[j]=Z q->jO u≠Z q)(B:∀j,(d:j<Y b)->∀q,jO b[j]=Z q->jO k≠Z q)(p:jP w2 lo 112 5 v' (Y N+1)<|Fy N a b++NM x u k)(hg:c.grownBy w2<|jO v):BO w2 lo v' (N++[x]) (a++[u])<|b++[k]:=by
 have l:=h.len;have m:=h.bL;have r:∀{n:Nat}{y:jF}{f:N4},jP c lo 9 1 y n f->jP w2 lo 9 1 y n f:=λo=>Ac o λq hq=>hg.block q (o.lt q hq).2 λe=>Ao o h.bG Ob q hq e.symm;have s:∀{n:Nat}{y:jF}{f:N4},jP c lo 3 1 y n f->jP w2 lo 3 1 y n f:=λo=>Ac o λq hq=>hg.block q (o.lt q hq).2 λe=>Ao o h.bG Ob q hq e.symm;refine⟨by simp[l],by simp[m],by rw[zC,yF,MT _ _ _ _ _ _ l m];exact p,λj d t=>?_,λj d t=>?_,λi j w d q hq=>?_,λi j w d q hq=>?_⟩
 .by_cases g:j<Y a
  .have a1:(a++[u])[j]=a[j]:=zg g;have a2:(N++[x])[j]=N[j]' Oa:=zg Oa;rw[a1,a2];exact r<|h.aE j Oa g
  grind
 .by_cases g:j<Y b
  .have a1:(b++[k])[j]=b[j]:=zg g;have a2:(N++[x])[j]=N[j]' Oa:=zg Oa;rw[a1,a2];exact s<|h.aC j Oa g
  grind
 all_goals grind[BO.bH,BO.dL]
structure PC(w:jD)(B nb:Nat)(N:M7)(P:M4)(nd pl:jF)(nv kv:N4):Prop where
 row:Ah w nb #[nd,pl] 235
 aK:BO w B nd N nv kv
 bF:jP w B 3 1 pl (Y P)<|Ap P
 bH:∀q,jO pl=Z q->∀j,(hj:j<Y kv)->jO kv[j]≠Z q
 aP:B<=nb
structure Nk(B nb:Nat)(nd pl:jF)(w:jD)(nd' pl':jF)(w':jD):Prop where
 aP:Below B w w'
 block:∀k,k<R (Q w)->k≠nb->jO nd≠Z k->jO pl≠Z k->(Q w')[k]?=(Q w)[k]?newN:∀q,jO nd'=Z q->jO nd=Z q\/R (Q w)<=q
 newP:∀q,jO pl'=Z q->jO pl=Z q\/R (Q w)<=q
theorem Nk.refl(B a:Nat)(nd pl:jF)(w:jD):Nk B a nd pl w nd pl w:=⟨BRN,λ_ _ _ _ _=>rfl,λq h=>.inl h,λq h=>.inl h⟩
theorem Nk.trans{B a:Nat}{nd pl b c d f:jF}{w g w2:jD}(h:Nk B a nd pl w b c g)(k:Nk B a b c g d f w2):Nk B a nd pl w d f w2:=by have hz:=h.aP.size;refine⟨h.aP.trans k.aP,λq h1 h2 h3 h4=>?_,λq hq=>?_,λq hq=>?_⟩;all_goals grind[Nk.newN,Nk.block,Nk.newP]
theorem Nk.bK{nd:jF}(h:Ak w w')(hB:B<=R (Q w)):Nk B a nd pl w nd pl w':=⟨h.mono hB,λk h1 _ _ _=>h.block k h1,λq hq=>.inl hq,λq hq=>.inl hq⟩
theorem PC.below{b:Nat}{nd:jF}{c d:N4}(h:PC w B b N P nd pl c d)(a:Ak w w'):PC w' B b N P nd pl c d:=⟨h.row.aB a NLN,h.aK.bJ λk _ f=>a.block k f,Ac h.bF λq hq=>a.block q (h.bF.lt q hq).2,h.bH,h.aP⟩
theorem Nk.row{B a:Nat}{nd pl c d:jF}{w w':jD}{N:M7}{P:M4}{f i:N4}(h:Nk B a nd pl w c d w')(C:PC w B a N P nd pl f i){g:Nat}{cs:Array jF}{t:TypeId}(R:Ah w g cs t)(h1:t≠235)(h2:t≠112)(h3:t≠3):Ah w' g cs t:=⟨(h.block g R.lt (λe=>by have b:=R.out;have r2:=C.row.out;rw[e]at b;rw[b]at r2;injection r2 with r2;injection r2 with _ r2;exact h1 r2) (Ad R C.aK.bG h2)<|Ad R C.bF h3).trans R.out⟩
structure Kn(B nb:Nat)(g:M3)(w:jD)(nd pl:jF)(N:M7)(P:M4)(nd1 pl1:jF)(nv kv:N4)(kw:jF)(ks:M4)(vs:N4)(w2:jD):Prop where
 C:PC w2 B nb N P nd1 pl1 nv kv
 K:Nk B nb nd pl w nd1 pl1 w2
 Rr:KdR (R<|Q w) w2 g vs
 O:jP w2 (R<|Q w) 3 1 kw (Y ks)<|Ap ks
 ap:∀q,jO kw=Z q->jO pl1≠Z q/\∀j,(hj:j<Y kv)->jO kv[j]≠Z q
theorem Kn.call{w2 b:jD}{nd n o i k l:jF}{M:M7}{p:M4}{c d:N4}{vs:N4}(h:Kn B a g w nd pl N P n o m c l ks vs w2)(u:PC b B a (N++M) (P++p) i k (m++r)<|c++d)(f:Nk B a n o w2 i k b)(v:∀j,(s:j<Y d)->∀q,jO d[j]=Z q->R (Q w2)<=q):Kn B a g w nd pl (N++M) (P++p) i k (m++r) (c++d) l ks vs b:=by
 have x:jP b (R<|Q w) 3 1 l (Y ks)<|Ap ks:=Ac h.O λq hq=>f.block q (h.O.lt q hq).2 (λe=>Ad h.C.row h.O Ob Q2) (λe=>Ao h.O h.C.aK.bG Ob q hq e) (h.ap q hq).1;refine⟨u,h.K.trans f,h.Rr.aV λg cs _ y=>f.row h.C y Ob Ob Ob,x,λq hq=>⟨λe=>?_,λj s e=>?_⟩⟩
 .obtain e|e:=f.newP q e
  .exact(h.ap q hq).1 e
  have:=(h.O.lt q hq).2;omega
 by_cases t:j<Y c
 .rw[zg t]at e;exact(h.ap q hq).2 j t e
 rw[Z2 Oa]at e;have:=v _ (by simp at s;omega) q e;have:=(h.O.lt q hq).2;omega
theorem Kn.app{f:Nat}{w2:jD}{nd m n:jF}{p vs:N4}{ks:M4}{a:Int}{gk:Nat}(h:Kn B f g w nd pl N P m n p vs d ks r w2)(hB:B<=R (Q w))(t:jP i (R<|Q w) 3 1 (X (Z<|jB gk 0 V) (Y ks+1) cap) (Y ks+1)<|Ap ks++[T U a])(hg:(jK w2 o).grownBy i<|jO d)(hat:jO d=Z gk\/gk=R (Q w2)+1):Kn B f g w nd pl N P m n p vs (X (Z<|jB gk 0 V) (Y ks+1) cap) (ks++[a]) r i:=by
 have hz:=h.K.aP.size;have s:R (Q<|jK w2 o)=R (Q w2)+1:=Oz;have c:∀q,q<R (Q w2)->jO d≠Z q->(Q i)[q]?=(Q w2)[q]?:=λq h1 h2=>(hg.block q (by rw[s];omega) λe=>h2 e.symm).trans<|Below.heap_alloc w2 o q h1;have C:=h.C;have u:jO d≠Z f:=Ad C.row h.O Ob;refine⟨⟨⟨(c f C.row.lt u).trans C.row.out⟩,?_,?_,C.bH,C.aP⟩,⟨?_,λq h1 h2 h3 h4=>?_,h.K.newN,h.K.newP⟩,h.Rr.aV λg cs _ k=>⟨(c g k.lt<|Ad k h.O Ob).trans k.out⟩,by rw[zC];simpa[Ap]using t,λq hq=>?_⟩
 .exact C.aK.cJ (λq hq=>c q (C.aK.cF.1 q hq).2 λe=>Ao h.O C.aK.bG Ob q e hq) (λj b q hq=>c q (C.aK.cF.2.1 j b q hq).2 λe=>Ao h.O (C.aK.aE j (by rw[<-C.aK.len];exact b) b) Ob q e hq) (λj b q hq=>c q (C.aK.cF.2.2 j b q hq).2 λe=>(h.ap q e).2 j b hq)
 .exact Ac C.bF (λq hq=>c q (C.bF.lt q hq).2 λe=>(h.ap q e).1 hq)
 .exact(h.K.aP.alloc (zB hB hz) o).grown hg (by rw[s];omega) (λq hq=>G7<|(h.O.lt q hq).1)
 .have v:=zG h1 hz;refine(c q v λe=>G7<|(h.O.lt q e).1).trans (h.K.block q h1 h2 h3 h4)
 have e:gk=q:=P1;subst e;obtain e|e:=hat
 .exact h.ap gk e
 refine⟨λl=>?_,λj b l=>?_⟩
 .have:=(C.bF.lt gk l).2;omega
 have:=(C.aK.cF.2.2 j b gk l).2;omega
theorem Au{a b:jD}{row:Wa}(hg:(jK a o).grownBy b row):∀q,q<R (Q a)->row≠Z q->(Q b)[q]?=(Q a)[q]?:=λq h1 h2=>(hg.block q Od λe=>h2 e.symm).trans<|Below.heap_alloc a o q h1
theorem PC.cS{b c:jD}{g7 c7:Nat}{nd:jF}{h f:N4}(C:PC b B a N P nd pl h f)(o:Obj)(hB:B<=R (Q b))(hu:jP b B 9 1 u (Y x.aE)<|x.aE.map Value.string)(m:jP b B 3 1 k (Y x.aC)<|Ap x.aC)(s:∀j,(d:j<Y h)->∀q,jO h[j]=Z q->jO u≠Z q)(t:∀j,(d:j<Y f)->∀q,jO f[j]=Z q->jO k≠Z q)(v:∀q,jO k=Z q->jO pl≠Z q)(hg:(jK b o).grownBy c<|jO nd)(w:jP c B 112 5 (X (Z<|jB g7 0 V) (Y N+1) c7) (Y N+1)<|Fy N h f++NM x u k)(hat:jO nd=Z g7\/g7=R (Q b)+1):PC (jM c (jB a 0 V)<|X (Z<|jB g7 0 V) (Y N+1) c7) B a (N++[x]) P (X (Z<|jB g7 0 V) (Y N+1) c7) pl (h++[u]) (f++[k])/\Nk B a nd pl b (X (Z<|jB g7 0 V) (Y N+1) c7) pl (jM c (jB a 0 V)<|X (Z<|jB g7 0 V) (Y N+1) c7):=by
 have l:=Ar b o;have y:=C.below l;have z:=Ac (w':=jK b o) hu λq hq=>l.block q (hu.lt q hq).2;have A:=Ac (w':=jK b o) m λq hq=>l.block q (m.lt q hq).2;have D:jO nd≠Z a:=Ad C.row C.aK.bG Ob;have i:Ah c a #[nd,pl] 235:=⟨(Au hg a C.row.lt D).trans C.row.out⟩;have g:=y.aK.cE z A s t w hg;have n:jP c B 3 1 pl (Y P)<|Ap P:=Ac C.bF λq hq=>Au hg q (C.bF.lt q hq).2 λe=>Ao C.bF C.aK.bG Ob q hq e;have sc:∀q,q≠a->(Q<|jM c (jB a 0 V)<|X (Z<|jB g7 0 V) (Y N+1) c7)[q]?=(Q c)[q]?:=λq hq=>L2 c (jB a 0 V) q _ hq;refine⟨⟨i.set 0 _,g.cJ (λq hq=>sc q λe=>Ad i g.bG Ob Q2) (λj d q hq=>sc q λe=>Ad i (g.aE j (by rw[<-g.len];exact d) d) Ob Q2) λj d q hq=>sc q λe=>Ad i (g.aC j (by rw[<-g.bL];exact d) d) Ob Q2,Ac n λq hq=>sc q λe=>Ad i n Ob Q2,λq hq j d e=>?_,C.aP⟩,⟨?_,λq h1 h2 h3 h4=>(sc q h2).trans<|Au hg q h1 h3,λq hq=>?_,λq hq=>.inl hq⟩⟩
 .by_cases r:j<Y f
  .rw[zg r]at e;exact C.bH q hq j r e
  have E:j=Y f:=by simp at d;omega
  subst E;simp at e;exact v q e hq
 .exact((l.mono hB).grown hg Od λq hq=>(C.aK.cF.1 q hq).1).setCell (p:=(jB a 0 V)) C.aP _
 have e:g7=q:=P1;subst e;exact hat.imp id λe=>Oa
theorem PC.pushP{f d:jD}{c g7 c7:Nat}{nd:jF}{i k:N4}(C:PC f B c N P nd pl i k)(o:Obj)(a:Int)(hB:B<=R (Q f))(hg:(jK f o).grownBy d<|jO pl)(l:jP d B 3 1 (X (Z<|jB g7 0 V) (Y P+1) c7) (Y P+1)<|Ap P++[T U a])(hat:jO pl=Z g7\/g7=R (Q f)+1):PC (jM d (jB c 1 V)<|X (Z<|jB g7 0 V) (Y P+1) c7) B c N (P++[a]) nd (X (Z<|jB g7 0 V) (Y P+1) c7) i k/\Nk B c nd pl f nd (X (Z<|jB g7 0 V) (Y P+1) c7) (jM d (jB c 1 V)<|X (Z<|jB g7 0 V) (Y P+1) c7):=by
 have m:=Ar f o;have n:jO pl≠Z c:=Ad C.row C.bF Ob;have h:Ah d c #[nd,pl] 235:=⟨(Au hg c C.row.lt n).trans C.row.out⟩;have sc:∀q,q≠c->(Q<|jM d (jB c 1 V)<|X (Z<|jB g7 0 V) (Y P+1) c7)[q]?=(Q d)[q]?:=λq hq=>L2 d (jB c 1 V) q _ hq;have g:BO d B nd N i k:=C.aK.cJ (λq hq=>Au hg q (C.aK.cF.1 q hq).2 λe=>Ao C.bF C.aK.bG Ob q e hq) (λj b q hq=>Au hg q (C.aK.cF.2.1 j b q hq).2 λe=>Ao C.bF (C.aK.aE j (by rw[<-C.aK.len];exact b) b) Ob q e hq) λj b q hq=>Au hg q (C.aK.cF.2.2 j b q hq).2 λe=>C.bH q e j b hq;refine⟨⟨h.set 1 _,g.cJ (λq hq=>sc q λe=>Ad h g.bG Ob Q2) (λj b q hq=>sc q λe=>Ad h (g.aE j (by rw[<-g.len];exact b) b) Ob Q2) λj b q hq=>sc q λe=>Ad h (g.aC j (by rw[<-g.bL];exact b) b) Ob Q2,?_,λq hq j b e=>?_,C.aP⟩,⟨?_,λq h1 h2 h3 h4=>(sc q h2).trans<|Au hg q h1 h4,λq hq=>.inl hq,λq hq=>?_⟩⟩
 .have:=Ac (w':=jM d (jB c 1 V)<|X (Z<|jB g7 0 V) (Y P+1) c7) l λq hq=>sc q λe=>Ad h l Ob Q2;simpa[Ap]using this
 .have r:g7=q:=P1;subst r;obtain h1|h1:=hat
  .exact C.bH g7 h1 j b e
  have:=(C.aK.cF.2.2 j b g7 e).2;omega
 .exact((m.mono hB).grown hg Od λq hq=>(C.bF.lt q hq).1).setCell (p:=(jB c 1 V)) C.aP _
 have e:g7=q:=P1;subst e;exact hat.imp id λe=>Oa
def Lh(k:Nat):M1:=[⟨#[108,101,118,101,108]⟩,⟨#[110,111,119]⟩,⟨#[99,108,105,101,110,116]⟩,⟨#[117,115,101,114]⟩,⟨#[97,115,107,101,100]⟩,⟨#[97,103,114,101,101,100]⟩].getD k ⟨#[]⟩
def FP(L:List<|M1×Int)(ty x:Int):Nat->M2 M1|0=>V|i+1=>if(L.getD i (⟨#[]⟩,0)).2=ty/\((i:Int)+x)%2=0 then Z (L.getD i (⟨#[]⟩,0)).1 else FP L ty x i
def Agb(zs:M4):Nat->Nat->Int->Int×Nat|0,p,v=>(v,p)|k+1,p,v=>Agb zs k (nx zs p).2<|bits .or U (wrap64<|v*256) (nx zs p).1
def To(zs:M4)(x:Int)(p:Nat):Int×Nat:=if x%8=0 then (9223372036854775807-x/8%3,p)else if x%8=1 then (-9223372036854775808+x/8%3,p)else if x%8=2 then (x/8%3,p)else if x%8=3 then (-(x/8%3),p)else if x%8=4 then ((nx zs p).1*16777216+(nx zs (nx zs p).2).1,(nx zs (nx zs p).2).2)else if x%8=5 then Agb zs 8 p 0 else if x%8=6 then (3037000499+x/8%3,p)else (x-128,p)
def AdU(zs:M4)(p:Nat):Int×Nat:=To zs (nx zs p).1 (nx zs p).2
def AiZ(y:Int):Int:=if y<0 then-(y+1)else y
def Pj(zs:M4)(L:List<|M1×Int)(ty x:Int)(p:Nat)(y:Nd)(q:Nat):Prop:=if x%3=2/\(FP L ty x<|Y L).isSome=true then Z y.text=FP L ty x (Y L)/\y=⟨5,0,y.text,[],[]⟩/\q=p else if x%3=1/\ty≠1 then y=⟨5,0,Lh ((ty-2)*2+x/3%2).toNat,[],[]⟩/\q=p else if ty=1 then y=⟨3,x/3%2,⟨#[]⟩,[],[]⟩/\q=p else if ty=3 then (if 250<x then y=⟨2,0,⟨#[]⟩,[],[]⟩/\q=p else y=⟨2,0,(GW zs p).1,[],[]⟩/\q=(GW zs p).2)else if ty=4 then y=⟨4,0,⟨#[]⟩,y.aE,[]⟩/\XQ zs p y.aE q else if 220<x then y=⟨1,AiZ (AdU zs p).1,⟨#[]⟩,[],[]⟩/\q=(AdU zs p).2 else y=⟨1,x/3%6,⟨#[]⟩,[],[]⟩/\q=p
theorem Pj.aM{zs:M4}{L:List (M1×Int)}{ty x:Int}{p q d:Nat}{y b:Nd}(h:Pj zs L ty x p y q)(a:Pj zs L ty x p b d):y=b/\q=d:=by
 unfold Pj at h a;split at h
 .rename_i c;rw[K1 c]at a;have e:y.text=b.text:=Mk<|h.1.trans a.1.symm;exact⟨by rw[h.2.1,a.2.1,e],by rw[h.2.2,a.2.2]⟩
 rename_i c;rw[K0 c]at a;split at h
 .rename_i c;rw[K1 c]at a;exact⟨by rw[h.1,a.1],by rw[h.2,a.2]⟩
 rename_i c;rw[K0 c]at a;split at h
 .rename_i c;rw[K1 c]at a;exact⟨by rw[h.1,a.1],by rw[h.2,a.2]⟩
 rename_i c;rw[K0 c]at a;split at h
 .rename_i c;rw[K1 c]at a;split at h
  .rename_i c;rw[K1 c]at a;exact⟨by rw[h.1,a.1],by rw[h.2,a.2]⟩
  rename_i c;rw[K0 c]at a;exact⟨by rw[h.1,a.1],by rw[h.2,a.2]⟩
 rename_i c;rw[K0 c]at a;split at h
 .rename_i c;rw[K1 c]at a;obtain⟨e1,e2⟩:=h.2.aM a.2;exact⟨by rw[h.1,a.1,e1],e2⟩
 rename_i c;rw[K0 c]at a;split at h
 .rename_i c;rw[K1 c]at a;exact⟨by rw[h.1,a.1],by rw[h.2,a.2]⟩
 rename_i c;rw[K0 c]at a;exact⟨by rw[h.1,a.1],by rw[h.2,a.2]⟩
def CN(zs:M4)(L:List<|M1×Int)(ty:Int)(p:Nat)(N:M7)(q:Nat)(N':M7):Prop:=∃y,Pj zs L ty (nx zs p).1 (nx zs p).2 y q/\N'=N++[y]
theorem CN.aM{zs:M4}{L:List (M1×Int)}{ty:Int}{p q a:Nat}{N M b:M7}(h:CN zs L ty p N q M)(c:CN zs L ty p N a b):q=a/\M=b:=by obtain⟨y,h1,rfl⟩:=h;obtain⟨f,d,rfl⟩:=c;obtain⟨rfl,rfl⟩:=h1.aM d;exact⟨rfl,rfl⟩
def opN(op:Int)(ks:M4):Nd:=⟨op,0,⟨#[]⟩,[],ks⟩
def Dn(N:M7):Int:=(Y N:Int)-1
def Li(ty x:Int):M2<|Int×Int×N8:=if ty=1 then if x/8%8=0\/x/8%8=1 then Z (25+x/8/8%2,ty,Z ty)else if x/8%8=2 then Z (26,ty,Z ty)else if x/8%8=3 then Z (9,ty,V)else if x/8%8=4 then Z (23,3,Z 4)else if x/8%8=5 then Z (24,4,Z 4)else if x/8%8=6 then Z (21+x/8/8%2,2,Z 2)else Z (19+x%2,1+x/8/8,Z<|1+x/8/8)else if ty=2 then if x/8%8=6 then Z (10,4,V)else if x/8%8=7 then Z (8,ty,V)else Z (11+x/8%5,ty,Z ty)else if ty=4 then Z (16+x/8%3,ty,Z ty)else V
abbrev Drw:=Int->Nat->M7->Nat->M7->Prop
def Uv(Lf E:Drw)(ty x:Int)(p:Nat)(N:M7)(q:Nat)(N':M7):Prop:=if x%8=7 then ∃q1 N1 q2 N2 N3,E 1 p N q1 N1/\E ty q1 N1 q2 N2/\E ty q2 N2 q N3/\N'=N3++[opN 27 [Dn N1,Dn N2,Dn N3]]else if x%8<2 then Lf ty p N q N' else match Li ty x with|none=>Lf ty p N q N'|some (op,t1,V)=>∃N1,E t1 p N q N1/\N'=N1++[opN op [Dn N1]]|some (op,t1,Z t2)=>∃q1 N1 N2,E t1 p N q1 N1/\E t2 q1 N1 q N2/\N'=N2++[opN op [Dn N1,Dn N2]]
def NL(zs:M4)(L:List<|M1×Int)(wild:Bool):Nat->Drw|0=>CN zs L|d+1=>λty p N q N'=>if Y zs<=p\/300<Y N then CN zs L ty p N q N' else Uv (CN zs L) (NL zs L wild d) (if wild=true/\(nx zs p).1=201 then 1+ty%4 else ty) (nx zs p).1 (nx zs p).2 N q N'
def Uni(E:Drw):Prop:=∀(ty:Int) (p q q':Nat) (N M M':M7),E ty p N q M->E ty p N q' M'->q=q'/\M=M'
theorem Uv.aM{d f:Drw}(g:Uni d)(b:Uni f){ty x:Int}{p q i:Nat}{M j:M7}(h:Uv d f ty x p N q M)(a:Uv d f ty x p N i j):q=i/\M=j:=by
 unfold Uv at h a;split at h
 .rename_i c;rw[K1 c]at a;obtain⟨m,k,u,n,v,a1,a2,a3,rfl⟩:=h;obtain⟨r,l,w,t,y,b1,b2,b3,rfl⟩:=a;obtain⟨rfl,rfl⟩:=b _ _ _ _ _ _ _ a1 b1;obtain⟨rfl,rfl⟩:=b _ _ _ _ _ _ _ a2 b2;obtain⟨rfl,rfl⟩:=b _ _ _ _ _ _ _ a3 b3;exact⟨rfl,rfl⟩
 rename_i c;rw[K0 c]at a;split at h
 .rename_i c;rw[K1 c]at a;exact g _ _ _ _ _ _ _ h a
 rename_i c;rw[K0 c]at a;cases hs:Li ty x with|none=>rw[hs]at h a;exact g _ _ _ _ _ _ _ h a|some s=>obtain⟨op,z,o⟩:=s;rw[hs]at h a;cases o with|none=>obtain⟨k,a1,rfl⟩:=h;obtain⟨l,b1,rfl⟩:=a;obtain⟨rfl,rfl⟩:=b _ _ _ _ _ _ _ a1 b1;exact⟨rfl,rfl⟩|some A=>obtain⟨m,k,n,a1,a2,rfl⟩:=h;obtain⟨r,l,t,b1,b2,rfl⟩:=a;obtain⟨rfl,rfl⟩:=b _ _ _ _ _ _ _ a1 b1;obtain⟨rfl,rfl⟩:=b _ _ _ _ _ _ _ a2 b2;exact⟨rfl,rfl⟩
theorem NL.aM(zs:M4)(L:List<|M1×Int)(wild:Bool):∀d,Uni (NL zs L wild d)
 |0=>λ_ _ _ _ _ _ _ h f=>CN.aM h f|d+1=>λ_ _ _ _ _ _ _ h f=>by
  unfold NL at h f;split at h
  .rename_i c;rw[K1 c]at f;exact h.aM f
  rename_i c;rw[K0 c]at f;exact Uv.aM (λ_ _ _ _ _ _ _ a b=>CN.aM a b) (NL.aM zs L wild d) h f
def Tp(zs:M4)(L:List<|M1×Int):Nat->Nat->M7->Nat->M7->Prop|0,p,N,q,N'=>False|1,p,N,q,N'=>CN zs L 1 p N q N'|k+2,p,N,q,N'=>∃N1,Tp zs L (k+1) p N q N1/\N'=N1++[opN 9 [Dn N1]]
theorem Tp.aM{zs:M4}{L:List (M1×Int)}:∀{k p q a:Nat}{N M b:M7},Tp zs L k p N q M->Tp zs L k p N a b->q=a/\M=b|0,_,_,_,_,_,_,h,_=>O6|1,_,_,_,_,_,_,h,h'=>CN.aM h h'|k+2,_,_,_,_,_,_,h,h'=>by obtain⟨c,a1,rfl⟩:=h;obtain⟨d,b1,rfl⟩:=h';obtain⟨rfl,rfl⟩:=Tp.aM a1 b1;exact⟨rfl,rfl⟩
def Wv(x:Nd):Prop:=okN x/\x.text.size<=1000000/\x.num<=9223372036854775807/\Y x.aE<=64/\(∀s∈x.aE,s.size<=1000)/\Y x.aC<=3
def Tq(L:List<|M1×Int):N4:=L.flatMap λx=>[jA x.1,T U x.2]
theorem AdW(L:List<|M1×Int)(x:M1×Int):Tq (L++[x])=Tq L++[jA x.1,T U x.2]:=by simp[Tq]
theorem Acp:∀(L:List<|M1×Int)(j:Nat)(h:j<Y L),(Tq L)[j*2]?=Z (jA L[j].1)/\(Tq L)[j*2+1]?=Z (T U L[j].2)|x::L,0,_=>⟨rfl,rfl⟩|x::L,j+1,h=>by have a:=Acp L j P4;have e1:(j+1)*2=j*2+2:=Oa;rw[e1];exact a
structure Tr(w:jD)(B R gb:Nat)(a:M3)(n c:Nat)(zs:M4)(p:Nat)(N:M7)(L:List (M1×Int))(nd lt:jF)(nv kv:N4)(wild:Bool):Prop where
 row:Ah w gb #[jQ<|Z<|jB R 0 V,nd,lt,.bool wild] 151
 rd:JF w R a n c zs p
 aK:BO w B nd N nv kv
 aQ:jP w B 222 2 lt (Y L)<|Tq L
 aP:(B<=gb/\B<=R)/\(0<n->∀q,a=Z q->Addr.block q<B)bP:(∀x∈N,Wv x)/\∀x∈L,x.1.size<=1000
structure Gk(B R gb:Nat)(lt nd:jF)(w:jD)(nd':jF)(w':jD):Prop where
 aP:Below B w w'
 block:∀k,k<jh (Q w)->k≠gb->k≠R->jO nd≠Z k->jO lt≠Z k->(Q w')[k]?=(Q w)[k]?newN:∀q,jO nd'=Z q->jO nd=Z q\/jh (Q w)<=q
theorem Gk.trans{B R a:Nat}{lt nd b c:jF}{w d w2:jD}(h:Gk B R a lt nd w b d)(k:Gk B R a lt b d c w2):Gk B R a lt nd w c w2:=by
 refine⟨h.aP.trans k.aP,λq h1 h2 h3 h4 h5=>?_,λq hq=>?_⟩
 .refine(k.block q (zG h1 h.aP.size) h2 h3 (λe=>?_) h5).trans (h.block q h1 h2 h3 h4 h5);grind[Gk.newN]
 obtain e|e:=k.newN q hq
 .exact h.newN q e
 have:=h.aP.size;exact .inr Oa
theorem Gk.aU{R a:Nat}{nd:jF}(h:Ak w w')(hB:B<=jh (Q w)):Gk B R a lv nd w nd w':=⟨h.mono hB,λk h1 _ _ _ _=>h.block k h1,λq hq=>.inl hq⟩
theorem Gk.bV{R a:Nat}{nd:jF}(h:AJ R (R+1) w w')(hB:B<=R)(b:R<jh (Q w)):Gk B R a lv nd w nd w':=⟨⟨h.os,h.tape,h.output,h.size,λk c=>h.block k Oa<|.inl Oa⟩,λk h1 _ h3 _ _=>h.block k h1 Oa,λq hq=>.inl hq⟩
theorem Tr.below{R d:Nat}{a:M3}{n c:Nat}{zs:M4}{nd:jF}{f g:N4}(h:Tr w B R d a n c zs p N L nd pl f g wild)(b:Ak w w'):Tr w' B R d a n c zs p N L nd pl f g wild:=⟨h.row.aB b NLN,h.rd.aB b h.rd.lt,h.aK.bJ λk _ i=>b.block k i,Ac h.aQ λq hq=>b.block q (h.aQ.lt q hq).2,h.aP,h.bP⟩
theorem Dj{b c:Nat}{cs d:Array jF}{t u:TypeId}(h:Ah w b cs t)(k:Ah w c d u)(f:t≠u):b≠c:=λe=>by have a:=h.out;have r2:=k.out;rw[e]at a;rw[a]at r2;injection r2 with r2;injection r2 with _ r2;exact f r2
theorem Tr.bM{R g:Nat}{a:M3}{n c:Nat}{zs:M4}{nd:jF}{i k:N4}(h:Tr w B R g a n c zs p N L nd pl i k wild)(t:AJ R (R+1) w w')(r:JF w' R a n c zs q):Tr w' B R g a n c zs q N L nd pl i k wild:=by have l:=h.rd;have d:∀q,q<jh (Q w)->q≠R->(Q w')[q]?=(Q w)[q]?:=λq h1 h2=>t.block q h1 Oa;have f:∀{e size m:Nat}{v:jF}{s:N4},jP w B e size v m s->78≠e->∀q,jO v=Z q->q≠R:=λo u q hq e=>Ad l.row o u Q2;exact⟨⟨(d g h.row.lt<|Dj h.row l.row Ob).trans h.row.out⟩,r,h.aK.cJ (λq hq=>d q (h.aK.cF.1 q hq).2<|f h.aK.bG Ob q hq) (λj b q hq=>d q (h.aK.cF.2.1 j b q hq).2<|f (h.aK.aE j (by rw[<-h.aK.len];exact b) b) Ob q hq) (λj b q hq=>d q (h.aK.cF.2.2 j b q hq).2<|f (h.aK.aC j (by rw[<-h.aK.bL];exact b) b) Ob q hq),Ac h.aQ (λq hq=>d q (h.aQ.lt q hq).2<|f h.aQ Ob q hq),h.aP,h.bP⟩
theorem Tr.cS{f g:jD}{R d g7:Nat}{a:M3}{n c:Nat}{zs:M4}{p:Nat}{nd:jF}{r:N4}(C:Tr f B R d a n c zs p N L nd pl m r wild)(o:Obj)(hB:B<=jh (Q f))(hu:jP f B 9 1 u (Y x.aE)<|x.aE.map Value.string)(v:jP f B 3 1 k (Y x.aC)<|Ap x.aC)(D:∀j,(h:j<Y m)->∀q,jO m[j]=Z q->jO u≠Z q)(E:∀j,(h:j<Y r)->∀q,jO r[j]=Z q->jO k≠Z q)(hx:Wv x)(hg:(jK f o).grownBy g<|jO nd)(F:jP g B 112 5 (X (Z<|jB g7 0 V) (Y N+1) c7) (Y N+1)<|Fy N m r++NM x u k)(hat:jO nd=Z g7\/g7=jh (Q f)+1):Tr (jM g (jB d 1 V)<|X (Z<|jB g7 0 V) (Y N+1) c7) B R d a n c zs p (N++[x]) L (X (Z<|jB g7 0 V) (Y N+1) c7) pl (m++[u]) (r++[k]) wild/\Gk B R d pl nd f (X (Z<|jB g7 0 V) (Y N+1) c7) (jM g (jB d 1 V)<|X (Z<|jB g7 0 V) (Y N+1) c7):=by
 have t:=Ar f o;have G:=C.below t;have H:=Ac (w':=jK f o) hu λq hq=>t.block q (hu.lt q hq).2;have I:=Ac (w':=jK f o) v λq hq=>t.block q (v.lt q hq).2;have J:jO nd≠Z d:=Ad C.row C.aK.bG Ob;have s:Ah g d #[jQ<|Z<|jB R 0 V,nd,pl,.bool wild] 151:=⟨(Au hg d C.row.lt J).trans C.row.out⟩;have l:=G.aK.cE H I D E F hg;have w:jP g B 222 2 pl (Y L)<|Tq L:=Ac C.aQ λq hq=>Au hg q (C.aQ.lt q hq).2 λe=>Ao C.aQ C.aK.bG Ob q hq e;have sc:∀q,q≠d->(Q<|jM g (jB d 1 V)<|X (Z<|jB g7 0 V) (Y N+1) c7)[q]?=(Q g)[q]?:=λq hq=>L2 g (jB d 1 V) q _ hq;have i:=C.rd;have K:R≠d:=Dj i.row C.row Ob;have z:Below B f<|jM g (jB d 1 V)<|X (Z<|jB g7 0 V) (Y N+1) c7:=((t.mono hB).grown hg Od λq hq=>(C.aK.cF.1 q hq).1).setCell (p:=(jB d 1 V)) C.aP.1.1 _;refine⟨⟨s.set 1 _,?_,l.cJ (λq hq=>sc q λe=>Ad s l.bG Ob Q2) (λj h q hq=>sc q λe=>Ad s (l.aE j (by rw[<-l.len];exact h) h) Ob Q2) λj h q hq=>sc q λe=>Ad s (l.aC j (by rw[<-l.bL];exact h) h) Ob Q2,Ac w λq hq=>sc q λe=>Ad s w Ob Q2,C.aP,⟨λy hy=>?_,C.bP.2⟩⟩,⟨?_,λq h1 h2 _ h3 _=>(sc q h2).trans<|Au hg q h1 h3,λq hq=>?_⟩⟩
 .refine⟨⟨((sc R K).trans<|Au hg R i.row.lt<|Ad i.row C.aK.bG Ob).trans i.row.out⟩,i.len,i.le,i.aH,λj h=>?_⟩;obtain⟨b,A,e1,e2,e3,e4⟩:=i.cells j h;exact⟨b,A,e1,e2,(z.cell (p:=⟨b,A+j,V⟩)<|show b<B from C.aP.2 Oa _ e1).trans e3,e4⟩
 .grind[Tr.bP]
 .exact z
 have e:g7=q:=P1;grind
theorem Agc(n k:Nat)(h:k<n):n-(intOf<|T U<|(k:Int)+1).toNat<n-(intOf<|T U (k:Int)).toNat:=by simp[intOf];omega
def GY:Ex->Nat->M7|.un i op k,b=>GY k b++[⟨op,0,⟨#[]⟩,[],[((b+k.aL-1:Nat):Int)]⟩]|.bin i op l r,b=>GY l b++GY r (b+l.aL)++[⟨op,0,⟨#[]⟩,[],[((b+l.aL-1:Nat):Int),((b+l.aL+r.aL-1:Nat):Int)]⟩]|.ite i c t e,b=>GY c b++GY t (b+c.aL)++GY e (b+c.aL+t.aL)++[⟨27,0,⟨#[]⟩,[],[((b+c.aL-1:Nat):Int),((b+c.aL+t.aL-1:Nat):Int),((b+c.aL+t.aL+e.aL-1:Nat):Int)]⟩]|e,_=>[exN e]
def plE:Ex->M4|.int i _=>[i]|.text i _=>[i]|.bool i _=>[i]|.set i ..=>[i]|.name i _=>[i]|.attr i _=>[i]|.lett i _=>[i]|.un i _ k=>plE k++[i]|.bin i _ l r=>plE l++plE r++[i]|.ite i c t e=>plE c++plE t++plE e++[i]
theorem Vz:(jZ.info? 112).map (λi=>(i.zero,i.size,i.bytes))=Z (Z<|.agg #[T U 0,T U 0,jA ByteArray.empty,X V 0 0,X V 0 0],5,80):=Ok
theorem EG(w:jD):Ak w<|jV w:=⟨rfl,rfl,rfl,NLN,λ_ _=>rfl⟩
def AdO(B nb:Nat)(N:M7)(P:M4)(nd pl:jF)(nv kv:N4)(M:M7)(Q:M4)(w:jD)(r:Ending)(w':jD):Prop:=r=.returned (T U ((Y N+Y M-1:Nat):Int))/\∃nd' pl' nv' kv',PC w' B nb (N++M) (P++Q) nd' pl' (nv++nv') (kv++kv')/\Nk B nb nd pl w nd' pl' w'/\∀j,(hj:j<Y kv')->∀q,jO kv'[j]=Z q->R (jg w)<=q
def AdV(B nb:Nat)(w0:jD)(v:jF)(fl:Nat->M7)(Q:M4)(n:Nat):Prop:=∀(N:M7) (P:M4) (nd pl:jF) (nv kv:N4) (w:jD),Below B w0 w->PC w B nb N P nd pl nv kv->Y N+n<=65535->Y P+n<=65535->Calls jZ 148 #[jQ<|Z<|jB nb 0 V,v] w (AdO B nb N P nd pl nv kv (fl<|Y N) Q w)
structure Kc where
 v:jF
 f:Nat->M7
 Qq:M4
 n:Nat
def kcN:List Kc->Nat->M7|[],_=>[]|k::K,b=>k.f b++kcN K (b+k.n)
def kcI:List Kc->Nat->M4|[],_=>[]|k::K,b=>((b+k.n-1:Nat):Int)::kcI K (b+k.n)
def kcP:List Kc->M4|[]=>[]|k::K=>k.Qq++kcP K
def UA:List Kc->Nat|[]=>0|k::K=>k.n+UA K
theorem Acy(x:Kc):∀(K:List Kc)(b:Nat),kcN (K++[x]) b=kcN K b++x.f (b+UA K)/\kcI (K++[x]) b=kcI K b++[((b+UA K+x.n-1:Nat):Int)]/\kcP (K++[x])=kcP K++x.Qq/\UA (K++[x])=UA K+x.n|[],b=>by simp[kcN,kcI,kcP,UA]|k::K,b=>by obtain⟨h1,h2,h3,h4⟩:=Acy x K<|b+k.n;simp only[List.cons_append,kcN,kcI,kcP,UA,h1,h2,h3,h4,zd,Nat.add_assoc,and_self]
def Kc.ok(B nb:Nat)(w0:jD)(k:Kc):Prop:=(∃t u,k.v=.iface t u)/\AdV B nb w0 k.v k.f k.Qq k.n/\(∀b,Y (k.f b)=k.n)/\Y k.Qq=k.n
theorem AaN{B a:Nat}{c:jD}:∀(K:List Kc)(b:Nat),(∀k∈K,k.ok B a c)->Y (kcN K b)=UA K/\Y (kcP K)=UA K/\Y (kcI K b)=Y K|[],b,_=>⟨rfl,rfl,rfl⟩|k::K,b,h=>by obtain⟨h1,h2,h3⟩:=AaN K (b+k.n) λx hx=>h x<|zV _ hx;obtain⟨_,_,l1,l2⟩:=h k zR;simp[kcN,kcI,kcP,UA,h1,h2,h3,l1,l2]
theorem Ajg{K:List Kc}:∀(k:Nat),UA (K.take k)<=UA K:=by induction K with|nil=>intro k;simp[UA]|cons x K a=>intro k;cases k with|zero=>simp[UA]|succ k=>have:=a k;simp[UA];omega
set_option maxRecDepth 100000
set_option maxHeartbeats 1600000
structure Cm(B cb mb:Nat)(ns:M6)(ts tt:M4)(lv tv:jF)(w:jD):Prop where
 C:Ck B cb ts tt (.map<|Z mb) lv tv w
 M:MN w mb ns
 aP:B<=mb
theorem Cm.ne{c b:Nat}{ns:M6}{ts:M4}{d:jF}(h:Cm B c b ns ts tt lv d w):b≠c/\jO lv≠Z b/\jO d≠Z b:=by
 obtain⟨i,cl,h1,_⟩:=h.M;refine⟨λe=>?_,λe=>?_,λe=>?_⟩
 .subst e;have:=h.C.row.out.symm.trans h1;simp at this
 .obtain⟨a,_⟩|⟨g,cap,f,a,_,hg,_⟩:=h.C.aQ.2
  .rw[a]at e;cases e
  rw[a]at e;obtain rfl:g=b:=by simpa[jO]using e
  have:=hg.symm.trans h1;simp at this
 obtain⟨a,_⟩|⟨g,cap,f,a,_,hg,_⟩:=h.C.types.2
 .rw[a]at e;cases e
 rw[a]at e;obtain rfl:g=b:=by simpa[jO]using e
 have:=hg.symm.trans h1;simp at this
structure Kd(B cb mb:Nat)(lv tv:jF)(w:jD)(lv' tv':jF)(w':jD):Prop where
 aP:Below B w w'
 aV:∀k,k<R (Q w)->k≠cb->k≠mb->Z k≠jO lv->Z k≠jO tv->(Q w')[k]?=(Q w)[k]?newl:∀q,jO lv'=Z q->jO lv=Z q\/R (Q w)<=q
 newt:∀q,jO tv'=Z q->jO tv=Z q\/R (Q w)<=q
theorem Kd.refl(B b c:Nat)(lv a:jF)(w:jD):Kd B b c lv a w lv a w:=⟨BRN,λ_ _ _ _ _ _=>rfl,λq h=>.inl h,λq h=>.inl h⟩
theorem Kd.trans{B a b:Nat}{lv c d f g i:jF}{w j w2:jD}(h:Kd B a b lv c w d f j)(k:Kd B a b d f j g i w2):Kd B a b lv c w g i w2:=by
 refine⟨h.aP.trans k.aP,λq h1 h2 h3 h4 h5=>?_,λq hq=>?_,λq hq=>?_⟩
 .refine(k.aV q (zG h1 h.aP.size) h2 h3 (λe=>?_) λe=>?_).trans (h.aV q h1 h2 h3 h4 h5);all_goals grind[Kd.newl,Kd.newt]
 .obtain e|e:=k.newl q hq
  .exact h.newl q e
  exact .inr (zB h.aP.size e)
 obtain e|e:=k.newt q hq
 .exact h.newt q e
 exact .inr (zB h.aP.size e)
theorem Kd.cN{d:Nat}{b c:jF}(h:Kt B a b w c w'):Kd B a d lv b w lv c w':=⟨h.aP,λk h1 h2 _ _ h5=>h.aV k h1 h2 h5,λq hq=>.inl hq,h.new⟩
theorem Kd.bK{B b c:Nat}{lv a:jF}{w w':jD}(h:Ak w w')(hB:B<=R (Q w)):Kd B b c lv a w lv a w':=.cN (Kt.bK h hB)
theorem Cm.cN{b:Nat}{ns:M6}{ts d:M4}{f c:jF}(h:Cm B a b ns ts tt lv f w)(g:Ck B a ts d (.map<|Z b) lv c w')(K:Kt B a f w c w'):Cm B a b ns ts d lv c w':=⟨g,h.M.aV<|K.aV b h.M.lt h.ne.1 λe=>h.ne.2.2 e.symm,h.aP⟩
theorem Cm.below{B b a:Nat}{ns:M6}{ts tt:M4}{lv c:jF}{w w':jD}(h:Cm B b a ns ts tt lv c w)(d:Ak w w'):Cm B b a ns ts tt lv c w':=⟨h.C.below d,h.M.aV<|d.block a h.M.lt,h.aP⟩
theorem Ck.cU{ts:M4}{c d:jF}{b:jD}{g:Nat}(h:Ck B a ts tt c pl d w)(hB:B<=R (Q w))(j:jP b B 3 1 (X (Z<|jB g 0 V) (Y ts+1) cap) (Y ts+1)<|Ap ts++[T U t])(f:(jK w o).grownBy b<|jO pl)(hat:jO pl=Z g\/g=R (Q w)+1):Ah b a #[c,pl,d] 64/\Ck B a (ts++[t]) tt c (X (Z<|jB g 0 V) (Y ts+1) cap) d (jM b (jB a 1 V)<|X (Z<|jB g 0 V) (Y ts+1) cap)/\Below B w (jM b (jB a 1 V)<|X (Z<|jB g 0 V) (Y ts+1) cap)/\(∀k,k<R (Q w)->k≠a->Z k≠jO pl->(Q<|jM b (jB a 1 V)<|X (Z<|jB g 0 V) (Y ts+1) cap)[k]?=(Q w)[k]?):=by
 have n:=Ad h.row h.aQ Ob;have n2:=Ad h.row h.types Ob;have i:=(h.row.alloc o).grown f λe=>n e.symm;have n3:=Ad i j Ob;have r:g≠a:=λe=>n3 G1;have l:R (Q<|jK w o)=R (Q w)+1:=Oz;have m:∀k,k<R (Q w)->k≠a->Z k≠jO pl->(Q<|jM b (jB a 1 V)<|X (Z<|jB g 0 V) (Y ts+1) cap)[k]?=(Q w)[k]?:=λk h1 h2 h3=>(L2 b (jB a 1 V) k _ h2).trans ((f.block k (by rw[l];omega) h3).trans<|Below.heap_alloc w o k h1);refine⟨i,⟨i.set 1<|X (Z<|jB g 0 V) (Y ts+1) cap,?_,Ac h.types λq hq=>m q (h.types.lt q hq).2 (λe=>n2<|e ▸ hq) λe=>h.bH q e.symm hq,h.aP,λq hq e=>?_⟩,?_,m⟩
 .rw[Ap,zN,zC];refine Ag j (jB a 1 V) _ λq hq=>?_;have:g=q:=P1;subst this;exact r
 .have:g=q:=P1;subst this;obtain hat|hat:=hat
  .exact h.bH g hat e
  have:=(h.types.lt g e).2;omega
 exact(((Below.refl B w).alloc hB o).grown f (by rw[l];omega) λq hq=>(h.aQ.lt q hq).1).setCell (p:=(jB a 1 V)) h.aP _
def Amx(B cb mb:Nat)(ns:M6)(ts tt:M4)(lv tv:jF)(nm:M1)(ty:Int)(w:jD)(r:Ending)(w':jD):Prop:=(nm ∉ ns/\r=.returned .nilIface/\∃lv',Cm B cb mb (ns++[nm]) (ts++[ty]) tt lv' tv w'/\Kd B cb mb lv tv w lv' tv w')\/(nm∈ns/\(∃t u,r=.returned (.iface t u))/\Ak w w')
theorem XW(B c f:Nat)(ns:M6)(ts tt:M4)(lv s:jF)(nm:M1)(ty:Int)(I J:jH)(w:jD)(z:SP w I J)(h:Cm B c f ns ts tt lv s w)(ak:Y ts<=1000):Calls jZ 115 #[jQ<|Z<|jB c 0 V,jA nm,T U ty] w (Amx B c f ns ts tt lv s nm ty w):=by
 have c0:jE w (jB c 0 V)=Z (.map<|Z f):=h.C.row.cell 0;have c1:jE w (jB c 1 V)=Z lv:=h.C.row.cell 1;have ac:=z.ac;have K:=z.a;have al:=h.C.row.lt;have L:B<=R (Q w):=G7 h.C.aP;obtain⟨N,O,P,S,W⟩:=info_parts GS;by_cases hs:nm∈ns
 .obtain⟨b,n,t,A⟩:=Af4 w f ns nm h.M hs;have m:=Ab hs;clear hs;have aa:=Ar w<|.cells #[.bool b,T U n,T U t] 131;go_enter func115,ntmps115;go_wp2;go_ret;exact .inr ⟨Aa m,⟨_,_,rfl⟩,aa⟩
 obtain⟨b,n,t,A⟩:=AiU w f ns nm h.M hs;have m:=Ab hs;clear hs;obtain⟨x,o,rfl,_⟩:=Af h.C.aQ;go_enter func115,ntmps115;go_wp2_with fail;have ab:∃d,d=jK w (.cells #[.bool b,T U n,T U t] 131):=⟨_,rfl⟩;obtain⟨d,v⟩:=ab;have j:Ak w d:=by rw[v];exact BRN.alloc NLN _
 rw[<-v];clear v c0 c1 A ac K;have i:=(h.below j).below (Below.drew BRN:Ak d<|jV d);have D:=j.trans<|(Below.drew BRN:Ak d<|jV d).mono j.size;have l:=i.ne;have ao:jE d (jB c 0 V)=Z (.map<|Z f):=(h.below j).C.row.cell 0;have d1:jE d (jB c 1 V)=Z (X x (Y ts) o):=(h.below j).C.row.cell 1;obtain⟨p,ap,E,r,ad,bel⟩:=Acn (jV d) f ns nm true (Y ts) ty i.M<|Aa m;have y:Ck B c ts tt (.map<|Z f) (X x (Y ts) o) s p:=⟨⟨(r c l.1.symm).trans i.C.row.out⟩,Ac i.C.aQ λq hq=>r q λe=>l.2.1<|e ▸ hq,Ac i.C.types λq hq=>r q λe=>l.2.2<|e ▸ hq,i.C.aP,i.C.bH⟩;have e1:jE p (jB c 1 V)=Z (X x (Y ts) o):=y.row.cell 1;have F:=(D.mono L).trans<|bel B h.aP;have aq:=F.size;clear ad;go_region;all_goals
  go_wp2_with (at_builtin;refine J6 _ rfl _ _ 25 rfl B 3 N (T U 0) 1 8 underlying25 O P S W rfl Ob _ _ _ rfl (K7 y.aQ _) ⟨R<|Q p,0,V⟩ 1 1 [T U ty] rfl rfl ?c1 ?c2 Ob ?c3 ?c4 ?c5 (R (Q p)+1) Oz ?_);case c1=>exact A6 _ _ _ _ Oz
  case c2=>intro u hu;simp at hu;subst hu;rfl
  case c3=>unfold maxLen;omega
  case c4=>omega
  case c5=>simp;omega
  intro g cap ae af ag hat ar;obtain⟨G,ah,ai,H⟩:=y.cU Oa af ag hat;have au:jE ae (jB c 1 V)=Z (X x (Y ts) o):=G.cell 1;have av:=G.frozen 1;have aj:=E.aV<|H f E.lt l.1 λe=>l.2.1 e.symm;go_wp2;go_ret;refine .inl ⟨Aa m,rfl,_,⟨ah,aj,h.aP⟩,⟨F.trans ai,λk h1 h2 h3 h4 h5=>?_,λq hq=>?_,λq hq=>.inl hq⟩⟩
  .exact(H k Oa h2 h4).trans ((r k h3).trans<|D.block k h1)
  have:g=q:=P1;subst this;obtain hat|hat:=hat
  .exact .inl hat
  right;omega
theorem Yk{lo:Nat}{a:N4}(d:∀j,(c:j<Y a)->∀q,jO a[j]=Z q->lo<=q)(f:∀j,(c:j<Y b)->∀q,jO b[j]=Z q->lo<=q):∀j,(c:j<Y (a++b))->∀q,jO (a++b)[j]=Z q->lo<=q:=λj c q hq=>by
 by_cases h:j<Y a
 .rw[zg h]at hq;exact d j h q hq
 rw[Z2 Oa]at hq;exact f _ (by simp at c;omega) q hq
theorem Agv{lo:Nat}{v:jF}(h:∀q,jO v=Z q->lo<=q):∀j,(a:j<[v].length)->∀q,[v][j].ownBlock=Z q->lo<=q:=by grind
theorem Ad5{lo hi:Nat}{a:N4}(c:∀j,(b:j<Y a)->∀q,jO a[j]=Z q->hi<=q)(h:lo<=hi):∀j,(b:j<Y a)->∀q,jO a[j]=Z q->lo<=q:=by grind
end Go.Proofs.YtlcfoihgfcmfeaaGreatDoor

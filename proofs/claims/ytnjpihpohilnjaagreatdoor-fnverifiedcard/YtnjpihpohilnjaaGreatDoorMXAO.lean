import Derived.Test.YtnjpihpohilnjaaGreatDoorMXAB
open List renaming length->T
open Option renaming none->U,some->Q,some->jg
open Array renaming size->R,size->jh
open Go renaming World->jB,Value->jF,Addr->jG
open Bool renaming true->jD,false->jE
namespace Go.Proofs.YtnjpihpohilnjaaGreatDoor
open Proofs.Tryz
open Value renaming int->V,slice->Y,ownBlock->jL,agg->jM,tuple->jQ
open IntKind renaming i64->X
open World renaming heap->Z,cell?->jI,setCell->jJ,alloc->jK
open Addr renaming mk->jA,block->jT
open Obj renaming cells->jH
open Proofs.Tryz renaming prog->jZ
set_option maxRecDepth 100000
set_option maxHeartbeats 6400000
open Go.RowKit Go.Lib
set_option linter.unusedVariables false
variable{g:Array jF}{i:Be}{K:List M5}{PK:L2}{a m k c:Nat}{s:Vs}{w:jB}
theorem Ac8 (a b:L3)(n c m d S:Nat)(kn:Bool)(P:M1)(I:M2)(k:Nat)(s:Vs)(t u:L3)(y A B C:Nat)(w:jB)(bx:SC w a n c P)(bd:PX w b m d I)(cM:k<m)(dF:n<=1048576)(bz: 1<=(I.getD k ⟨0,0⟩).op/\(I.getD k ⟨0,0⟩).op<=25)(bA: 0<=(I.getD k ⟨0,0⟩).aY)(hs:Lt w t u y A B C s)(cN:T s.aE=S)(el:S<=600)(em:T s.stack<=200)(dG:∀x∈s.stack,1<=x)(dH:∀x∈P.map Vl.aC,1<=x)(dI:∀x∈s.aE,0<=x):
  Calls jZ 13 #[jM #[Y a n c,V X S,Y b m d],V X k,jM #[.bool kn,Y t y A,Y u B C]] w λe w'=>SpA w kn (As (P.map Vl.aC) S m k (I.getD k ⟨0,0⟩) s) e w':=by
 obtain⟨g,ag,aw,cO,N,O⟩:=bd.at k cM;subst aw;have en:=bd.aJ;have bZ:=Ab<|show n=T P from bx.len.symm;have eo:=Ab bd;have bf:=Ab cN;clear cN;have ep:=Ab bx;have eq:=Ab hs;have b0:=Ab λaI (aw:Ai w aI)=>Aae a (Q<|jA g ag U) n c m d S I k aI (bd.below aw NLN) cM dF bz;generalize I.getD k ⟨0,0⟩=i at N O bz bA b0;obtain⟨op,f⟩:=i;simp only at N O bz bA;obtain⟨bB,bC⟩:=bz;have er:(k:Int)<(m:Int):=Oa;have b2:=AE w<|jH #[Y a n c,V X S,Y (Q<|jA g ag U) m d] 26;have b4:=b2.alloc b2.size<|jH #[.bool kn,Y t y A,Y u B C] 46;have bg:=b4.alloc b4.size<|jH #[.bool jE,Y U 0 0,Y U 0 0] 46;have dJ:=(bg.cell (p:=⟨g,ag+k*2,U⟩) cO).trans N;have dK:=(bg.cell (p:=⟨g,ag+k*2+1,U⟩) cO).trans O;have b5:=bg.alloc bg.size<|jH #[V X op,V X f] 80;have cP:=(((Ag.new w #[Y a n c,V X S,Y (Q<|jA g ag U) m d] 26).alloc<|jH #[.bool kn,Y t y A,Y u B C] 46).alloc<|jH #[.bool jE,Y U 0 0,Y U 0 0] 46).alloc<|jH #[V X op,V X f] 80;have b6:=((Ag.new (jK w<|jH #[Y a n c,V X S,Y (Q<|jA g ag U) m d] 26) #[.bool kn,Y t y A,Y u B C] 46).alloc<|jH #[.bool jE,Y U 0 0,Y U 0 0] 46).alloc<|jH #[V X op,V X f] 80;have b7:=(Ag.new (jK (jK w<|jH #[Y a n c,V X S,Y (Q<|jA g ag U) m d] 26)<|jH #[.bool kn,Y t y A,Y u B C] 46) #[.bool jE,Y U 0 0,Y U 0 0] 46).alloc<|jH #[V X op,V X f] 80;have b8:=Ag.new (jK (jK (jK w<|jH #[Y a n c,V X S,Y (Q<|jA g ag U) m d] 26)<|jH #[.bool kn,Y t y A,Y u B C] 46)<|jH #[.bool jE,Y U 0 0,Y U 0 0] 46) #[V X op,V X f] 80;rw[G0]at b6;rw[G0,G0]at b7;rw[G0,G0,G0]at b8;have cQ:=Ab<|Aa b0 _ b5;have cS:Hid<|Fr w _ (Y a n c) (V X S) (Y (Q<|jA g ag U) m d) kn t u y A B C op f:=Ab ⟨cP,b6,b7,b8,b5⟩;have cT:=Ab λaI (aw:Ai w aI) (dL:Pj n (T s.aE) ⟨op,f⟩)=>Aaf a (Q<|jA g ag U) n c m d (V X S) (Y (Q<|jA g ag U) m d) kn P ⟨op,f⟩ s.aE t u y A B C aI (bx.below aw NLN) (hs.sl.below aw NLN) bB bC dL;have dM:=Ab λaI (aw:Ai w aI)=>Ac4 kn s.stack s.aE t u y A B C aI (hs.st.below aw NLN) (hs.sl.below aw NLN) hs.n1 hs.n2;clear bd bx hs N O cP b6 b7 b8 b0 b2 b4 bg b5;go_enter func13,ntmps13
 go_wp2_with fail
 refine(Aa cQ).mono ?_;rintro e dN ⟨rfl,cU⟩;have bD:=Ab<|(Aa cS).aA cU;clear cU cS cQ dJ dK;obtain⟨⟨c0,c1,c2⟩,⟨ax,s1,s2⟩,⟨ay,az,aB⟩,⟨N,O⟩,aD,f1,f2⟩:=(Aa bD).cells;by_cases a1:AF (T P) S m k ⟨op,f⟩=jD
 .have bh:AF n S m k ⟨op,f⟩=jD:=by rw[Aa bZ];exact a1
  rw[bh];have aK:=Ab a1;have b9:Pj n (T s.aE) ⟨op,f⟩:=by rw[Aa bf,Aa bZ];exact Ut a1 bA
  have ca:=Ab<|Aa cT dN (Aa bD).2.2.2.2 b9;have dO:=Ab b9;have aR:=Ab<|Ac6 (P.map Vl.aC) ⟨op,f⟩ s.aE bB bC;simp only at aR;clear a1 bh b9 cT;obtain⟨o,cb⟩:∃o,o=DB (P.map Vl.aC) ⟨op,f⟩ s.aE:=⟨_,rfl⟩
  rw[<-cb]at ca aR;have bE:=Ab cb;clear cb;go_wp2_with fail
  refine(Aa ca).mono ?_;rintro e aL ⟨es,wc,rfl,cV,cW,cX⟩;have a2:=Ab<|(Aa bD).aA cX;have dP:=Ab cV;have et:=Ab cW;clear cX cV cW ca c0 c1 c2 ax s1 s2 ay az aB N O aD f1 f2;obtain⟨⟨c0,c1,c2⟩,⟨ax,s1,s2⟩,⟨ay,az,aB⟩,⟨N,O⟩,aD,f1,f2⟩:=(Aa a2).cells;go_wp2_with fail
  refine(Aa dM aL (Aa a2).2.2.2.2).mono ?_;rintro e l ⟨D,c7,ab,K,rfl,aG,aM,bG,bH⟩;have bI:=Ab<|(Aa a2).aA bH;have cY:=Ab<|(Aa dP).below bH NLN;clear c0 c1 c2 ax s1 s2 ay az aB N O aD f1 f2;have ah:=AE l<|jH #[.bool kn,Y D (T s.stack) c7,Y ab (T s.aE) K] 46;have aq:=Ab<|(Aa bI).aA ah;obtain⟨⟨c0,c1,c2⟩,⟨ax,s1,s2⟩,⟨ay,az,aB⟩,⟨N,O⟩,aD,f1,f2⟩:=(Aa aq).cells;have RT:=Ag.new l #[.bool kn,Y D (T s.stack) c7,Y ab (T s.aE) K] 46;obtain⟨bi,bj,bk⟩:=At RT;clear c0 c1 c2;by_cases cc:AM op<=T s.stack
  .have dQ: ¬ ((T s.stack:Int)<(T o.1:Int)):=by rw[Aa aR];omega
   obtain⟨z,cZ⟩:∃z,T s.stack=z+AM op:=⟨T s.stack-AM op,Oa⟩
   have aN:=Ab cZ;have bJ:=Ab cc;have dR:IntKind.i64.wrap ((T s.stack:Int)-(T o.1:Int))=(z:Int):=by
    rw[Aa aR,(Oa:(T s.stack:Int)-((AM op:Nat):Int)=(z:Int))];have:z<=200:=Oa;simp[IntKind.wrap,IntKind.bits,IntKind.signed];omega
   have dS:T o.1<=3:=by rw[Aa aR];have:=PR op;omega
   clear cZ cc;by_cases bK:op=4
   .subst bK;have bL:o=([-1],0):=by rw[Aa bE];rfl
    have c3:T o.1=1:=by rw[bL];rfl
    have dT:AM 4=1:=rfl;have c4:T s.stack=z+1:=Hv;have bM:=Ab<|(Aa cY).below ah NLN;have bN:=Ab<|(Cd aG Oa).below ah NLN;have eu:=Ab<|(Cd aM<|by rw[Aa bf];omega).below ah NLN;obtain⟨r,rfl⟩:=zo bA;have cd:r<T s.aE:=by have:=(Aa dO).2.2.2<|.inr rfl;simp only at this;omega
    obtain⟨dU,dV,ce,dW,a3⟩:=(Aa bM).cells 0 Oa;obtain⟨ar,au,cf,dX,a4⟩:=(Aa bN).cells z Oa;have c5:s.stack[z]' Oa=CA s.stack:=by
     rw[Jl s.stack Oa]
     congr 1
     omega
    have c6:o.1[0]' Oa= -1:=by simp[bL]
    rw[c5]at a4;rw[c6,zX]at a3;have c8:=Dq (w':=jK l<|jH #[.bool kn,Y D (T s.stack) c7,Y ab (T s.aE) K] 46) aG λq _ hq _=>ah.block q hq;have bO:=Dq (w':=jK l<|jH #[.bool kn,Y D (T s.stack) c7,Y ab (T s.aE) K] 46) aM λq _ hq _=>ah.block q hq;obtain⟨M,c9,ev⟩:∃M,ab=Q (jA M 0 U)/\T s.aE<=K:=by
     obtain⟨_,h0⟩|⟨cg,cap,da,hv,_,_,bl,_⟩:=aM.2
     .omega
     .simp only[Value.slice.injEq]at hv;exact⟨cg,hv.1,by rw[hv.2.2];exact bl⟩
    have ew:=aM.lt M (by rw[c9];rfl);subst c9;have bm:=(bO.cellAt r Oa).trans (by rw[Ak,zr,zM cd]);simp only[Option.map_some]at bm;have db:=bO.frozenAt r;have dc:s.aE[r]=RZ s.aE (r:Int):=by unfold RZ;rw[zS,List.getD,zM cd];rfl
    rw[dc]at bm;have a5:=Ab<|show AJ ⟨4,(r:Int)⟩ s=decide (RZ s.aE (r:Int)=0\/RZ s.aE (r:Int)=CA s.stack)from rfl;have ch:=Ab (show AT (P.map Vl.aC) ⟨4,(r:Int)⟩ s=⟨s.stack.take z,s.aE.set r<|CA s.stack⟩ by
     have dY:T s.stack-1=z:=Oa;show(⟨s.stack.take<|T s.stack-1,s.aE.set ((r:Int)).toNat<|CA s.stack⟩:Vs)=_;rw[dY,zS])
    have ci:=Ab (bO.stored r<|V X<|CA s.stack).1;have cj:=Ab<|Dq (w':=jJ (jK l<|jH #[.bool kn,Y D (T s.stack) c7,Y (Q<|jA M 0 U) (T s.aE) K] 46) (jA M r U)<|V X<|CA s.stack) c8 λq _ _ hx=>K0 _ (jA M r U) q _ λe=>bG (jA q 0 U) (jA M 0 U) hx rfl e;have aO:=Ab<|show R (Z w)+1+1+1<R (Z aL)from(Aa a2).2.2.2.1.lt;have bP:=Ab ((Aa aq).bF (jA M r U) (V X<|CA s.stack)<|by show R (Z w)+1+1+1<M;have:=Aa aO;omega);have ck:=Ab<|RT.aF (p:=(jA M r U)) (Oa:R (Z l)≠M)<|V X<|CA s.stack;obtain⟨dZ,d0⟩:(D=U->c7=0)/\(T s.stack<=c7):=by
     obtain⟨hv,h0⟩|⟨cg,cap,da,hv,_,_,bl,d1,_⟩:=aG.2
     .omega
     .simp only[Value.slice.injEq]at hv;obtain⟨cl,_,rfl⟩:=hv;exact⟨λe=>(by rw[cl]at e;cases e),bl⟩
    have d2:(z:Int)<=(c7:Int):=Oa;have d3:(0 :Int)<=(z:Int):=Oa;have ex:(z:Int)<(T s.stack:Int):=Oa;have ey:(r:Int)<(T s.aE:Int):=Oa;have ez:(0 :Int)<=(r:Int):=Oa;have eA:(T s.stack:Int)-1=(z:Int):=Oa;have d4:(T o.1:Int)=1:=Oa;have dd:o.2=0:=by rw[bL]
    have ap:=Ab (show As (P.map Vl.aC) S m k ⟨4,(r:Int)⟩ s=if AJ ⟨4,(r:Int)⟩ s=jE then (5,s)else if 100<z then (7,s)else (0,⟨s.stack.take z,s.aE.set r<|CA s.stack⟩) by
     unfold As;rw[zN,H7<|by rw[Aa aK];decide,H7 (Oa:¬ T s.stack<AM 4)];rw[Aa ch];have cm:T (s.stack.take z)=z:=by rw[zg];omega
     by_cases ht:AJ ⟨4,(r:Int)⟩ s=jE
     .rw[H8 ht,H8 ht]
     .rw[H7 ht,H7 ht,H7 λh=>by have:=h.1;simp at this];simp only[cm])
    have cn:=Ab c4;have de:=Ab c3;generalize T o.1=d5 at d4 dR dQ dS de a3|-;have d6:=Aa de;subst d6;generalize o.2=eB at dd|-;subst dd;generalize CA s.stack=aS at a4 a5 ch ci cj bP ck ap;generalize RZ s.aE (r:Int)=a6 at bm a5;subst cf ce;clear c4 bL c3 dT c5 c6 c8 bO aG aM dc bG cd;go_wp2_with fail
    have bn:=Ab (Ox:R (Z l)+1=R (Z<|jK l<|jH #[.bool kn,Y (Q<|jA ar au U) (T s.stack) c7,Y (Q<|jA M 0 U) (T s.aE) K] 46));generalize jK l (jH #[.bool kn,Y (Q (jA ar au U)) (T s.stack) c7,Y (Q (jA M 0 U)) (T s.aE) K] 46)=W at ah aq ax s1 s2 ay az aB N O aD f1 f2 RT bi bj bk a3 a4 bm db ci cj bP ck bn|-;go_loopw [51] (λi wr=>(i=V X 0/\Hid (wr=W))\/(i=V X 1/\Hid (wr=jJ W (jA M r U) (V X aS))/\Hid (AJ ⟨4,(r:Int)⟩ s=jD))) (λi _=>1-(RowKit.intOf i).toNat)
    case atStart=>exact .inl ⟨rfl,Ab rfl⟩
    case round=>
     obtain⟨rfl,bQ⟩|⟨rfl,bQ,bo⟩:=hrel
     .have co:=Aa bQ;subst co;by_cases bp:a6=0
      .subst bp;have bo:=Ab (show AJ ⟨4,(r:Int)⟩ s=jD by rw[Aa a5];simp);go_wp2
       go_roundw
       case rel=>exact .inr ⟨O1,Ab trivial,bo⟩
       case measure=>simp[RowKit.intOf]
      .have df:(a6 !=0)=jD:=zV.2 bp;by_cases bR:a6=aS
       .subst bR;have bo:=Ab (show AJ ⟨4,(r:Int)⟩ s=jD by rw[Aa a5];simp);have b1:(a6 !=a6)=jE:=Ox;clear bp;go_wp2
        go_roundw
        case rel=>exact .inr ⟨O1,Ab trivial,bo⟩
        case measure=>simp[RowKit.intOf]
       .have ac:=Ab (show AJ ⟨4,(r:Int)⟩ s=jE by rw[Aa a5];simp[bp,bR]);have b1:(a6 !=aS)=jD:=zV.2 bR;have dg:=Ab (show As (P.map Vl.aC) S m k ⟨4,(r:Int)⟩ s=(5,s) by rw[Aa ap,H8<|Aa ac]);clear bp bR;go_wp2_with fail
        obtain⟨⟨E,F,G⟩,H⟩:=(Aa aq).put (.bool kn) (Y t y A)<|Y u B C;exact G2 (v:= jQ #[jM #[.bool kn,Y t y A,Y u B C],V X 5]) O4 rfl ⟨_,by rw[Aa dg],H,(λe=>by rw[Aa dg]at e;simp at e),_,_,_,_,_,_,_,rfl⟩
     .have co:=Aa bQ;subst co;clear bQ;have a7:=Aa ck;obtain⟨eC,eD,eE⟩:=At a7;have eF:=a7.frozen 1;have aT:=a7.set 1<|Y (Q<|jA ar au U) z c7;simp only[zZ,zb,ze]at aT;obtain⟨cp,cq,cr⟩:=At aT;have bS:=Ab<|show R (Z w)+1+1+1<R (Z l)from(Aa bI).2.2.2.1.lt;have av:=Ab<|(Aa bP).bF ⟨R<|Z l,1,U⟩ (Y (Q<|jA ar au U) z c7)<|Aa bS;obtain⟨_,⟨cs,ct,cu⟩,⟨cv,cw,cx⟩,⟨eG,eH⟩,cy,cz,cA⟩:=(Aa av).cells;obtain⟨_,_,_,⟨eI,eJ⟩,_⟩:=(Aa bP).cells;have br:=Ab<|Du (Uy (Aa cj) z<|H2<|Aa cn) ⟨R<|Z l,1,U⟩ a7 Bg<|Y (Q<|jA ar au U) z c7;have bT:=Ab<|Du (Aa ci) ⟨R<|Z l,1,U⟩ a7 Bg<|Y (Q<|jA ar au U) z c7;have aU:=Ab (show As (P.map Vl.aC) S m k ⟨4,(r:Int)⟩ s=if 100<z then (7,s)else (0,⟨s.stack.take z,s.aE.set r aS⟩) by rw[Aa ap,H7<|by rw[Aa bo];decide]);have a8:=Ab (show T (s.stack.take z)=z by rw[zg];have:=Aa cn;omega);have d7:z<=200:=H2<|Aa cn;clear a7 aT a5 ch ap ax s1 s2 ay az aB N O aD f1 f2 bi bj bk bm db a4 a3;by_cases aa: 100<z
      .have J:=Ab (show As (P.map Vl.aC) S m k ⟨4,(r:Int)⟩ s=(7,s) by rw[Aa aU,H8 aa]);have bs:(100 :Int)<(z:Int):=Oa;clear aa;go_wp2_with fail
       obtain⟨⟨E,F,G⟩,H⟩:=(Aa av).put (.bool kn) (Y t y A)<|Y u B C;exact G2 (v:= jQ #[jM #[.bool kn,Y t y A,Y u B C],V X 7]) O4 rfl ⟨_,by rw[Aa J],H,(λe=>by rw[Aa J]at e;simp at e),_,_,_,_,_,_,_,rfl⟩
      .have J:=Ab (show As (P.map Vl.aC) S m k ⟨4,(r:Int)⟩ s=(0,⟨s.stack.take z,s.aE.set r aS⟩) by rw[Aa aU,H7 aa]);have bs: ¬ ((100 :Int)<(z:Int)):=Oa;clear aa;go_wp2_with fail
       obtain⟨⟨E,F,G⟩,H⟩:=(Aa av).put (.bool kn) (Y (Q<|jA ar au U) z c7)<|Y (Q<|jA M 0 U) (T s.aE) K;have dh:=Aa br;rw[show(Ak s.stack).take z=Ak (s.stack.take z) by rw[Ak,Ak,List.map_take]]at dh;have di:=Aa bT;rw[Ur]at di;have aP:=Sy (Aa av) dh di (H2<|Aa aO) Oa (by rw[Aa bf];omega);have a9:T (⟨s.stack.take z,s.aE.set r aS⟩:Vs).stack=z:=Aa a8;have ba:T (⟨s.stack.take z,s.aE.set r aS⟩:Vs).aE=T s.aE:=Ox;exact G2 (v:= jQ #[jM #[.bool kn,Y (Q<|jA ar au U) z c7,Y (Q<|jA M 0 U) (T s.aE) K],V X 0]) O4 rfl ⟨_,by rw[Aa J],H,(λ_=>⟨Q<|jA ar au U,c7,Q<|jA M 0 U,K,by rw[Aa J];simp only;rw[Aa a8,zv],by rw[Aa J];simp only;rw[Aa a8,zv];exact aP.1,aP.2⟩),_,_,_,_,_,_,_,rfl⟩
   .have e4:(op==4)=jE:=zA.2 bK;have cB:=Ab (show chk o.1 (s.stack.drop z) 0=AJ ⟨op,f⟩ s by
     have:=Ac7 (P.map Vl.aC) ⟨op,f⟩ s.stack s.aE bB bC bK (Aa bJ) dG;rw[<-Aa bE]at this;simp only at this;rw[(Hv:T s.stack-AM op=z)]at this;exact this)
    have bN:=Ab<|(Cd aG Oa).below ah NLN;have bM:=Ab<|(Aa cY).below ah NLN;have dj:z+T o.1=T s.stack:=by rw[Aa aR];exact(Aa aN).symm
    have d8:=Ab dj;clear dj;go_wp2_with fail
    have bn:=Ab (Ox:R (Z l)+1=R (Z<|jK l<|jH #[.bool kn,Y D (T s.stack) c7,Y ab (T s.aE) K] 46));generalize jK l (jH #[.bool kn,Y D (T s.stack) c7,Y ab (T s.aE) K] 46)=W at ah aq ax s1 s2 ay az aB N O aD f1 f2 RT bi bj bk bN bM bn|-;go_loop [13,51] (λan i=>∃ (j:Nat) (ai:Int),an=V X ai/\i=V X j/\j<=T o.1/\Hid (chk (o.1.drop j) (s.stack.drop<|z+j) ai=AJ ⟨op,f⟩ s)) (λ_ i=>T o.1-(RowKit.intOf i).toNat)
    case atStart=>exact⟨0,0,rfl,rfl,zE _,cB⟩
    case round=>
     obtain⟨j,ai,rfl,rfl,dk,dl⟩:=hrel;by_cases bt:j<T o.1
     .obtain⟨ad,cC⟩:∃ad,ad=z+j:=⟨_,rfl⟩
      have cD:ad<T s.stack:=H2<|Aa d8;have cE:=Aa dl;rw[<-cC]at cE;have bU:=cE.symm.trans<|Af4 o.1 s.stack ai j ad bt cD;clear cE;obtain⟨dU,dV,ce,dW,a3⟩:=(Aa bM).cells j bt;obtain⟨ar,au,cf,dX,a4⟩:=(Aa bN).cells ad cD;have eK:(j:Int)<(T o.1:Int):=Oa;have eL:(ad:Int)<(T s.stack:Int):=Oa;have eM:IntKind.i64.wrap ((z:Int)+(j:Int))=(ad:Int):=by
       rw[cC];have:z+j<=300:=Oa;simp[IntKind.wrap,IntKind.bits,IntKind.signed];omega
      have bV:=Ab (Oa:z+(j+1)=ad+1);have aj:=Ab bt;subst ce cf;generalize o.1[j]=bu at a3 bU;generalize s.stack[ad]=ae at a4 bU;have bb:=Ab bU;clear bU dk bt cD cC;by_cases w0:bu=0
      .subst w0;by_cases aV:ai=0
       .subst aV;have ac:=Ab (show chk (o.1.drop<|j+1) (s.stack.drop<|ad+1) ae=AJ ⟨op,f⟩ s by
         have:=Aa bb;simp at this;exact this.symm)
        go_wp2
        go_round
        case rel=>exact⟨j+1,ae,rfl,by have:=Aa aj;go_num,Aa aj,by rw[Aa bV];exact ac⟩
        case measure=>have:=Aa aj;simp[RowKit.intOf];omega
       .by_cases ga:ae=ai
        .subst ga;have ac:=Ab (show chk (o.1.drop<|j+1) (s.stack.drop<|ad+1) ae=AJ ⟨op,f⟩ s by
          have:=Aa bb;simp[aV]at this;exact this.symm)
         have df:(ae==0)=jE:=zA.2 aV;have b1:(ae !=ae)=jE:=Ox;clear aV;go_wp2
         go_round
         case rel=>exact⟨j+1,ae,rfl,by have:=Aa aj;go_num,Aa aj,by rw[Aa bV];exact ac⟩
         case measure=>have:=Aa aj;simp[RowKit.intOf];omega
        .have ac:=Ab (show AJ ⟨op,f⟩ s=jE by
          have:=Aa bb;simp[aV,ga]at this;exact this)
         have df:(ai==0)=jE:=zA.2 aV;have b1:(ae !=ai)=jD:=zV.2 ga;clear aV ga;have aQ:=Ab (show As (P.map Vl.aC) S m k ⟨op,f⟩ s=(5,s) by
          unfold As;rw[zN,H7<|by rw[Aa aK];decide,H7<|by show ¬ T s.stack<AM op;have:=Aa bJ;omega,H8<|Aa ac])
         go_wp2_with fail
         obtain⟨⟨E,F,G⟩,H⟩:=(Aa aq).put (.bool kn) (Y t y A)<|Y u B C;exact G2 (v:= jQ #[jM #[.bool kn,Y t y A,Y u B C],V X 5]) O4 rfl ⟨_,by rw[Aa aQ],H,(λe=>by rw[Aa aQ]at e;simp at e),_,_,_,_,_,_,_,rfl⟩
      .have eN:(bu==0)=jE:=zA.2 w0;by_cases dm: 0<bu
       .by_cases bW:ae=bu
        .subst bW;have ac:=Ab (show chk (o.1.drop<|j+1) (s.stack.drop<|ad+1) ai=AJ ⟨op,f⟩ s by
          have:=Aa bb;simp[w0]at this;exact this.symm)
         have b1:(ae !=ae)=jE:=Ox;clear w0;go_wp2
         go_round
         case rel=>exact⟨j+1,ai,rfl,by have:=Aa aj;go_num,Aa aj,by rw[Aa bV];exact ac⟩
         case measure=>have:=Aa aj;simp[RowKit.intOf];omega
        .have ac:=Ab (show AJ ⟨op,f⟩ s=jE by
          have:=Aa bb;simp[w0,dm,bW]at this;exact this)
         have b1:(ae !=bu)=jD:=zV.2 bW;clear w0 bW;have aQ:=Ab (show As (P.map Vl.aC) S m k ⟨op,f⟩ s=(5,s) by
          unfold As;rw[zN,H7<|by rw[Aa aK];decide,H7<|by show ¬ T s.stack<AM op;have:=Aa bJ;omega,H8<|Aa ac])
         go_wp2_with fail
         obtain⟨⟨E,F,G⟩,H⟩:=(Aa aq).put (.bool kn) (Y t y A)<|Y u B C;exact G2 (v:= jQ #[jM #[.bool kn,Y t y A,Y u B C],V X 5]) O4 rfl ⟨_,by rw[Aa aQ],H,(λe=>by rw[Aa aQ]at e;simp at e),_,_,_,_,_,_,_,rfl⟩
       .have ac:=Ab (show chk (o.1.drop<|j+1) (s.stack.drop<|ad+1) ai=AJ ⟨op,f⟩ s by
         have:=Aa bb;simp[w0,dm]at this;exact this.symm)
        clear w0;go_wp2
        go_round
        case rel=>exact⟨j+1,ai,rfl,by have:=Aa aj;go_num,Aa aj,by rw[Aa bV];exact ac⟩
        case measure=>have:=Aa aj;simp[RowKit.intOf];omega
     .have cF:T o.1=j:=Oa;have dn:=Ab (show AJ ⟨op,f⟩ s=jD by
       rw[<-Aa dl,<-cF,List.drop_length];rfl)
      have cG:=Ab (show o.2=BR (P.map Vl.aC) ⟨op,f⟩ s by
       rw[Aa bE];exact Sw (P.map Vl.aC) ⟨op,f⟩ s.stack s.aE bB bC<|Aa dn)
      have eO:=Ab cF;have eP: ¬ ((j:Int)<(T o.1:Int)):=Oa;clear dk bt cF;have dp: 0<=o.2:=by rw[Aa bE];exact Lz _ _ _ dH dI
      have ap:=Ab (show As (P.map Vl.aC) S m k ⟨op,f⟩ s=if op=3/\o.2=0 then (6,s)else if 100<T (AT (P.map Vl.aC) ⟨op,f⟩ s).stack then (7,s)else (0,AT (P.map Vl.aC) ⟨op,f⟩ s) by
       unfold As;rw[zN,H7<|by rw[Aa aK];decide,H7<|by show ¬ T s.stack<AM op;have:=Aa bJ;omega,H7<|by rw[Aa dn];decide];by_cases h3:op=3
       .subst h3;have e:o.2=RZ s.aE f:=Aa cG;rw[e]
       .have d9: ¬ ((⟨op,f⟩:Be).op=3/\RZ s.aE (⟨op,f⟩:Be).aY=0):=λh=>h3 h.1;have ea: ¬ (op=3/\o.2=0):=λh=>h3 h.1;rw[H7 d9];exact(H7 ea).symm)
      have bv:=Ab (show AT (P.map Vl.aC) ⟨op,f⟩ s=if o.2=0 then ⟨s.stack.take z,s.aE⟩else ⟨s.stack.take z++[o.2],s.aE⟩ by
       unfold AT;rw[H7 bK,<-Aa cG,(Hv:T s.stack-AM op=z)])
      generalize AT (P.map Vl.aC) ⟨op,f⟩ s=ak at ap bv;obtain⟨L,dq⟩:∃L,L=o.2:=⟨_,rfl⟩
      rw[<-dq]at dp ap bv|-;clear dq cG;by_cases bw:op=3/\L=0
      .have dr:=Ab (show As (P.map Vl.aC) S m k ⟨op,f⟩ s=(6,s) by rw[Aa ap,H8 bw]);obtain⟨rfl,rfl⟩:=bw;clear ap bv dp;go_wp2_with fail
       obtain⟨⟨E,F,G⟩,H⟩:=(Aa aq).put (.bool kn) (Y t y A)<|Y u B C;exact G2 (v:= jQ #[jM #[.bool kn,Y t y A,Y u B C],V X 6]) O4 rfl ⟨_,by rw[Aa dr],H,(λe=>by rw[Aa dr]at e;simp at e),_,_,_,_,_,_,_,rfl⟩
      .have aU:=Ab (show As (P.map Vl.aC) S m k ⟨op,f⟩ s=if 100<T ak.stack then (7,s)else (0,ak) by rw[Aa ap,H7 bw]);have bX:((op==3)=jE)\/((op==3)=jD/\(L==0)=jE):=by
        by_cases e3:op=3
        .exact .inr ⟨by rw[e3];rfl,zA.2 λe=>bw ⟨e3,e⟩⟩
        .exact .inl (zA.2 e3)
       clear bw ap;obtain⟨dZ,d0⟩:(D=U->c7=0)/\(T s.stack<=c7):=by
        obtain⟨hv,h0⟩|⟨cg,cap,da,hv,_,_,bl,d1,_⟩:=aG.2
        .simp only[Value.slice.injEq]at hv;exact⟨λ_=>hv.2.2,Oa⟩
        .simp only[Value.slice.injEq]at hv;obtain⟨cl,_,rfl⟩:=hv;exact⟨λe=>(by rw[cl]at e;cases e),bl⟩
       have d2:(z:Int)<=(c7:Int):=Hv;have d3:(0 :Int)<=(z:Int):=Oa;have eQ:=RT.frozen 1;have ds:=Ab<|RT.set 1<|Y D z c7;have av:=Ab (show Fr w (jJ W ⟨R<|Z l,1,U⟩<|Y D z c7) (Y a n c) (V X S) (Y (Q<|jA g ag U) m d) kn t u y A B C op f from by
        obtain⟨g0,g1,g2,g3,eb⟩:=Aa aq;have eR:=(Aa bI).2.2.2.1.lt;exact⟨g0.aF (p:=⟨R<|Z l,1,U⟩) (Oa:R (Z w)≠R (Z l)) _,g1.aF (p:=⟨R<|Z l,1,U⟩) (Oa:R (Z w)+1≠R (Z l)) _,g2.aF (p:=⟨R<|Z l,1,U⟩) (Oa:R (Z w)+1+1≠R (Z l)) _,g3.aF (p:=⟨R<|Z l,1,U⟩) (Oa:R (Z w)+1+1+1≠R (Z l)) _,eb.setCell (p:=⟨R<|Z l,1,U⟩) (Oa:R (Z w)<=R (Z l)) _⟩)
       have dt:=Ab (show ∀q,q<R (Z l)->(Z<|jJ W ⟨R<|Z l,1,U⟩<|Y D z c7)[q]? =(Z l)[q]? from λq hq=>by
        rw[H5 (Oa:q≠R (Z l))];exact ah.block q hq)
       have br:=Ab<|Dq (w':=(jJ W ⟨R<|Z l,1,U⟩<|Y D z c7)) (Uy aG z Hv) λq _ hq _=>Aa dt q hq;have bT:=Ab<|Dq (w':=(jJ W ⟨R<|Z l,1,U⟩<|Y D z c7)) aM λq _ hq _=>Aa dt q hq;have ec:=Ab bG;have ed:=Ab aG.lt;have eS:=Ab aM.lt;have du:=Ab<|show R (Z aL)<=R (Z l)from bH.size;clear bG aG aM bH ah;have ee:=Ab (show(Ak s.stack).take z=Ak (s.stack.take z) by rw[Ak,Ak,List.map_take]);have d7:z<=200:=Hv;have a8:=Ab (show T (s.stack.take z)=z by rw[zg];have:=Aa aN;omega);rw[Aa ee]at br;by_cases eT: 0<L
       .have dv:=Ab<|G1 (Aa br)<|jH #[V X L] 3;have dw:=Ab<|CU (jJ W ⟨R<|Z l,1,U⟩<|Y D z c7) (R<|Z W) Ox [L] 3 1 Ox;have dx:=Ab<|(Aa av).aA<|BRN.alloc NLN<|jH #[V X L] 3;have dy:=Ab<|(Aa ds).alloc<|jH #[V X L] 3;have dz:=Ab (Ox:R (Z W)+1=R (Z<|jK (jJ W ⟨R<|Z l,1,U⟩<|Y D z c7)<|jH #[V X L] 3));have aW:=Ab (show ak=⟨s.stack.take z++[L],s.aE⟩ by rw[Aa bv,H7 Oa]);have bY:=Ab (show ∀q,jL (Value.slice D z c7)=Q q->R (Z aL)<=q/\q<R (Z l)from λq hq=>Aa ed q (by cases D with
         |none=>simp[jL]at hq
         |some cH=>exact hq))
        have aO:=Ab<|show R (Z w)+1+1+1<R (Z aL)from(Aa a2).2.2.2.1.lt;have bS:=Ab<|show R (Z w)+1+1+1<R (Z l)from(Aa bI).2.2.2.1.lt;have dA:=Ab (λdB (hg:World.grownBy (jK (jJ W ⟨R<|Z l,1,U⟩<|Y D z c7)<|jH #[V X L] 3) dB<|jL<|Value.slice D z c7)=>Dq (w':=dB) (G1 (Aa bT)<|jH #[V X L] 3) (λq hq cm hx=>hg.block q cm (λe=>by
         cases D with
         |none=>cases e
         |some cH=>
          have ef:q=jT cH:=by simpa[jL]using e
          exact Aa ec cH (jA q 0 U) rfl hx ef.symm)))
        have aX:=Ab (show T ak.stack=z+1 by rw[Aa aW];simp[Aa a8]);clear cB;by_cases aa: 100<z+1
        .have J:=Ab (show As (P.map Vl.aC) S m k ⟨op,f⟩ s=(7,s) by rw[Aa aU,Aa aX,H8 aa]);have bs:(100 :Int)<(z:Int)+1:=Oa;have eg:(100 :Int)<((z+1 :Nat):Int):=Oa;clear aa;obtain b3|⟨b3,cI⟩:=bX
         all_goals
          go_wp2_with (first
           |(at_builtin;refine Iw rfl _ _ rfl (R (Z aL)) (Y D z c7) z (Ak (s.stack.take z)) rfl (Aa dv) (Q ⟨R (Z W),0,U⟩) 1 1 [L] rfl (Aa dw) Ox Oa (by have:=Aa dz;have:=Aa du;have:=Aa bn;omega) ?_;intro eh cJ aZ aH;obtain⟨al,ao,rfl⟩:=AA aZ;have cK:=Ab ((Aa dx).grown aH (λq hq=>(Aa bY q hq).1)<|Aa aO);have af:=(Aa dy).grown aH λe=>H2<|(Aa bY _ e.symm).2;have g1:=af.frozen 1;obtain⟨_,ei,_⟩:=At af;have a0:=af.set 1<|Y al (z+1) ao;simp only[zZ,zb,ze]at a0;obtain⟨cp,cq,cr⟩:=At a0;have bc:=Ab<|(Aa cK).bF ⟨R<|Z l,1,U⟩ (Y al (z+1) ao)<|Aa bS;obtain⟨_,⟨cs,ct,cu⟩,⟨cv,cw,cx⟩,_,cy,cz,cA⟩:=(Aa bc).cells;have dC:=Ab<|Du aZ ⟨R<|Z l,1,U⟩ af Bg<|Y al (z+1) ao;have dD:=Ab<|Du (Aa dA cJ aH) ⟨R<|Z l,1,U⟩ af Bg<|Y al (z+1) ao;clear aH aZ af a0 ax s1 s2 ay az aB N O aD f1 f2 bi bj bk)
           |fail)
          obtain⟨⟨E,F,G⟩,H⟩:=(Aa bc).put (.bool kn) (Y t y A)<|Y u B C;exact G2 (v:= jQ #[jM #[.bool kn,Y t y A,Y u B C],V X 7]) O4 rfl ⟨_,by rw[Aa J],H,(λe=>by rw[Aa J]at e;simp at e),_,_,_,_,_,_,_,rfl⟩
        .have J:=Ab (show As (P.map Vl.aC) S m k ⟨op,f⟩ s=(0,ak) by rw[Aa aU,Aa aX,H7 aa]);have bs: ¬ ((100 :Int)<(z:Int)+1):=Oa;have eg: ¬ ((100 :Int)<((z+1 :Nat):Int)):=Oa;clear aa;obtain b3|⟨b3,cI⟩:=bX
         all_goals
          go_wp2_with (first
           |(at_builtin;refine Iw rfl _ _ rfl (R (Z aL)) (Y D z c7) z (Ak (s.stack.take z)) rfl (Aa dv) (Q ⟨R (Z W),0,U⟩) 1 1 [L] rfl (Aa dw) Ox Oa (by have:=Aa dz;have:=Aa du;have:=Aa bn;omega) ?_;intro eh cJ aZ aH;obtain⟨al,ao,rfl⟩:=AA aZ;have cK:=Ab ((Aa dx).grown aH (λq hq=>(Aa bY q hq).1)<|Aa aO);have af:=(Aa dy).grown aH λe=>H2<|(Aa bY _ e.symm).2;have g1:=af.frozen 1;obtain⟨_,ei,_⟩:=At af;have a0:=af.set 1<|Y al (z+1) ao;simp only[zZ,zb,ze]at a0;obtain⟨cp,cq,cr⟩:=At a0;have bc:=Ab<|(Aa cK).bF ⟨R<|Z l,1,U⟩ (Y al (z+1) ao)<|Aa bS;obtain⟨_,⟨cs,ct,cu⟩,⟨cv,cw,cx⟩,_,cy,cz,cA⟩:=(Aa bc).cells;have dC:=Ab<|Du aZ ⟨R<|Z l,1,U⟩ af Bg<|Y al (z+1) ao;have dD:=Ab<|Du (Aa dA cJ aH) ⟨R<|Z l,1,U⟩ af Bg<|Y al (z+1) ao;clear aH aZ af a0 ax s1 s2 ay az aB N O aD f1 f2 bi bj bk)
           |fail)
          obtain⟨⟨E,F,G⟩,H⟩:=(Aa bc).put (.bool kn) (Y al (z+1) ao)<|Y ab (T s.aE) K;have dE:=Aa dC;rw[show Ak (s.stack.take z)++Ak [L]=Ak (s.stack.take z++[L]) by simp[Ak]]at dE;have aP:=Sy (Aa bc) dE (Aa dD) (H2<|Aa aO) Oa (by rw[Aa bf];omega);have a9:T ak.stack=z+1:=Aa aX;have ba:T ak.aE=T s.aE:=by rw[Aa aW]
          exact G2 (v:= jQ #[jM #[.bool kn,Y al (z+1) ao,Y ab (T s.aE) K],V X 0]) O4 rfl ⟨_,by rw[Aa J],H,(λ_=>⟨al,ao,ab,K,by rw[Aa J];simp only;rw[a9,ba],by rw[Aa J];simp only;rw[a9,ba,Aa aW];exact aP.1,aP.2⟩),_,_,_,_,_,_,_,rfl⟩
       .have ej:L=0:=Oa;subst ej;have aW:=Ab (show ak=⟨s.stack.take z,s.aE⟩ by rw[Aa bv,H8 rfl]);have aX:=Ab (show T ak.stack=z by rw[Aa aW];exact Aa a8);have aT:=Aa ds;simp only[zZ,zb,ze]at aT;obtain⟨cp,cq,cr⟩:=At aT;obtain⟨_,⟨cs,ct,cu⟩,⟨cv,cw,cx⟩,_,cy,cz,cA⟩:=(Aa av).cells;have aO:=Ab<|show R (Z w)+1+1+1<R (Z aL)from(Aa a2).2.2.2.1.lt;clear cB aT;have eU:(op==3)=jE:=by
         obtain b3|⟨_,cI⟩:=bX
         .exact b3
         .simp at cI
        clear bX;by_cases aa: 100<z
        .have J:=Ab (show As (P.map Vl.aC) S m k ⟨op,f⟩ s=(7,s) by rw[Aa aU,Aa aX,H8 aa]);have bs:(100 :Int)<(z:Int):=Oa;clear aa;go_wp2_with fail
         obtain⟨⟨E,F,G⟩,H⟩:=(Aa av).put (.bool kn) (Y t y A)<|Y u B C;exact G2 (v:= jQ #[jM #[.bool kn,Y t y A,Y u B C],V X 7]) O4 rfl ⟨_,by rw[Aa J],H,(λe=>by rw[Aa J]at e;simp at e),_,_,_,_,_,_,_,rfl⟩
        .have J:=Ab (show As (P.map Vl.aC) S m k ⟨op,f⟩ s=(0,ak) by rw[Aa aU,Aa aX,H7 aa]);have bs: ¬ ((100 :Int)<(z:Int)):=Oa;clear aa;go_wp2_with fail
         obtain⟨⟨E,F,G⟩,H⟩:=(Aa av).put (.bool kn) (Y D z c7)<|Y ab (T s.aE) K;have aP:=Sy (Aa av) (Aa br) (Aa bT) (H2<|Aa aO) Oa (by rw[Aa bf];omega);have a9:T ak.stack=z:=Aa aX;have ba:T ak.aE=T s.aE:=by rw[Aa aW]
         exact G2 (v:= jQ #[jM #[.bool kn,Y D z c7,Y ab (T s.aE) K],V X 0]) O4 rfl ⟨_,by rw[Aa J],H,(λ_=>⟨D,c7,ab,K,by rw[Aa J];simp only;rw[a9,ba],by rw[Aa J];simp only;rw[a9,ba,Aa aW];exact aP.1,aP.2⟩),_,_,_,_,_,_,_,rfl⟩
  .have aQ:=Ab (show As (P.map Vl.aC) S m k ⟨op,f⟩ s=(4,s) by unfold As;rw[zN,H7<|by rw[Aa aK];decide,H8 (Oa:T s.stack<AM op)]);have ek:(T s.stack:Int)<(T o.1:Int):=by rw[Aa aR];omega
   clear cc;generalize T o.1=d5 at ek|-;go_wp2_with fail
   obtain⟨⟨E,F,G⟩,H⟩:=(Aa aq).put (.bool kn) (Y t y A)<|Y u B C;exact G2 (v:= jQ #[jM #[.bool kn,Y t y A,Y u B C],V X 4]) O4 rfl ⟨_,by rw[Aa aQ],H,(λe=>by rw[Aa aQ]at e;simp at e),_,_,_,_,_,_,_,rfl⟩
 .have cL:AF (T P) S m k ⟨op,f⟩=jE:=by simpa using a1
  have bh:AF n S m k ⟨op,f⟩=jE:=by rw[Aa bZ];exact cL
  have aK:=Ab (show As (P.map Vl.aC) S m k ⟨op,f⟩ s=(3,s) by unfold As;rw[zN,H8 cL]);rw[bh];clear a1 bh cL;go_wp2_with fail
  obtain⟨⟨E,F,G⟩,H⟩:=(Aa bD).put (.bool kn) (Y t y A)<|Y u B C;exact G2 (v:= jQ #[jM #[.bool kn,Y t y A,Y u B C],V X 3]) O4 rfl ⟨_,by rw[Aa aK],H,(λe=>by rw[Aa aK]at e;simp at e),_,_,_,_,_,_,_,rfl⟩
def Sok (S:Nat) (s:Vs):Prop:=T s.stack<=100/\T s.aE=S/\(∀x∈s.stack,1<=x)/\∀x∈s.aE,0<=x
theorem Aai {S:Nat}(b:∀x∈PK,1<=x)(h0: 1<=i.op)(c:i.op<=25)(a:AM i.op<=T s.stack)(ht:AJ i s=jD)(hs:Sok S s):(∀x∈(AT PK i s).stack,1<=x)/\∀x∈(AT PK i s).aE,0<=x:=by
 obtain⟨_,_,h3,d⟩:=hs;have g: 0<=BR PK i s:=by
  have:=Sw PK i s.stack s.aE h0 c ht;rw[show(⟨s.stack,s.aE⟩:Vs)=s from rfl]at this;rw[<-this];exact Lz PK i s.aE b d
 unfold AT;split
 .rename_i e;rw[e]at a;have f: 1<=T s.stack:=a;refine⟨λx hx=>h3 x<|Z9 hx,λx hx=>?_⟩;obtain h|h:=List.mem_or_eq_of_mem_set hx
  .grind
  .subst h;have:=VD s.stack f h3;omega
 grind
theorem Af5 {S M:Nat}(c:∀x∈PK,1<=x)(h0: 1<=i.op)(d:i.op<=25)(hs:Sok S s)(h:(As PK S M k i s).1=0):Sok S (As PK S M k i s).2:=by
 have hh:=JK h;have a:T (As PK S M k i s).2.aE=S:=by rw[It];exact hs.2.1
 unfold As at h hh a|-;split at h
 .cases h
 split at h
 .cases h
 split at h
 .cases h
 split at h
 .cases h
 split at h
 .cases h
 rename_i a1 a2 a3 a4 a5;rw[H7 a1,H7 a2,H7 a3,H7 a4,H7 a5]at hh a|-;have b:=Aai (PK:=PK) (i:=i) c h0 d Oa (by simpa using a3) hs;exact⟨hh,a,b.1,b.2⟩
theorem Ac9 {S m k:Nat}(h:AF a S m k i=jD)(b:k<m)(h0: 0<=i.aY):(∀x∈AI k i,k<x)/\∀x∈(AI k i).tail,x<m:=by
 obtain⟨op,c⟩:=i;simp only at h0;unfold AF at h;unfold AI
 grind
def Sz (w:jB) (lo:Nat) (cs:Array jF) (j:Nat):M5->Prop
 |none=>∃x1 n1 c1 x2 n2 c2,cs[j*3]? =Q (.bool jE)/\cs[j*3+1]? =Q (Y x1 n1 c1)/\cs[j*3+2]? =Q (Y x2 n2 c2)
 |some s=>∃x c y d,cs[j*3]? =Q (.bool jD)/\cs[j*3+1]? =Q (Y x (T s.stack) c)/\cs[j*3+2]? =Q (Y y (T s.aE) d)/\Lt w x y (T s.stack) c (T s.aE) d s/\(∀ad,x=Q ad->lo<=jT ad)/\∀ad,y=Q ad->lo<=jT ad
structure Ks (w:jB) (lo sb m k:Nat) (K:List M5) (cs:Array jF):Prop where
 row:Ag w sb cs 46
 size:cs.size=m*3
 low:sb<lo
 loc:∀j,k<=j->j<m->Sz w lo cs j (K.getD j U)
theorem Lt.bF {w:jB}{b c:L3}{d f g i lo:Nat}{s:Vs}(h:Lt w b c d f g i s)(k:∀a,b=Q a->lo<=jT a)(l:∀a,c=Q a->lo<=jT a)(p:jG)(v:jF)(j:jT p<lo):Lt (jJ w p v) b c d f g i s:=⟨h.st.bF k p v j,h.sl.bF l p v j,h.n1,h.n2⟩
theorem Sz.below {w w':jB}{lo B j:Nat}{a:Array jF}{o:M5}(h:Sz w lo a j o)(b:Below B w w')(f:R (Z w)<=B):Sz w' lo a j o:=by
 cases o with
 |none=>exact h
 |some s=>
   obtain⟨x,c,y,d,g,i,h3,k,h5⟩:=h;exact⟨x,c,y,d,g,i,h3,k.below b f,h5⟩
theorem Ks.below {w w':jB}{lo a m k B:Nat}{K:List M5}{b:Array jF}(h:Ks w lo a m k K b)(c:Below B w w')(d:R (Z w)<=B):Ks w' lo a m k K b:=
 ⟨h.row.aA c d,h.size,h.low,λj f g=>(h.loc j f g).below c d⟩
def Yo (w:jB) (b o:Nat) (x y z:jF):jB:=jJ (jJ (jJ w (jA b o U) x) ⟨b,o+1,U⟩ y) ⟨b,o+2,U⟩ z
theorem SA (a:Array jF)(j i:Nat)(x y z:jF)(h:j*3+3<=a.size):(((a.setIfInBounds (j*3) x).setIfInBounds (j*3+1) y).setIfInBounds (j*3+2) z)[i]? =if i=j*3 then Q x else if i=j*3+1 then Q y else if i=j*3+2 then Q z else a[i]? :=S4
theorem Ks.put {lo b m k:Nat}{a:Array jF}(h:Ks w lo b m k K a)(n:Nat)(v:n<m)(x y z:jF)(f:List M5)(c:Nat)(A:k<=c)(o:∀j,c<=j->j<m->j≠n->f.getD j U=K.getD j U)
  (hc:c<=n->Sz (Yo w b (n*3) x y z) lo (((a.setIfInBounds (n*3) x).setIfInBounds (n*3+1) y).setIfInBounds (n*3+2) z) n (f.getD n U)):
  Ks (Yo w b (n*3) x y z) lo b m c f (((a.setIfInBounds (n*3) x).setIfInBounds (n*3+1) y).setIfInBounds (n*3+2) z) where
 row:=((h.row.set (n*3) x).set (n*3+1) y).set (n*3+2) z
 size:=by simp[h.size]
 low:=h.low
 loc:=λj i l=>by
  by_cases e:j=n
  .subst e;exact hc i
  .rw[o j i l e];have hs:n*3+3<=a.size:=by rw[h.size];omega
   have c0:=SA a n (j*3) x y z hs;have c1:=SA a n (j*3+1) x y z hs;have c2:=SA a n (j*3+2) x y z hs;rw[H7 Oa,H7 Oa,H7 Oa]at c0 c1 c2;have d:=h.loc j Oa l;cases hg:K.getD j U with
   |none=>
    rw[hg]at d;obtain⟨p,n1,d1,q,n2,d2,g,a1,a2⟩:=d;exact⟨p,n1,d1,q,n2,d2,c0.trans g,c1.trans a1,c2.trans a2⟩
   |some s=>
    rw[hg]at d;obtain⟨r,c',t,u,g,a1,a2,a3,a4,a5⟩:=d;exact⟨r,c',t,u,c0.trans g,c1.trans a1,c2.trans a2,((a3.bF a4 a5 _ _ h.low).bF a4 a5 _ _ h.low).bF a4 a5 _ _ h.low,a4,a5⟩
theorem Ag.cH {b:Nat}{a:Array jF}{t:TypeId}(R:Ag w b a t)(j:Nat)(x y z:jF)(h0:a[j*3]? =Q x)(c:a[j*3+1]? =Q y)(d:a[j*3+2]? =Q z):jI w ⟨b,j*3,U⟩=Q x/\jI w ⟨b,j*3+1,U⟩=Q y/\jI w ⟨b,j*3+2,U⟩=Q z:=by grind [Ag.cell]
theorem AjM:(jZ.info? 46).map (λi=>(i.zero,i.size,i.bytes))=Q (Q<|jM #[.bool jE,Y U 0 0,Y U 0 0],3,56):=Oy
def zs (m:Nat):Array jF:=madeCells #[.bool jE,Y U 0 0,Y U 0 0]<|m*3
theorem Abw (m:Nat):(zs m).size=m*3:=size_madeCells _ _
theorem Uz (m j:Nat)(h:j<m):(zs m)[j*3]? =Q (.bool jE)/\(zs m)[j*3+1]? =Q (Y U 0 0)/\(zs m)[j*3+2]? =Q (Y U 0 0):=by
 have e0:j*3 % 3=0:=Oa;have e1:(j*3+1) % 3=1:=Oa;have e2:(j*3+2) % 3=2:=Oa;refine⟨?_,?_,?_⟩
 .simp[zs,madeCells,e0,(Oa:j*3<m*3)]
 .simp[zs,madeCells,e1,(Oa:j*3+1<m*3)]
 .simp[zs,madeCells,e2,(Oa:j*3+2<m*3)]
def mkS (w:jB) (m:Nat):jB:=jK w<|jH (zs m) 46
theorem Yp (m:Nat)(hm:m<=1048576)(w:jB):(Instr.makeSlice 43 (V X (m:Int))<|V X (m:Int)).run jZ w= .ok (Y (Q ⟨R<|Z w,0,U⟩) m m) (mkS w m):=by
 obtain⟨i,hi,a,b,c⟩:=info_parts AjM;have h:=run_make w (P:=jZ) 43 46 i _ underlying43 hi a X X (m:Int) (m:Int) Oa (zp _) (by rw[c];omega) Oa;rw[b]at h;simp only[zS]at h;exact h
theorem Yq {P:M1}{s:Int}{I:M2}(h:DO P s I=jD):∀x∈P.map Vl.aC,1<=x:=by grind [CW,DO]
def VsI (w:jB) (sb m S:Nat) (v0 v1 v2:jF) (PK:L2) (I:M2) (R:Int×Int) (j bd:Nat) (wr:jB):Prop:=
 ∃ (K:List M5) (cs:Array jF),j<=m/\Gp PK S I (m-j) j K bd=R/\Ks wr (sb+1) sb m j K cs/\T K=m/\(∀i s,K.getD i U=Q s->Sok S s)/\bd<=100/\Ag wr (jh<|Z w) #[v0,v1,v2] 26/\Ai w wr/\sb+1<=jh (Z wr)
theorem Af6 (m S:Nat)(hm: 0<m):∀(i:Nat) (s:Vs),((List.replicate m (U:M5)).set 0<|Q<|Vw S).getD i U=Q s->Sok S s:=by
 intro i st a;by_cases b:i=0
 .subst b;rw[List.getD,Z2<|by simpa using hm]at a;simp only[Option.getD_some,Option.some.injEq]at a;subst a;exact⟨by simp[Vw],by simp[Vw],by simp[Vw],λx hx=>by simp[Vw]at hx;omega⟩
 grind
theorem Af7 {w2:jB}{S:Nat}(hm: 0<m)(n:S<=600)(h:Ag w2 a (zs m) 46):
  Ks (Yo (jK w2<|jH (Array.replicate S<|V X 0) 3) a (0*3) (.bool jD) (Y U 0 0)<|Y (Q ⟨R<|Z w2,0,U⟩) S S) (a+1) a m 0 ((List.replicate m U).set 0<|Q<|Vw S) ((((zs m).setIfInBounds (0*3)<|.bool jD).setIfInBounds (0*3+1)<|Y U 0 0).setIfInBounds (0*3+2)<|Y (Q ⟨R<|Z w2,0,U⟩) S S):=by
 have g:∀j,(List.replicate m (U:M5)).getD j U=U:=λj=>S4;have i:Ks (jK w2<|jH (Array.replicate S<|V X 0) 3) (a+1) a m 0 (List.replicate m U)<|zs m:=
  ⟨h.alloc _,Abw m,Oa,λj _ c=>by
   rw[g j];exact⟨_,_,_,_,_,_,(Uz m j c).1,(Uz m j c).2.1,(Uz m j c).2.2⟩⟩
 have o:=h.lt;refine i.put 0 hm _ _ _ _ 0 NLN (λj _ _ c=>?_) λ_=>?_
 .grind
 .rw[List.getD,Z2<|by simpa using hm];have hs: 0*3+3<=(zs m).size:=by rw[Abw];omega
  have f:=CU w2 (R<|Z w2) rfl (List.replicate S 0) 3 S O0;rw[(Ox:(List.map (Value.int X)<|List.replicate S 0).toArray=Array.replicate S (V X 0)),(Ox:T (List.replicate S (0 :Int))=S)]at f;have d:∀b,(Q ⟨R<|Z w2,0,U⟩:L3)=Q b->a+1<=jT b:=λb e=>by cases e;show a+1<=R (Z w2);omega
  have k:Lt (jK w2<|jH (Array.replicate S<|V X 0) 3) U (Q ⟨R<|Z w2,0,U⟩) 0 0 S S<|Vw S:=⟨⟨rfl,Oa,λj c=>H9 c<|by simp[Vw]⟩,f,λ_=>rfl,λe=>O5⟩
  refine⟨U,0,Q ⟨R<|Z w2,0,U⟩,S,?_,?_,?_,?_,λb e=>O5,?_⟩
  .grind
  .rw[SA _ _ _ _ _ _ hs,H7 Oa,H8 rfl];rfl
  .grind [Vw,SA]
  .have l:T (Vw S).aE=S:=by simp[Vw]
   rw[l];exact((k.bF (lo:=a+1) (λb e=>O5) d _ _ Do).bF (lo:=a+1) (λb e=>O5) d _ _ Do).bF (lo:=a+1) (λb e=>O5) d _ _ Do
  .exact d
theorem Ks.lay (h:Ks w (a+1) a m k K g)(n:Nat)(i:n<m){x y:L3}{d:Nat}{t:Vs}(l:Lt w x y (T t.stack) c (T t.aE) d t)(hx:∀b,x=Q b->a+1<=jT b)(hy:∀b,y=Q b->a+1<=jT b)(f:List M5)(o:f.getD n U=Q t)(p:∀j,j≠n->f.getD j U=K.getD j U):
  ∃q,Ks (Yo w a (n*3) (.bool jD) (Y x (T t.stack) c)<|Y y (T t.aE) d) (a+1) a m k f q:=by
 refine⟨_,h.put n i _ _ _ f k NLN (λj _ _ r=>p j r) λ_=>?_⟩;rw[o];have hs:n*3+3<=g.size:=by rw[h.size];omega
 refine⟨x,c,y,d,?_,?_,?_,?_,hx,hy⟩
 .grind
 .grind
 .grind
 .exact((l.bF hx hy _ _ Do).bF hx hy _ _ Do).bF hx hy _ _ Do
def McI (w:jB) (sb m S j b5:Nat) (v0 v1 v2:jF) (x5 y5 xn:L3) (d5 e5 cn:Nat) (t:Vs) (ns:N6) (K:List M5) (q:Nat) (wq:jB):Prop:=
 ∃ (ns':N6) (K':List M5) (cs':Array jF),ns.drop q=ns'/\q<=T ns/\G3 t ns' K'=G3 t ns K/\T K'=m/\(∀i s,K'.getD i U=Q s->Sok S s)/\Ks wq (sb+1) sb m (j+1) K' cs'/\Ag wq (R<|Z w) #[v0,v1,v2] 26/\Ag wq b5 #[.bool jD,Y x5 (T t.stack) d5,Y y5 (T t.aE) e5] 46/\Lt wq x5 y5 (T t.stack) d5 (T t.aE) e5 t/\AP wq xn (T ns) cn (ns.map Int.ofNat)/\Ai w wq/\b5+1+1<=R (Z wq)
theorem McI.lay {w wq:jB}{a m S j b5 d5 e5 cn q b:Nat}{n o r:jF}{f g h:L3}{t:Vs}{ns k:N6}{K u d:List M5}{x:Array jF}(hd:ns.drop q=b ::k)(hg:G3 t k d=G3 t ns K)(y:T d=m)(z:∀i s,d.getD i U=Q s->Sok S s)(A:Ks wq (a+1) a m (j+1) u x)(B:Ag wq (R<|Z w) #[n,o,r] 26)(C:Ag wq b5 #[.bool jD,Y f (T t.stack) d5,Y g (T t.aE) e5] 46)(v:Lt wq f g (T t.stack) d5 (T t.aE) e5 t)(D:AP wq h (T ns) cn<|ns.map Int.ofNat)(E:Ai w wq)(M:b5+1+1<=R (Z wq))
  (F:b<m)(hx:∀c,f=Q c->a+1<=jT c)(hy:∀c,g=Q c->a+1<=jT c)(l:∀c,h=Q c->b5+1+1<=jT c)(N:a+1<=b5)(O:R (Z w)<a)(G:d.getD b U=Q t)(H:∀i,i≠b->d.getD i U=u.getD i U):
  McI w a m S j b5 n o r f g h d5 e5 cn t ns K (q+1) (Yo wq a (b*3) (.bool jD) (Y f (T t.stack) d5)<|Y g (T t.aE) e5):=by
 obtain⟨I,J⟩:=A.lay b F v hx hy d G H;have L:q<T ns:=by
  have:=congrArg T hd
  grind
 refine⟨k,d,I,?_,L,hg,y,z,J,?_,?_,?_,?_,?_,?_⟩
 .have:=congrArg List.tail hd;simpa using this
 .exact((B.aF (p:=⟨a,b*3,U⟩) (Oa:R (Z w)≠a) _).aF (p:=⟨a,b*3+1,U⟩) (Oa:R (Z w)≠a) _).aF (p:=⟨a,b*3+2,U⟩) (Oa:R (Z w)≠a) _
 .exact((C.aF (p:=⟨a,b*3,U⟩) (Oa:b5≠a) _).aF (p:=⟨a,b*3+1,U⟩) (Oa:b5≠a) _).aF (p:=⟨a,b*3+2,U⟩) (Oa:b5≠a) _
 .exact((v.bF hx hy _ _ Do).bF hx hy _ _ Do).bF hx hy _ _ Do
 .exact((D.bF l _ _ (Oa:a<b5+1+1)).bF l _ _ (Oa:a<b5+1+1)).bF l _ _ (Oa:a<b5+1+1)
 .exact((E.setCell (p:=⟨a,b*3,U⟩) (Oa:R (Z w)<=a) _).setCell (p:=⟨a,b*3+1,U⟩) (Oa:R (Z w)<=a) _).setCell (p:=⟨a,b*3+2,U⟩) (Oa:R (Z w)<=a) _
 .simp[Yo];omega
theorem Aic {n:Nat}{t:Vs}(Q:Vs->Prop)(ht:Q t)(h:∀i s,K.getD i U=jg s->Q s):∀i s,(K.set n<|jg t).getD i U=jg s->Q s:=by
 intro i s a;by_cases e:n=i
 .grind
 .rw[List.getD,Z6 e]at a;exact h i s a
theorem Af8 {ns:N6}{m q:Nat}(hq:q<T ns)(ht:∀x∈ns.tail,x<m)(hm:∀x∈ns,x<=m)(b:m<=ns[q]):q=0/\∃a,ns=m ::a:=by cases ns<;>grind [zI]
theorem Yc (a b:L3)(n c m d:Nat)(s:Int)(P:M1)(I:M2)(w:jB)(br:SC w a n c P)(aP:PX w b m d I):
  Calls jZ 5 #[jM #[Y a n c,V X s,Y b m d]] w λe w'=>VfA w (DG P s I) e w':=by
 have eB:=aP.aJ;have ai:=aP.len;have W:=AE w<|jH #[Y a n c,V X s,Y b m d] 26;have ay:=Ab<|WO a b n c m d s P I _ (br.below W NLN)<|aP.below W NLN;have RC:=Ag.new w #[Y a n c,V X s,Y b m d] 26;obtain⟨dE,q1,q2⟩:=At RC;have dF:=RC.lt;cases J:DO P s I with
 |false=>
  have aQ:=Ab (show DG P s I=(0,1) by unfold DG;rw[H8 J]);rw[J]at ay;clear J ai;go_enter func5,ntmps5
  go_wp2_with fail
  refine(Aa ay).mono ?_;rintro e g ⟨rfl,aa⟩;go_wp2
  exact G2 (v:= jQ #[V X 0,V X 1]) P9 rfl ⟨by rw[Aa aQ],W.trans<|aa.mono W.size⟩
 |true=>
  have cv:=Ab<|Sv J;have cw:=Ab J;rw[J]at ay;by_cases cy:m=0
  .have cz:I=[]:=zd Oa;have aQ:=Ab (show DG P s I=(0,8) by unfold DG;rw[H7<|by rw[J];decide,H8 cz]);subst cy;clear J ai cz;go_enter func5,ntmps5
   go_wp2_with fail
   refine(Aa ay).mono ?_;rintro e g ⟨rfl,aa⟩;have bs:=(aa.cell (p:=⟨R<|Z w,2,U⟩) dF).trans q2;go_wp2
   exact G2 (v:= jQ #[V X 0,V X 8]) P9 rfl ⟨by rw[Aa aQ],W.trans<|aa.mono W.size⟩
  .have aR: 0<m:=Oa;have dG: 0<=s:=(Aa cv).2.2.1;obtain⟨S,rfl⟩:=zo dG;have eC:((m:Int)==0)=jE:=zA.2 Oa;have cA:S<=600:=H2<|(Aa cv).2.2.2;have aQ:=Ab (show DG P S I=Gp (P.map Vl.aC) S I m 0 ((List.replicate m U).set 0<|Q<|Vw S) 0 by
    unfold DG;rw[H7<|by rw[J];decide,H7 (by intro e;rw[e]at ai;simp at ai;omega),zS,ai];rfl)
   have dH:∀w',(Instr.makeSlice 43 (V X (m:Int))<|V X (m:Int)).run jZ w'= .ok (Y (Q ⟨R<|Z w',0,U⟩) m m) (mkS w' m):=λw'=>Yp m Oa w';have dI:∀w',(Instr.makeSlice 44 (V X (S:Int))<|V X (S:Int)).run jZ w'= .ok (Y (Q ⟨R<|Z w',0,U⟩) S S) (jK w'<|jH (List.replicate S<|V X 0).toArray 3):=λw'=>by
    rw[<-KZ];exact run_make_row' 44 3 (V X 0) 8 underlying44 If rfl X X S Oa Oa w'
   have eD:(0 :Int)<(m:Int):=Oa;have bt:=Ab ai;clear J ai cy;go_enter func5,ntmps5
   go_wp2_with fail
   refine(Aa ay).mono ?_;rintro e g ⟨rfl,aa⟩;have a9:=RC.aA aa NLN;have bu:=W.trans<|aa.mono W.size;have bv:Ag (mkS g m) (R<|Z w) #[Y a n c,V X S,Y b m d] 26:=a9.alloc<|jH (zs m) 46;have bw:Ag (mkS g m) (R<|Z g) (zs m) 46:=Ag.new g (zs m) 46;have bx:Ai w<|mkS g m:=bu.alloc bu.size<|jH (zs m) 46;have dJ:R (Z g)+1<=(mkS g m).heap.size:=by simp[mkS]
   have cB:R (Z w)<R (Z g):=a9.lt;have bz:=bv.alloc<|jH (Array.replicate S<|V X 0) 3;have aS:=bw.alloc<|jH (Array.replicate S<|V X 0) 3;have cC:=bx.alloc bx.size<|jH (Array.replicate S<|V X 0) 3;obtain⟨cD,cE,bs⟩:=At a9;obtain⟨u0,u1,u2⟩:=At bv;obtain⟨dK,dL,dM⟩:=At bz;obtain⟨aT,aU,aV⟩:=aS.cH 0 _ _ _ (Uz m 0 aR).1 (Uz m 0 aR).2.1 (Uz m 0 aR).2.2;simp only[zu,zY]at aT aU aV;have g0:=aS.frozen 0;have g1:=aS.frozen 1;have g2:=aS.frozen 2;go_wp2_with fail
   have bA:Hid<|VsI w (R<|Z g) m S (Y a n c) (V X S) (Y b m d) (P.map Vl.aC) I (DG P S I) 0 0<|Yo ((mkS g m).alloc<|jH (Array.replicate S<|V X 0) 3) (R<|Z g) (0*3) (.bool jD) (Y U 0 0)<|Y (Q ⟨(mkS g m).heap.size,0,U⟩) S S:=Ab ⟨_,_,zE _,by rw[Nat.sub_zero];exact(Aa aQ).symm,Af7 aR cA bw,Ox,Af6 m S aR,Oa,((bz.aF (p:=⟨R<|Z g,0,U⟩) (Oa:R (Z w)≠R (Z g)) _).aF (p:=⟨R<|Z g,1,U⟩) (Oa:R (Z w)≠R (Z g)) _).aF (p:=⟨R<|Z g,2,U⟩) (Oa:R (Z w)≠R (Z g)) _,((cC.setCell (p:=⟨R<|Z g,0,U⟩) (Oa:R (Z w)<=R (Z g)) _).setCell (p:=⟨R<|Z g,1,U⟩) (Oa:R (Z w)<=R (Z g)) _).setCell (p:=⟨R<|Z g,2,U⟩) (Oa:R (Z w)<=R (Z g)) _,by simp[Yo];omega⟩;have cF:∀x∈P.map Vl.aC,1<=x:=Yq<|Aa cw;have dN:=Ab (λj=>λ(h:j<m)=>Uv (Aa cw) j<|by rw[Aa bt];exact h);have dO:=Ab cB;clear a9 bv bz bw aS bu bx cC cD cE bs u0 u1 u2 dK dL dM aT aU aV g0 g1 g2 dJ cB dH dI dE q1 q2 aa RC ay;have ba:Hid<|R (Z w)<R (Z g):=dO;generalize R (Z g)=f at bA ba|-;go_loopw [5,37] (λaW i wr=>∃ (j k:Nat),aW=V X k/\i=V X j/\Hid (VsI w f m S (Y a n c) (V X S) (Y b m d) (P.map Vl.aC) I (DG P S I) j k wr)) (λ_ i _=>m-(RowKit.intOf i).toNat)
   case atStart=>exact⟨0,0,rfl,rfl,bA⟩
   case round=>
    obtain⟨j,k,rfl,rfl,cG⟩:=hrel;obtain⟨K,eE,bB,aj,l,bb,bC,bc,G,A,cI⟩:=Aa cG;obtain⟨c0,c1,c2⟩:=At G;clear bA cG;by_cases aX:j<m
    .have eF:(j:Int)<(m:Int):=Oa;obtain⟨r,bd⟩:∃r,m-j=r+1:=⟨m-j-1,Oa⟩
     rw[bd]at aj;have aY:=Ab aj;have dP:=Ab bd;have ab:=Ab aX;have hc:=l.loc j NLN aX;cases hs:K.getD j U with
     |none=>
      rw[hs]at hc;obtain⟨dQ,n1,d1,dR,n2,d2,aZ,a1,a2⟩:=hc;obtain⟨aT,aU,aV⟩:=l.row.cH j _ _ _ aZ a1 a2;have az:=Ab (show DG P S I=(0,2) by rw[<-Aa aY,Uw _ _ _ _ _ _ _ hs]);clear aj bd hs aZ a1 a2 bb bB;go_wp2
      exact G2 (v:= jQ #[V X 0,V X 2]) P9 rfl ⟨by rw[Aa az],A.alloc A.size _⟩
     |some s=>
      rw[hs]at hc;obtain⟨x,cx,y,bf,aZ,a1,a2,H,dS,dT⟩:=hc;obtain⟨aT,aU,aV⟩:=l.row.cH j _ _ _ aZ a1 a2;obtain⟨cJ,bD,bE,bG⟩:=bC j s hs;obtain⟨bH,bI⟩:=Aa dN j aX;have bg:=AE wr<|jH #[.bool jD,Y x (T s.stack) cx,Y y (T s.aE) bf] 46;have bh:=A.alloc A.size<|jH #[.bool jD,Y x (T s.stack) cx,Y y (T s.aE) bf] 46;have cK:=Ab<|Ac8 a b n c m d S jD P I j s x y (T s.stack) cx (T s.aE) bf _ (br.below bh NLN) (aP.below bh NLN) aX br.aJ bH bI (H.below bg NLN) bD cA Oa bE cF bG;have bJ:=Ag.new wr #[.bool jD,Y x (T s.stack) cx,Y y (T s.aE) bf] 46;have cL:=Ab<|l.below bg NLN;have bK:=Ab<|G.aA bg NLN;obtain⟨e0,e1,e2⟩:=At<|Aa bK;obtain⟨w0,dU,dV⟩:=At bJ;have cM:=Ab bJ;have bL:=Ab bh;have aB:=Ab<|K6 bH bI;have dW:=Ab bC;have cN:=Ab bb;have bM:=Ab hs;have cO:=Ab<|K6 cJ<|K6 bD<|K6 bE bG;have eG:T s.stack<=200:=Oa;have dX:=Ab bc;have bN:=Ab<|show f+1<=R (Z wr)from cI;clear aj bd hs aZ a1 a2 bb bB cJ bD bE bG bH bI bg bh bJ H dS dT l G bC A bc cI;go_wp2_with fail
      refine(Aa cK).mono ?_;rintro e z ⟨eH,rfl,ak,bO,eI,C,eJ,d5,D,eK,e5,rfl⟩;have cP:=Ab<|(Aa cL).below ak NLN;have cQ:=Ab<|(Aa bK).aA ak NLN;have cS:=Ab<|(Aa cM).aA ak NLN;have a0:=Ab<|(Aa bL).trans<|ak.mono (Aa bL).size;obtain⟨E,bP⟩:∃E,E=As (P.map Vl.aC) S m j (I.getD j ⟨0,0⟩) s:=⟨_,rfl⟩
      rw[<-bP]at bO|-;have a3:=Ab bP;clear bP;have cT:=Ab bO;clear bO;by_cases h5:E.1=0
      .obtain⟨eL,eM,eN,e6,cU,cV,cW,cX⟩:=Aa cT h5;simp only[Value.agg.injEq,Array.mk.injEq,List.cons.injEq,Value.bool.injEq,Value.slice.injEq,and_true]at cU;obtain⟨rfl,⟨rfl,rfl,rfl⟩,rfl,rfl,rfl⟩:=cU;have bQ:=Ab cV;have cY:=Ab<|K6 cW cX;have bR:=Ab (show Sok S E.2 by rw[Aa a3];exact Af5 cF (Aa aB).1.1 (Aa aB).1.2 (Aa cO)<|by rw[<-Aa a3];exact h5);have bS:=Ab (show DG P S I=if (G3 E.2 (AI j<|I.getD j ⟨0,0⟩) K).1≠0 then (0,(G3 E.2 (AI j<|I.getD j ⟨0,0⟩) K).1)else Gp (P.map Vl.aC) S I r (j+1) (G3 E.2 (AI j<|I.getD j ⟨0,0⟩) K).2 (max k<|max (T s.stack)<|T E.2.stack) by
        rw[<-Aa aY,Om _ _ _ _ _ _ _ s<|Aa bM,Aa bt,<-Aa a3,H7<|by simpa using h5])
       have cZ:=Ab (show AF (T P) S m j (I.getD j ⟨0,0⟩)=jD by
        cases hg:AF (T P) S m j (I.getD j ⟨0,0⟩)with
        |true=>rfl
        |false=>
         have:E=(3,s):=by rw[Aa a3];unfold As;rw[zN,H8 hg]
         rw[this]at h5;simp at h5)
       rw[h5];clear h5 cV cW cX cT cK;obtain⟨t,c3⟩:∃t,t=E.2:=⟨_,rfl⟩
       rw[<-c3]at bQ bR bS|-;have eO:T t.stack<=100:=(Aa bR).1;clear c3;have aD:=AE z<|jH #[.bool jD,Y C (T t.stack) d5,Y D (T t.aE) e5] 46;have c4:=Ab<|(Aa cP).below aD NLN;have bT:=Ab<|(Aa cQ).aA aD NLN;have c5:=Ab<|(Aa cS).aA aD NLN;have bU:=Ab<|Ag.new z #[.bool jD,Y C (T t.stack) d5,Y D (T t.aE) e5] 46;have bV:=Ab<|(Aa a0).trans<|aD.mono (Aa a0).size;have c6:=Ab<|(Aa bQ).below aD NLN;have bW:=Ab<|show f+1<=R (Z z)from zB (Aa bN)<|zB Ox ak.size;obtain⟨dY,dZ,d0⟩:=At<|Aa bT;obtain⟨d3,d4,d6⟩:=At<|Aa c5;obtain⟨d7,d8,d9⟩:=At<|Aa bU;have eP:=Ab<|show R (Z wr)<R (Z z)from zL Ox ak.size;clear aD ak;go_wp2_with fail
       have aG:=(Below.refl (R<|Z<|jK z<|jH #[.bool jD,Y C (T t.stack) d5,Y D (T t.aE) e5] 46)<|jK z<|jH #[.bool jD,Y C (T t.stack) d5,Y D (T t.aE) e5] 46).alloc NLN<|jH #[V X<|T s.stack,V X<|T t.stack] 3;have ac:=Ab<|(Aa c4).below aG NLN;have bi:=Ab<|(Aa bT).aA aG NLN;have bj:=Ab<|(Aa bU).aA aG NLN;have bX:=Ab<|(Aa bV).trans<|aG.mono (Aa bV).size;have bY:=Ab<|(Aa c6).below aG NLN;have bZ:=Ag.new (jK z<|jH #[.bool jD,Y C (T t.stack) d5,Y D (T t.aE) e5] 46) #[V X (T s.stack:Int),V X (T t.stack:Int)] 3;rw[G0]at bZ;obtain⟨c7,c8⟩:=Bo bZ;obtain⟨c9,da,db⟩:=At<|Aa bi;obtain⟨dc,dd,de⟩:=At<|Aa bj;have df:=(Aa ac).loc j NLN<|Aa ab;rw[Aa bM]at df;obtain⟨eQ,eR,eS,e7,dg,dh,di,_⟩:=df;obtain⟨dj,dk,dl⟩:=(Aa ac).row.cH j _ _ _ dg dh di;have b0:=(Aa ac).row.frozen<|j*3;have b3:=(Aa ac).row.frozen<|j*3+1;have b4:=(Aa ac).row.frozen<|j*3+2;have b6:=Ab (Ox:R (Z z)+1+1=R (Z<|jK (jK z<|jH #[.bool jD,Y C (T t.stack) d5,Y D (T t.aE) e5] 46)<|jH #[V X<|T s.stack,V X<|T t.stack] 3));clear aG bZ cL cP c4 bK cQ bT cM cS c5 bU bL a0 bV bQ c6 dg dh di e0 e1 e2 dY dZ d0 w0 dU dV d3 d4 d6 d7 d8 d9 aT aU aV c0 c1 c2;generalize (jK (jK z (jH #[.bool jD,Y C (T t.stack) d5,Y D (T t.aE) e5] 46)) (jH #[V X (T s.stack),V X (T t.stack)] 3))=aH at ac bi bj bX bY c7 c8 c9 da db dc dd de dj dk dl b0 b3 b4 b6|-;have bc:=Aa dX;go_loop [5,65] (λaW i=>(i=V X 0/\aW=V X (k:Int))\/(i=V X 1/\aW=V X ((max k (T s.stack):Nat):Int))\/(i=V X 2/\aW=V X ((max k (max (T s.stack)<|T t.stack):Nat):Int))) (λ_ i=>2-(RowKit.intOf i).toNat)
       case atStart=>exact .inl ⟨rfl,rfl⟩
       case round=>
        obtain⟨rfl,rfl⟩|⟨rfl,rfl⟩|⟨rfl,rfl⟩:=hrel
        .by_cases hq:k<T s.stack
         .have bk:(k:Int)<(T s.stack:Int):=Oa;have a4:max k (T s.stack)=T s.stack:=Oa;have al:=Ab a4;clear a4 hq;go_wp2
          go_round
          case rel=>exact .inr<|.inl ⟨O1,by rw[Aa al]⟩
          case measure=>simp[RowKit.intOf]
         .have bk: ¬ ((k:Int)<(T s.stack:Int)):=Oa;have a4:max k (T s.stack)=k:=Oa;have al:=Ab a4;clear a4 hq;go_wp2
          go_round
          case rel=>exact .inr<|.inl ⟨O1,by rw[Aa al]⟩
          case measure=>simp[RowKit.intOf]
        .have b7:=Ab (Oa:max k (max (T s.stack)<|T t.stack)=max (max k<|T s.stack) (T t.stack));generalize max k (T s.stack)=b1 at b7|-;by_cases hq:b1<T t.stack
         .have bk:(b1:Int)<(T t.stack:Int):=Oa;have al:=Ab (Oa:max b1 (T t.stack)=T t.stack);clear hq;go_wp2
          go_round
          case rel=>exact .inr<|.inr ⟨O1,by rw[Aa b7,Aa al]⟩
          case measure=>simp[RowKit.intOf]
         .have bk: ¬ ((b1:Int)<(T t.stack:Int)):=Oa;have al:=Ab (Oa:max b1 (T t.stack)=b1);clear hq;go_wp2
          go_round
          case rel=>exact .inr<|.inr ⟨O1,by rw[Aa b7,Aa al]⟩
          case measure=>simp[RowKit.intOf]
        .have dm:=Ab (show max k (max (T s.stack)<|T t.stack)<=100 by have:=(Aa cO).1;omega);have a5:=Ab (show DG P S I=if (G3 t (AI j<|I.getD j ⟨0,0⟩) K).1≠0 then (0,(G3 t (AI j<|I.getD j ⟨0,0⟩) K).1)else Gp (P.map Vl.aC) S I r (j+1) (G3 t (AI j<|I.getD j ⟨0,0⟩) K).2 (max k<|max (T s.stack)<|T t.stack)from Aa bS);generalize max k (max (T s.stack) (T t.stack))=dn at dm a5|-;clear c7 c8 bc;have b8:R (Z w)≠f:=H2 (Aa ba)
         have dp:=Ab<|show Ks (jJ (jJ (jJ aH ⟨f,j*3,U⟩<|.bool jE) ⟨f,j*3+1,U⟩<|Y U 0 0) ⟨f,j*3+2,U⟩<|Y U 0 0) (f+1) f m (j+1) K _ from(Aa ac).put j (Aa ab) (.bool jE) (Y U 0 0) (Y U 0 0) K (j+1) (zU _) (λi _ _ _=>rfl) λh=>H9 h Oa;have b9:=Ab<|show Ag (jJ (jJ (jJ aH ⟨f,j*3,U⟩<|.bool jE) ⟨f,j*3+1,U⟩<|Y U 0 0) ⟨f,j*3+2,U⟩<|Y U 0 0) (R<|Z w) #[Y a n c,V X S,Y b m d] 26 from(((Aa bi).aF (p:=⟨f,j*3,U⟩) b8 _).aF (p:=⟨f,j*3+1,U⟩) b8 _).aF (p:=⟨f,j*3+2,U⟩) b8 _;have ca:R (Z z)≠f:=H2<|Aa bW;have dq:=Ab<|show Ag (jJ (jJ (jJ aH ⟨f,j*3,U⟩<|.bool jE) ⟨f,j*3+1,U⟩<|Y U 0 0) ⟨f,j*3+2,U⟩<|Y U 0 0) (R<|Z z) #[.bool jD,Y C (T t.stack) d5,Y D (T t.aE) e5] 46 from(((Aa bj).aF (p:=⟨f,j*3,U⟩) ca _).aF (p:=⟨f,j*3+1,U⟩) ca _).aF (p:=⟨f,j*3+2,U⟩) ca _;have cb:R (Z w)<=f:=H2<|Aa ba;have bl:=Ab<|show Ai w (jJ (jJ (jJ aH ⟨f,j*3,U⟩<|.bool jE) ⟨f,j*3+1,U⟩<|Y U 0 0) ⟨f,j*3+2,U⟩<|Y U 0 0)from(((Aa bX).setCell (p:=⟨f,j*3,U⟩) cb _).setCell (p:=⟨f,j*3+1,U⟩) cb _).setCell (p:=⟨f,j*3+2,U⟩) cb _;have ad:(∀B,C=Q B->f+1<=jT B)/\∀B,D=Q B->f+1<=jT B:=⟨λB e=>zB (Aa bN)<|zB Ox<|(Aa cY).1 B e,λB e=>zB (Aa bN)<|zB Ox<|(Aa cY).2 B e⟩
         have bm:=Ab ad;have dr:=Ab<|show Lt (jJ (jJ (jJ aH ⟨f,j*3,U⟩<|.bool jE) ⟨f,j*3+1,U⟩<|Y U 0 0) ⟨f,j*3+2,U⟩<|Y U 0 0) C D (T t.stack) d5 (T t.aE) e5 t from(((Aa bY).bF ad.1 ad.2 ⟨f,j*3,U⟩ _<|Nat.lt_succ_self _).bF ad.1 ad.2 ⟨f,j*3+1,U⟩ _<|Nat.lt_succ_self _).bF ad.1 ad.2 ⟨f,j*3+2,U⟩ _<|Nat.lt_succ_self _;have cc:=Ab (show R (Z z)+1+1=R (Z<|jJ (jJ (jJ aH ⟨f,j*3,U⟩<|.bool jE) ⟨f,j*3+1,U⟩<|Y U 0 0) ⟨f,j*3+2,U⟩<|Y U 0 0) by rw[Aa b6];simp);obtain⟨ea,eb,ec⟩:=At<|Aa b9;have cd:=Ab<|Ac3 a b n c m d S I j _ (aP.below (Aa bl) NLN) (Aa ab) (Aa aB).1 (Aa aB).2;have ce:=Ab<|Ac9 (Aa cZ) (Aa ab) (Aa aB).2;have ds:=Ab<|Mg (Aa cZ) (Aa ab) (Aa aB).2;generalize AI j (I.getD j ⟨0,0⟩)=ns at cd ce ds a5;clear ad;go_wp2_with fail
         refine(Aa cd).mono ?_;rintro e cf ⟨cg,cn,rfl,ch,ci,ao⟩;have dt:=Ab<|(Aa dp).below ao NLN;have aI:=Ab<|(Aa b9).aA ao NLN;have cj:=Ab<|(Aa dq).aA ao NLN;have ae:=Ab<|(Aa bl).trans<|ao.mono (Aa bl).size;have du:=Ab<|(Aa dr).below ao NLN;have ck:=Ab ch;have ed:=Ab ci;have eT:=ch.aJ;have dv:=Ab (show R (Z z)+1+1<=R (Z cf) by rw[Aa cc];exact ao.size);have dw:=Ab (show ∀B,cg=Q B->R (Z z)+1+1<=jT B from λB e=>by rw[Aa cc];exact ci B e);obtain⟨ee,ef,eg⟩:=At<|Aa aI;obtain⟨eh,ei,ej⟩:=At<|Aa cj;clear ch ci ao dp b9 dq bl dr cd ea eb ec c9 da db dc dd de dj dk dl b0 b3 b4 ac bi bj bX bY b6 cc bS ed;go_wp2_with fail
         go_loop [83] (λi=>∃q:Nat,i=V X q/\q<=T ns/\Hid (∀i,(h:i<T ns)->i<q->ns[i]<m)) (λi=>T ns-(RowKit.intOf i).toNat)
         case atStart=>exact⟨0,rfl,zE _,Ab λi _ h=>H9 h Oa⟩
         case round=>
          obtain⟨q,rfl,hq,cl⟩:=hrel;by_cases F:q<T ns
          .obtain⟨cm,co,hx,ek,N⟩:=(Aa ck).cells q (by simpa using F);have bn:jI cf ⟨cm,co+q,U⟩=Q (V X ((ns[q]:Nat):Int)):=by rw[N];simp
           have bk:(q:Int)<(T ns:Int):=Oa;subst hx;have cp:=Ab F;by_cases cq:m<=ns[q]
           .obtain⟨el,ap,dx⟩:=Af8 F (Aa ce).2 (Aa ds) cq;subst el;have az:=Ab (show DG P S I=(0,8) by
             rw[Aa a5,dx,Abu t m ap K (Aa cN).symm];rfl)
            rw[zX]at bn;clear dx;have cr:(m:Int)<=((ns[0]:Nat):Int):=Oa;generalize ns[0]=nq at bn cr;clear cq hq F N;go_wp2
            exact G2 (v:= jQ #[V X 0,V X 8]) P9 rfl ⟨by rw[Aa az],Aa ae⟩
           .have cr: ¬ ((m:Int)<=((ns[q]:Nat):Int)):=Oa;have em:=Ab (show ∀i,(h:i<T ns)->i<q+1->ns[i]<m from λi h hi=>by
             by_cases e:i=q
             .subst e;omega
             .exact Aa cl i h Oa)
            generalize ns[q]=nq at bn cr;clear cq hq F N;go_wp2
            go_round
            case rel=>exact⟨q+1,by have:=Aa cp;go_num,Aa cp,em⟩
            case measure=>have:=Aa cp;simp[RowKit.intOf];omega
          .have eq:T ns=q:=Oa;have eU:=Ab eq;have eV: ¬ ((q:Int)<(T ns:Int)):=Oa;have en:=Ab (show ∀x∈ns,x<m from λx hx=>by
            obtain⟨i,hi,rfl⟩:=zw hx;exact Aa cl i hi Oa)
           clear F hq eq cl;go_wp2_with fail
           have dy:Hid<|McI w f m S j (R<|Z z) (Y a n c) (V X S) (Y b m d) C D cg d5 e5 cn t ns K 0 cf:=Ab ⟨ns,K,_,rfl,zE _,rfl,Aa cN,Aa dW,Aa dt,Aa aI,Aa cj,Aa du,Aa ck,Aa ae,Aa dv⟩;clear dt aI cj ae du ck dv ee ef eg eh ei ej;obtain⟨dz,rfl⟩:∃dz,dz=wr:=⟨_,rfl⟩
           go_loopw [95] (λi wq=>∃q:Nat,i=V X q/\Hid (McI w f m S j (R<|Z z) (Y a n c) (V X S) (Y b m d) C D cg d5 e5 cn t ns K q wq)) (λi _=>T ns-(RowKit.intOf i).toNat)
           case atStart=>exact⟨0,rfl,dy⟩
           case round=>
            obtain⟨q2,rfl,dA⟩:=hrel;obtain⟨ap,af,eo,hd,F,hg,L,aq,l,G,ar,H,au,A,aK⟩:=Aa dA;clear dA dy;cases ap with
            |nil=>
             have ep:T ns=q2:=by have:=congrArg T hd;simp at this;omega
             have eW:=Ab hg;have eX: ¬ ((q2:Int)<(T ns:Int)):=Oa;have er:=Ab (show Gp (P.map Vl.aC) S I (m-(j+1)) (j+1) af dn=DG P S I by
              rw[Aa a5,<-hg];show _=if (0 :Int)≠0 then _ else _;rw[H7 Ob];show _=Gp _ _ _ _ _ af _;rw[show m-(j+1)=r by have:=Aa dP;omega])
             have es:=Ab L;clear hd F hg ep L;go_wp2
             go_roundw
             case rel=>exact⟨j+1,dn,rfl,by have:=Aa ab;go_num,Ab ⟨af,eo,H2 (Aa ab),Aa er,l,Aa es,aq,Aa dm,G,A,H2 (Aa bW)⟩⟩
             case measure=>have:=Aa ab;simp[RowKit.intOf];omega
            |cons o ap=>
             have ag:q2<T ns:=by have:=congrArg T hd;simp at this;omega
             have aL:ns[q2]=o:=by
              have:=congrArg (·[0]?) hd;simpa[List.getElem?_eq_getElem ag]using this
             have aM:o∈ns:=aL ▸ zI ag;have ah:o<m:=Aa en o aM;have a6:j<o:=(Aa ce).1 o aM;obtain⟨cm,co,hx,ek,N⟩:=au.cells q2 (by simpa using ag);have bn:jI wr ⟨cm,co+q2,U⟩=Q (V X (o:Int)):=by rw[N];simp[aL]
             have eY:(q2:Int)<(T ns:Int):=Oa;have eZ:(o:Int)<(m:Int):=Oa;obtain⟨cD,cE,bs⟩:=At ar;have av: ¬ o=T af:=by rw[L];omega
             have dB:f+1<=R (Z z):=Aa bW;have dC:R (Z w)<f:=Aa ba;have bo:=l.loc o a6 ah;have b0:=l.row.frozen<|o*3;have b3:=l.row.frozen<|o*3+1;have b4:=l.row.frozen<|o*3+2;have bp:=Ab ag;subst hx;cases M:af.getD o U with
             |none=>
              rw[M]at bo;obtain⟨dQ,n1,d1,dR,n2,d2,aw,b1,b2⟩:=bo;obtain⟨et,eu,ev⟩:=l.row.cH o _ _ _ aw b1 b2;have cs:=Ab (λnq=>McI.lay (wq:=wr.drewN nq) hd ((Abv t o ap af av M).symm.trans hg) (by rw[zv];exact L) (Aic (Sok S) (Aa bR) aq) (l.below (An wr nq) NLN) (G.aA (An wr nq) NLN) (ar.aA (An wr nq) NLN) (H.below (An wr nq) NLN) (au.below (An wr nq) NLN) (A.trans<|(An wr nq).mono A.size) aK ah (Aa bm).1 (Aa bm).2 (Aa dw) dB dC (by rw[List.getD,Z2<|by rw[L];exact ah];rfl) λi hi=>by rw[List.getD,Z6 λe=>hi e.symm];rfl);clear hd F hg L aq l G ar H au A aK aL aM ah a6 N av M ag aw b1 b2;go_wp2_with fail
              go_quiet (fail)
              go_wp2
              go_roundw
              case rel=>exact⟨q2+1,by have:=Aa bp;go_num,Ab (Aa cs nq)⟩
              case measure=>have:=Aa bp;simp[RowKit.intOf];omega
             |some u=>
              rw[M]at bo;obtain⟨ew,ex,ey,ez,aw,b1,b2,a7,ct,cu⟩:=bo;obtain⟨et,eu,ev⟩:=l.row.cH o _ _ _ aw b1 b2;have aN:=Ab λax=>Ux ew C (T u.stack) ex (T t.stack) d5 u.stack t.stack (wr.drewN ax) (a7.st.below (An wr ax) NLN)<|H.st.below (An wr ax) NLN;have a8:=Ab λax=>Ux ey D (T u.aE) ez (T t.aE) e5 u.aE t.aE (wr.drewN ax) (a7.sl.below (An wr ax) NLN)<|H.sl.below (An wr ax) NLN;by_cases O:u=t
              .have cs:=Ab λnq=>McI.lay (wq:=wr.drewN nq) hd ((Yn t o ap af u av M O).symm.trans hg) L aq (l.below (An wr nq) NLN) (G.aA (An wr nq) NLN) (ar.aA (An wr nq) NLN) (H.below (An wr nq) NLN) (au.below (An wr nq) NLN) (A.trans<|(An wr nq).mono A.size) aK ah (Aa bm).1 (Aa bm).2 (Aa dw) dB dC (by rw[M,O]) λi hi=>rfl;rw[zJ<|show u.stack=t.stack by rw[O]]at aN;rw[zJ<|show u.aE=t.aE by rw[O]]at a8;clear hd F hg L aq l G ar H au A aK aL aM ah a6 N av M ag aw b1 b2 a7 ct cu O;go_wp2_with fail
               go_quiet (first
                |(go_at_call 15;with_reducible refine Calls.quiet_of<|Aa aN _)
                |(go_at_call 15;with_reducible refine Calls.quiet_of<|Aa a8 _))
               go_wp2
               go_roundw
               case rel=>exact⟨q2+1,by have:=Aa bp;go_num,Ab (Aa cs nq)⟩
               case measure=>have:=Aa bp;simp[RowKit.intOf];omega
              .have aI:=Ab (show DG P S I=(0,9) by
                rw[Aa a5,<-hg,Us t o ap af u av M O];rfl)
               have ae:=Ab A;by_cases aO:u.stack=t.stack
               .have dD: ¬ u.aE=t.aE:=λe=>O (by
                 cases u;cases t;simp only at aO e;subst aO e;rfl)
                rw[zJ aO]at aN;rw[zH dD]at a8;clear hd F hg L aq l G ar H au A aK aL aM ah a6 N av M ag aw b1 b2 a7 ct cu O aO dD;go_wp2_with fail
                go_quiet (first
                 |(go_at_call 15;with_reducible refine Calls.quiet_of<|Aa aN _)
                 |(go_at_call 15;with_reducible refine Calls.quiet_of<|Aa a8 _))
                go_wp2
                exact G2 (v:= jQ #[V X 0,V X 9]) P9 rfl ⟨by rw[Aa aI],(Aa ae).trans<|(An wr nq).mono (Aa ae).size⟩
               .rw[zH aO]at aN;clear hd F hg L aq l G ar H au A aK aL aM ah a6 N av M ag aw b1 b2 a7 ct cu O aO;go_wp2_with fail
                go_quiet (first
                 |(go_at_call 15;with_reducible refine Calls.quiet_of<|Aa aN _)
                 |(go_at_call 15;with_reducible refine Calls.quiet_of<|Aa a8 _))
                go_wp2
                exact G2 (v:= jQ #[V X 0,V X 9]) P9 rfl ⟨by rw[Aa aI],(Aa ae).trans<|(An wr nq).mono (Aa ae).size⟩
      .have b5:(E.1 !=0)=jD:=zV.2 h5;have az:=Ab (show DG P S I=(0,E.1) by
        rw[<-Aa aY,Om _ _ _ _ _ _ _ s<|Aa bM,Aa bt,<-Aa a3,H8 h5])
       clear h5;generalize E.1=eA at b5 az|-;go_wp2
       exact G2 (v:= jQ #[V X 0,V X eA]) P9 rfl ⟨by rw[Aa az],(Aa a0).alloc (Aa a0).size _⟩
    .have e:j=m:=Oa;subst e;rw[Nat.sub_self,Gp]at aj;have aY:=Ab aj;have e3: ¬ ((j:Int)<(j:Int)):=Oa;clear aj aX bB bb;go_wp2
     exact G2 (v:= jQ #[V X (k:Int),V X 0]) P9 rfl ⟨by rw[<-Aa aY],A⟩
end Go.Proofs.YtnjpihpohilnjaaGreatDoor

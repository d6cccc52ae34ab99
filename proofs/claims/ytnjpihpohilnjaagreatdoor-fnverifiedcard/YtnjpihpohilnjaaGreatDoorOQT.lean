import Derived.Test.YtnjpihpohilnjaaGreatDoorMXAI
import Derived.Deep.CutBlock
open List renaming length->T
open Option renaming none->U,some->Q
open Array renaming size->R
open Bool renaming true->jD,false->jE
open ByteArray renaming empty->jW
namespace Go.Proofs.YtnjpihpohilnjaaGreatDoor
open Proofs.Tryz
open Value renaming int->V,slice->Y,string->jC,ownBlock->jL,agg->jM
open IntKind renaming i64->X,i64->jd
open World renaming heap->Z,cell?->jI,setCell->jJ,alloc->jK,drew->jR
open Addr renaming mk->jA
open Obj renaming cells->jH
open Proofs.Tryz renaming prog->jZ
set_option maxRecDepth 100000
set_option maxHeartbeats 6400000
open Go.RowKit
set_option linter.unusedVariables false
def NxP (X:M0) (j:Nat) (ls:L8) (D:List<|Sx×Int) (q:Sx×Int) (k:Int):Prop:=(k=3/\D++[q]=Lw [] X)\/(k≠3/\∃ts,Mj X (j+1) ls (D++[q]) ts)
def TrS (N:L6) (k:Int) (o:M3):Prop:=(k= -1/\o=U)\/∃ (i:Nat) (e:Ex),k=i/\o=Q e/\AZ N i e/\Jm e
theorem Afg:(jZ.info? 119).map (λi=>(i.zero,i.size,i.bytes))=Q (Q<|jM #[V X 0,jC jW,V X 0,Y U 0 0,Y U 0 0],5,80):=Oy
def StA (X:List<|Sx×Int) (w:World) (r:Ending) (w':World):Prop:=(∃ (ov:Value) (ss:N5),r= .returned ov/\World.ownsRow w' (R<|Z w) 119 5 ov (T ss) (ss.flatMap S5.cs)/\T ss=T X/\∀j,(h1:j<T ss)->(h2:j<T X)->∃lo hi,StQ w lo hi w' ss[j] X[j])/\Ai w w'
theorem MW.ans {B:Nat}{w a:World}{lv b:Value}{i:M6}{ls:L8}{ss:N5}{c:List (Sx×Int)}(h:MW w B lv b i ls ss c a)(k:R (Z w)<=B)(l:Ai w a){X:List (Sx×Int)}(e:c=X):StA X w (.returned b) a:=by
 subst e;refine⟨⟨b,ss,rfl,?_,h.bS.symm,λj d f=>?_⟩,l⟩
 .refine⟨h.out.1,?_⟩;obtain q|⟨g,cap,m,d,f,h3⟩:=h.out.2
  .grind
  .exact .inr ⟨g,cap,m,d,zB k f,h3⟩
 grind [MW.eachD]
theorem XG (a b e:L0 Addr)(n c m d k f:Nat)(N:L6)(L:L9)(w:World)(ds:IN w a n c N)(dt:NmQ w a N)(hF:∀x∈N,Bf x=jD)(bR:Po w b m d L)(X:M0)(du:T X=T L)(dv:∀j,(h:j<T L)->∃x,X[j]? =Q x/\x.aC=L[j].aC/\x.name=L[j].name/\TrS N L[j].cond x.cond/\TrS N L[j].aG x.aG)(az:Mi [] X)(dw:∀x∈X,x.aC=2->x.name=⟨#[]⟩)(dx:RwC w):
  Calls jZ 57 #[jM #[Y a n c,Y b m d,Y e k f]] w (StA (Lw [] X) w):=by
 obtain⟨bT,bU,bV,bW,bX⟩:=info_parts Nw;obtain⟨dy,dz,dA,dB,dC⟩:=info_parts Afg;have eW:=bR.aJ;have cJ:=Ag.new w #[Y a n c,Y b m d,Y e k f] 70;have cK:=AE w<|Nx a n c b m d e k f;have dD:R (Z<|jK w<|Nx a n c b m d e k f)=R (Z w)+1:=Ox;have cL:=Ab bR.len;have dF:=Ab bR;have cN:=Ab ds;have cO:=Ab dt;have a0:=Ab hF;have dG:=Ab dv;have dH:=Ab du;have dI:=Ab dw;have cP:=Ab dx;have dJ:=Ab az;go_enter func57,ntmps57
 go_wp2_with fail
 generalize jK w (Nx a n c b m d e k f)=cQ at cJ cK dD|-;have dK:=MW.nil w (R (Z w)+1) cQ;go_loopw [3,4,11] (λlv dL i wr=>∃ (j:Nat) (ad:M6) (ls:L8) (ss:N5) (O:List<|Sx×Int) (ts:L2),j<=m/\i=V jd j/\Hid (Mj X j ls O ts)/\MW w (R (Z w)+1) lv dL ad ls ss O wr/\Ag wr (R<|Z w) #[Y a n c,Y b m d,Y e k f] 70/\Ai w wr/\R (Z w)+1<=R (Z wr)) (λ_ _ i _=>m-(intOf i).toNat)
 case atStart=>exact⟨0,[],[],[],[],[],zE _,rfl,Ab<|Mj.start X<|Aa dJ,dK,cJ,cK,Oa⟩
 case round=>
  obtain⟨j,ad,ls,ss,O,ts,eX,rfl,H,af,cS,bY,dM⟩:=hrel;obtain⟨ab,P,cT,_⟩:=Ae af.aU;obtain⟨S,W,dN,_⟩:=Ae af.out;rw[<-af.dE]at cT;subst cT dN;by_cases cU:j<m
  .have eY:(j:Int)<(m:Int):=Oa;have bH:j<T L:=by rw[Aa cL];exact cU
   obtain⟨br,bs,rfl,eZ,c0,c1,c2,c3⟩:=((Aa dF).below bY NLN).cells j bH;obtain⟨x,dO,dP,dQ,dR,dS⟩:=Aa dG j bH;have aB:=Ab dO;have aD:=Ab<|And.intro dP dQ;have bI:=Ab dR;have bZ:=Ab dS;generalize L[j]=s at c0 c1 c2 c3 aD bI bZ;obtain⟨A,v,aE,aI⟩:=s;dsimp only at c0 c1 c2 c3 aD bI bZ;have cV:=Ab (show T ls<=P by
    obtain⟨q,_⟩|⟨_,_,_,q,_,_,q2,_⟩:=af.aU.2
    .simp only[Value.slice.injEq]at q;omega
    .simp only[Value.slice.injEq]at q;have:=af.dE;omega)
   have cW:=Ab<|af.ltq af.dE.symm;have bt:=Ab af;have ba:=Ab cS;have ae:=Ab bY;have bJ:=Ab cU;have bu:=Ab dM;have dT:∀q,jL (Value.slice ab (T ls) P)=Q q->q<R (Z wr):=λq hq=>(af.aU.lt q hq).2;have dU:∀q,jL (Value.slice S (T ss) W)=Q q->q<R (Z wr):=λq hq=>(af.out.lt q hq).2;have aK:=Ab<|And.intro dT dU;obtain⟨e0,e2,e3⟩:=At cS;go_upto_if 22 with fail
   have F:Ai wr<|jK (jK wr<|Yu A v aE aI)<|jH #[V jd A,jC v,V jd 0,Y U 0 0,Y U 0 0] 119:=((AE wr _).alloc Ox _)
   have RS:=(Ag.new wr #[V jd A,jC v,V jd aE,V jd aI] 113).alloc<|jH #[V jd A,jC v,V jd 0,Y U 0 0,Y U 0 0] 119;have ag:=Ag.new (jK wr<|Yu A v aE aI) #[V jd A,jC v,V jd 0,Y U 0 0,Y U 0 0] 119;have dV:R (Z<|jK (jK wr<|Yu A v aE aI)<|jH #[V jd A,jC v,V jd 0,Y U 0 0,Y U 0 0] 119)=R (Z wr)+2:=Ox;simp only[World.size_alloc]at ag;generalize jK (jK wr (Yu A v aE aI)) (jH #[V jd A,jC v,V jd 0,Y U 0 0,Y U 0 0] 119)=t at F RS ag dV|-;generalize e4:R (Z wr)=aL at RS ag|-;generalize e5:aL+1=g at ag|-;obtain⟨ah,dW⟩:∃ah,ah=x.cond.map (BP ls):=⟨_,rfl⟩
   obtain⟨go,dX⟩:∃go,go=x.aG.map (BP ls):=⟨_,rfl⟩
   have bv:=Ab dW;have bb:=Ab dX;go_cut [] (λt=>∃ (ca:L0 Addr) (cn cc:Nat),Ag t aL #[V jd A,jC v,V jd aE,V jd aI] 113/\Ag t g #[V jd A,jC v,V jd 0,Y ca cn cc,Y U 0 0] 119/\Ma w (R (Z wr)+2) (R<|Z t) t ah ca cn/\Ai wr t/\R (Z wr)+2<=R (Z t))
   case first=>
    obtain⟨b0,b5⟩|⟨i,I,b6,aN,b7,bw⟩:=Aa bI
    .subst b0;have a1:=Ab (show ∃ (ca:L0 Addr) (cn cc:Nat),Ag t aL #[V jd A,jC v,V jd<|-1,V jd aI] 113/\Ag t g #[V jd A,jC v,V jd 0,Y ca cn cc,Y U 0 0] 119/\Ma w (R (Z wr)+2) (R<|Z t) t ah ca cn/\Ai wr t/\R (Z wr)+2<=R (Z t)from⟨U,0,0,RS,ag,by rw[Aa bv,b5];rfl,F,Oa⟩);obtain⟨bc,s1,s2,bd,-⟩:=BO RS;go_wp2
     go_meet
     exact Aa a1
    .subst b6;obtain⟨aS,az⟩:∃aS,AX ts I=Q aS:=by
      rcases(Aa H).kinds (Aa aB)with⟨_,e1,b8,q1,q2,_⟩|⟨_,⟨e1,q1,q2⟩,_⟩|⟨_,q1,_⟩
      .rw[aN]at q1;cases q1;exact⟨_,q2⟩
      .rw[aN]at q1;cases q1;exact⟨_,q2⟩
      .rw[aN]at q1;cases q1
     have b9:=Ab<|GH (Ua w a n c N (Aa cN) (Aa cO) (Aa a0) b7 (jR t)<|(Aa ae).trans<|F.drew.mono (Aa ae).size) λe w' ⟨k,h,_⟩=>⟨_,h⟩;have a2:=(SH t).drew;have cb:=ag.aA a2 NLN;have cd:=RS.aA a2 NLN;obtain⟨dY,b8,dZ⟩:=At<|(Aa ba).aA F NLN;obtain⟨bc,s1,s2,bd,-⟩:=BO RS;obtain⟨bf,bg,bh,bi,bj,bk⟩:=Ap ag;have ce:(Tryz.f64.name== "runtime.NumGoroutine")=jE:=Oy;have cf: Tryz.f64.body.isNone=jE:=Oy;have cg:(Tryz.f98.name== "runtime.NumGoroutine")=jE:=Oy;have ch: Tryz.f98.body.isNone=jE:=Oy;have d0:(0 :Int)<=(i:Int):=Oa;go_wp2_with fail
     go_region_law (first
      |(refine Bk rfl 64 _ func64 ce cf _ _ _ rfl (Y a n c) (V jd (i:Int)) rfl rfl _ (Aa b9) ?_;rintro d1 ci ⟨C,cj,bx,a3⟩;obtain rfl:=Bi cj;have ai:=a2.trans (a3.mono NLN);have ck:=Ab<|GH (Aa cP ls ts (Aa H).lt (Aa H).len (Aa H).ok (Aa H).ops ab P (Aa cV) I aS C ci az bw (H2 ai.size) (Tl.tq bx) ((Aa cW).below (F.trans (ai.mono F.size)) NLN)) λe w' ⟨k,h,_⟩=>⟨_,h⟩;have bz:=cb.aA a3 NLN;have cl:=cd.aA a3 NLN;obtain⟨d2,bH,d3,d4,d5,d6⟩:=Ap bz;clear bx)
      |(refine Bk rfl 98 _ func98 cg ch _ _ _ rfl (jM #[V jd C.op,V jd C.num,jC C.text,Y C.an C.nn C.cn,Y C.ka C.kn C.kc]) (Y ab (T ls) P) rfl rfl _ (Aa ck) ?_;rintro d7 ac ⟨cm,bA,bB,aO⟩;obtain rfl:=Bi bA;obtain⟨aj,ak,al,ao,ap,aq,ar,au,av⟩:=cm;dsimp only at bA bB|-;have a4:=bz.aA aO NLN;have co:=cl.aA aO NLN;have bC:=ai.trans<|aO.mono ai.size;obtain⟨d8,l1,d9,ea,eb,ec⟩:=Ap a4;obtain⟨ed,ee,i2,ef,eg,eh⟩:=Ap<|a4.alloc<|Bu aj ak al ao ap aq ar au av;have aT:=World.news_of_block<|heap_alloc_new ac<|Bu aj ak al ao ap aq ar au av)
      |(refine step_append_lies _ rfl _ _ 117 rfl (R (Z ac)) 121 bT (jM #[V jd 0,V jd 0,jC jW,Y U 0 0,Y U 0 0]) 5 80 underlying117 bU bV bW bX rfl Ob (Y U 0 0) 0 [] rfl (World.ownsRow_nil _ _ _ _) ⟨R (Z ac),0,U⟩ 1 1 (K5.cs ⟨aj,ak,al,ao,ap,aq,ar,au,av⟩) rfl rfl aT (by intro u hu;simp[K5.cs]at hu;obtain rfl|rfl|rfl|rfl|rfl:=hu<;>rfl) Ob O2 Oa Ox _ rfl ?_;intro g7 y l aP K hat cX;have aw:=(AE ac (Bu aj ak al ao ap aq ar au av)).grown K Ox λq hq=>Hj;have ax:=a4.aA aw NLN;have cp:=co.aA aw NLN;have ei:jI l (jA g 3 U)=Q (Y U 0 0):=ax.cell 3;have ej:=ax.frozen 3))
     all_goals
      have bD:=bC.trans<|aw.mono bC.size;have ek:=ai.size;have el:=aO.size;have em:=aw.size;have en:R (Z ac)<=g7/\g7<R (Z l):=⟨(aP.lt g7 rfl).1,(aP.lt g7 rfl).2⟩
      have aQ:∀hi,Ct w (R (Z wr)+2) hi l<|jJ l (jA g 3 U)<|Y (Q<|jA g7 0 U) 1 y:=λhi=>⟨Ox,λq hq _=>heap_setCell_other l (jA g 3 U) q _ (Oa:q≠g),CQ.set ax Ob _ _⟩
      have cq:AO l (Q<|jA g7 0 U) [(⟨aj,ak,al,ao,ap,aq,ar,au,av⟩:K5)]:=En (m:=1) (B:=R<|Z ac) (kc:=y) (by simpa using aP) rfl;have cr:Ma w (R (Z wr)+2) (R<|Z l) (jJ l (jA g 3 U)<|Y (Q<|jA g7 0 U) 1 y) (Q<|BP ls I) (Q<|jA g7 0 U) 1:=(show Ma w (R (Z wr)+2) (R<|Z l) l (Q<|BP ls I) (Q<|jA g7 0 U) 1 from⟨rfl,λq o h=>by simp only[Option.some.injEq,Addr.mk.injEq]at h;omega,_,cq,(bB.aM<|Ct.aH aw).monoI Oa Oa⟩).aM<|aQ _;have bE:=ax.set 3<|Y (Q<|jA g7 0 U) 1 y;simp only[zZ,zb,ze]at bE;have ct:=cp.aF (p:=(jA g 3 U)) (Oa:aL≠g)<|Y (Q<|jA g7 0 U) 1 y;have cu:=(F.trans<|bD.mono F.size).setCell (p:=(jA g 3 U)) Hp<|Y (Q<|jA g7 0 U) 1 y;have bK:R (Z<|jJ l (jA g 3 U)<|Y (Q<|jA g7 0 U) 1 y)=R (Z l):=Ox;have a1:=Ab (show ∃ (ca:L0 Addr) (cn cc:Nat),Ag (jJ l (jA g 3 U)<|Y (Q<|jA g7 0 U) 1 y) aL #[V jd A,jC v,V jd (i:Int),V jd aI] 113/\Ag (jJ l (jA g 3 U)<|Y (Q<|jA g7 0 U) 1 y) g #[V jd A,jC v,V jd 0,Y ca cn cc,Y U 0 0] 119/\Ma w (R (Z wr)+2) (R<|Z<|jJ l (jA g 3 U)<|Y (Q<|jA g7 0 U) 1 y) (jJ l (jA g 3 U)<|Y (Q<|jA g7 0 U) 1 y) ah ca cn/\Ai wr (jJ l (jA g 3 U)<|Y (Q<|jA g7 0 U) 1 y)/\R (Z wr)+2<=R (Z<|jJ l (jA g 3 U)<|Y (Q<|jA g7 0 U) 1 y)from⟨_,_,_,ct,bE,by rw[Aa bv,aN,bK];exact cr,cu,Oa⟩);go_wp2
      go_meet
      exact Aa a1
   case rest=>
    obtain⟨ca,cn,cc,bl,aV,cv,aW,cY⟩:=hcut;obtain⟨bc,s1,s2,bd,-⟩:=BO bl;go_upto_if 37 with fail
    generalize wc=t at bl aV cv aW cY|-;have RS:=bl;have ag:=aV;have F:=aW;go_cut [] (λt=>∃ (ga:L0 Addr) (gn gc:Nat),Ag t aL #[V jd A,jC v,V jd aE,V jd aI] 113/\Ag t g #[V jd A,jC v,V jd 0,Y ca cn cc,Y ga gn gc] 119/\Ma w (R (Z wr)+2) (R<|Z t) t ah ca cn/\Ma w (R (Z wr)+2) (R<|Z t) t go ga gn/\Ai wr t/\R (Z wr)+2<=R (Z t))
    case first=>
     obtain⟨b0,b5⟩|⟨i,I,b6,aN,b7,bw⟩:=Aa bZ
     .subst b0;have a1:=Ab (show ∃ (ga:L0 Addr) (gn gc:Nat),Ag t aL #[V jd A,jC v,V jd aE,V jd<|-1] 113/\Ag t g #[V jd A,jC v,V jd 0,Y ca cn cc,Y ga gn gc] 119/\Ma w (R (Z wr)+2) (R<|Z t) t ah ca cn/\Ma w (R (Z wr)+2) (R<|Z t) t go ga gn/\Ai wr t/\R (Z wr)+2<=R (Z t)from⟨U,0,0,RS,ag,cv,by rw[Aa bb,b5];rfl,F,cY⟩);obtain⟨bc,s1,s2,bd,-⟩:=BO RS;go_wp2
      go_meet
      exact Aa a1
     .subst b6;obtain⟨aS,az⟩:∃aS,AX ts I=Q aS:=by
       rcases(Aa H).kinds (Aa aB)with⟨_,e1,b8,q1,q2,aR,_⟩|⟨_,_,aR,_⟩|⟨_,q1,aR,_⟩
       .rw[aN]at aR;cases aR
       .rw[aN]at aR;exact⟨_,aR⟩
       .rw[aN]at aR;exact⟨_,aR⟩
      have b9:=Ab<|GH (Ua w a n c N (Aa cN) (Aa cO) (Aa a0) b7 (jR t)<|(Aa ae).trans<|F.drew.mono (Aa ae).size) λe w' ⟨k,h,_⟩=>⟨_,h⟩;have a2:=(SH t).drew;have cb:=ag.aA a2 NLN;have cd:=RS.aA a2 NLN;obtain⟨dY,b8,dZ⟩:=At<|(Aa ba).aA F NLN;obtain⟨bc,s1,s2,bd,-⟩:=BO RS;obtain⟨bf,bg,bh,bi,bj,bk⟩:=Ap ag;have ce:(Tryz.f64.name== "runtime.NumGoroutine")=jE:=Oy;have cf: Tryz.f64.body.isNone=jE:=Oy;have cg:(Tryz.f98.name== "runtime.NumGoroutine")=jE:=Oy;have ch: Tryz.f98.body.isNone=jE:=Oy;have d0:(0 :Int)<=(i:Int):=Oa;go_wp2_with fail
      go_region_law (first
       |(refine Bk rfl 64 _ func64 ce cf _ _ _ rfl (Y a n c) (V jd (i:Int)) rfl rfl _ (Aa b9) ?_;rintro d1 ci ⟨C,cj,bx,a3⟩;obtain rfl:=Bi cj;have ai:=a2.trans (a3.mono NLN);have ck:=Ab<|GH (Aa cP ls ts (Aa H).lt (Aa H).len (Aa H).ok (Aa H).ops ab P (Aa cV) I aS C ci az bw (H2 ai.size) (Tl.tq bx) ((Aa cW).below (F.trans (ai.mono F.size)) NLN)) λe w' ⟨k,h,_⟩=>⟨_,h⟩;have bz:=cb.aA a3 NLN;have cl:=cd.aA a3 NLN;obtain⟨d2,bH,d3,d4,d5,d6⟩:=Ap bz;clear bx)
       |(refine Bk rfl 98 _ func98 cg ch _ _ _ rfl (jM #[V jd C.op,V jd C.num,jC C.text,Y C.an C.nn C.cn,Y C.ka C.kn C.kc]) (Y ab (T ls) P) rfl rfl _ (Aa ck) ?_;rintro d7 ac ⟨cm,bA,bB,aO⟩;obtain rfl:=Bi bA;obtain⟨aj,ak,al,ao,ap,aq,ar,au,av⟩:=cm;dsimp only at bA bB|-;have a4:=bz.aA aO NLN;have co:=cl.aA aO NLN;have bC:=ai.trans<|aO.mono ai.size;obtain⟨d8,l1,d9,ea,eb,ec⟩:=Ap a4;obtain⟨ed,ee,i2,ef,eg,eh⟩:=Ap<|a4.alloc<|Bu aj ak al ao ap aq ar au av;have aT:=World.news_of_block<|heap_alloc_new ac<|Bu aj ak al ao ap aq ar au av)
       |(refine step_append_lies _ rfl _ _ 117 rfl (R (Z ac)) 121 bT (jM #[V jd 0,V jd 0,jC jW,Y U 0 0,Y U 0 0]) 5 80 underlying117 bU bV bW bX rfl Ob (Y U 0 0) 0 [] rfl (World.ownsRow_nil _ _ _ _) ⟨R (Z ac),0,U⟩ 1 1 (K5.cs ⟨aj,ak,al,ao,ap,aq,ar,au,av⟩) rfl rfl aT (by intro u hu;simp[K5.cs]at hu;obtain rfl|rfl|rfl|rfl|rfl:=hu<;>rfl) Ob O2 Oa Ox _ rfl ?_;intro g7 y l aP K hat cX;have aw:=(AE ac (Bu aj ak al ao ap aq ar au av)).grown K Ox λq hq=>Hj;have ax:=a4.aA aw NLN;have cp:=co.aA aw NLN;have ei:jI l (jA g 4 U)=Q (Y U 0 0):=ax.cell 4;have ej:=ax.frozen 4))
      all_goals
       have bD:=bC.trans<|aw.mono bC.size;have ek:=ai.size;have el:=aO.size;have em:=aw.size;have en:R (Z ac)<=g7/\g7<R (Z l):=⟨(aP.lt g7 rfl).1,(aP.lt g7 rfl).2⟩
       have aQ:∀hi,Ct w (R (Z wr)+2) hi l<|jJ l (jA g 4 U)<|Y (Q<|jA g7 0 U) 1 y:=λhi=>⟨Ox,λq hq _=>heap_setCell_other l (jA g 4 U) q _ (Oa:q≠g),CQ.set ax Ob _ _⟩
       have cq:AO l (Q<|jA g7 0 U) [(⟨aj,ak,al,ao,ap,aq,ar,au,av⟩:K5)]:=En (m:=1) (B:=R<|Z ac) (kc:=y) (by simpa using aP) rfl;have cr:Ma w (R (Z wr)+2) (R<|Z l) (jJ l (jA g 4 U)<|Y (Q<|jA g7 0 U) 1 y) (Q<|BP ls I) (Q<|jA g7 0 U) 1:=(show Ma w (R (Z wr)+2) (R<|Z l) l (Q<|BP ls I) (Q<|jA g7 0 U) 1 from⟨rfl,λq o h=>by simp only[Option.some.injEq,Addr.mk.injEq]at h;omega,_,cq,(bB.aM<|Ct.aH aw).monoI Oa Oa⟩).aM<|aQ _;have bE:=ax.set 4<|Y (Q<|jA g7 0 U) 1 y;simp only[zZ,zb,ze]at bE;have ct:=cp.aF (p:=(jA g 4 U)) (Oa:aL≠g)<|Y (Q<|jA g7 0 U) 1 y;have cu:=(F.trans<|bD.mono F.size).setCell (p:=(jA g 4 U)) Hp<|Y (Q<|jA g7 0 U) 1 y;have bK:R (Z<|jJ l (jA g 4 U)<|Y (Q<|jA g7 0 U) 1 y)=R (Z l):=Ox;have eo:=((cv.aM<|Ct.aH bD).aM<|aQ _).mono (lo':=R (Z wr)+2) (hi':=R<|Z l) NLN bD.size;have a1:=Ab (show ∃ (ga:L0 Addr) (gn gc:Nat),Ag (jJ l (jA g 4 U)<|Y (Q<|jA g7 0 U) 1 y) aL #[V jd A,jC v,V jd aE,V jd (i:Int)] 113/\Ag (jJ l (jA g 4 U)<|Y (Q<|jA g7 0 U) 1 y) g #[V jd A,jC v,V jd 0,Y ca cn cc,Y ga gn gc] 119/\Ma w (R (Z wr)+2) (R<|Z<|jJ l (jA g 4 U)<|Y (Q<|jA g7 0 U) 1 y) (jJ l (jA g 4 U)<|Y (Q<|jA g7 0 U) 1 y) ah ca cn/\Ma w (R (Z wr)+2) (R<|Z<|jJ l (jA g 4 U)<|Y (Q<|jA g7 0 U) 1 y) (jJ l (jA g 4 U)<|Y (Q<|jA g7 0 U) 1 y) go ga gn/\Ai wr (jJ l (jA g 4 U)<|Y (Q<|jA g7 0 U) 1 y)/\R (Z wr)+2<=R (Z<|jJ l (jA g 4 U)<|Y (Q<|jA g7 0 U) 1 y)from⟨_,_,_,ct,bE,by rw[bK];exact eo,by rw[Aa bb,aN,bK];exact cr,cu,Oa⟩);go_wp2
       go_meet
       exact Aa a1
    case rest=>
     obtain⟨ga,gn,gc,bl,aV,bL,cw,aW,e6⟩:=hcut;go_upto_block 2 with fail
     go_cut [3] (λlv t=>∃ (z nq:Int) (D:L0 Addr) (E G:Nat) (ay:M6) (M:L8) (q:Sx×Int),Ag t g #[V jd z,jC v,V jd nq,Y D E G,Y ga gn gc] 119/\MW w (R (Z w)+1) lv (Y S (T ss) W) ay M ss O t/\Ag t (R<|Z w) #[Y a n c,Y (Q<|jA br bs U) m d,Y e k f] 70/\Ai w t/\∃hi,Iv (R (Z w)+1) lv (Y S (T ss) W) t (R (Z wr)+2) hi/\StQ w (R (Z wr)+2) hi t ⟨z,v,nq,D,E,G,ga,gn,gc⟩ q/\Hid (NxP X j M O q z))
     case first=>
      have cZ:=(Aa ae).trans<|aW.mono (Aa ae).size;have RT:=(Aa ba).aA aW NLN;have c4:=(Aa bt).below aW;obtain⟨bf,bg,bh,bi,bj,bk⟩:=Ap aV;obtain⟨bc,s1,s2,bd,-⟩:=BO bl;rcases(Aa H).kinds (Aa aB)with⟨aa,I,aS,hc,az,hg,bM⟩|⟨aa,⟨I,hc,az⟩,hg,bM⟩|⟨aa,hc,hg,bM⟩
      .obtain rfl:A=1:=by rw[<-(Aa aD).1];exact aa
       obtain rfl:ah=Q (BP ls I):=by rw[Aa bv,hc];rfl
       obtain⟨rfl,cx,aX,cy,cz⟩:=bL;have bw:Jm I:=by
        obtain⟨_,q⟩|⟨_,e1,_,q,_,q2⟩:=Aa bI
        .rw[hc]at q;cases q
        .rw[hc]at q;cases q;exact q2
       have aQ:Ct w (R (Z wr)+2) (R<|Z wc) wc<|jJ wc (jA g 2 U)<|V jd<|T ls:=⟨Ox,λq hq _=>heap_setCell_other wc (jA g 2 U) q _ (Oa:q≠g),CQ.set aV Ob _ _⟩
       have c5:=Gx aQ.1 cy λb o e ep=>aQ.2.1 b (cx b o e) ep;have c6:=cz.aM aQ;have eq:Ma w (R (Z wr)+2) (R<|Z wc) (jJ wc (jA g 2 U)<|V jd<|T ls) (Q<|BP ls I) ca 1:=⟨rfl,cx,aX,c5,c6⟩
       have aY:=aV.set 2<|V jd<|T ls;simp only[zZ,zb,ze]at aY;have cA:=aW.setCell (p:=(jA g 2 U)) Hp<|V jd<|T ls;have c8:R (Z<|jJ wc (jA g 2 U)<|V jd<|T ls)=R (Z wc):=Ox;have bm:=Ab<|(Aa bt).below cA;have cB:=Ab<|(Aa ba).aA cA NLN;have bN:=Ab<|(Aa ae).trans<|cA.mono (Aa ae).size;obtain⟨gk,ok,rfl,bn,cC⟩:=Bs c5 Ox;obtain⟨bF,b1,b2,b3,b4⟩:=cC 0 Ox;simp only[z0,zu,zX]at bF b1 b2 b3 b4;obtain⟨er,es,et,eu,ev,-⟩:=Ap aY;obtain⟨bO,ew⟩:∃bO,bO=jJ wc (jA g 2 U) (V jd (T ls)):=⟨_,rfl⟩
       have c9:=Ab ew;have cD:=World.ownsRow.alloc (Aa bm).aU<|CX aX;have aT:=World.news_of_block<|heap_alloc_new (jJ wc (jA g 2 U)<|V jd<|T ls)<|CX aX;rw[c8]at aT;have e7:T ad<=1048576:=by have:=(Aa H).sm;have:=(Aa bt).dE;omega
       have bo:=Ab (⟨eq,(cw.aM aQ),c6,aY,trivial⟩:_/\_/\_/\_/\True);have bG:=Ab<|And.intro hc<|And.intro az<|And.intro bM bw;go_wp2_with (at_builtin;refine wpList_append_lies _ rfl _ _ 117 rfl (R (Z w)+1) 121 bT (jM #[V jd 0,V jd 0,jC jW,Y U 0 0,Y U 0 0]) 5 80 underlying117 bU bV bW bX rfl Ob (Y ab (T ls) P) (T ad) (ad.flatMap K5.cs) rfl cD ⟨R<|Z wc,0,U⟩ 1 1 (K5.cs aX) rfl rfl aT (by intro u hu;simp[K5.cs]at hu;obtain rfl|rfl|rfl|rfl|rfl:=hu<;>rfl) Ob O2 Oa O0 _ rfl ?_)
       intro g7 c7 l aP K hat cX;rw[<-Aa c9]at K bm cB bN bo;have ex:R (Z bO)=R (Z wc):=by rw[Aa c9];exact c8
       have bp:Iv (R (Z w)+1) (Y ab (T ls) P) (Y S (T ss) W) bO (R (Z wr)+2)<|R<|Z wc:=⟨H2<|Aa bu,Oa,λq hq=> .inl (H2<|(Aa aK).1 q hq),λq hq=> .inl (H2<|(Aa aK).2 q hq)⟩
       obtain⟨ey,da⟩:=(Aa bm).cM (zU _) bp (Aa bo).2.2.1 aP K (hat.imp id λh=>by rw[h];simp[ex]);have ax:=((Aa bo).2.2.2.1.alloc<|CX aX).grown K λe=>Ac (Aa bo).2.2.2.1 (Aa bm).aU Ob e.symm;have ez:=((Aa cB).alloc<|CX aX).grown K λe=>Ac (Aa cB) (Aa bm).aU Ob e.symm;have eA:=((Aa bN).alloc (Aa bN).size<|CX aX).grown K (by simp;have:=(Aa bN).size;omega) λq hq=>H2<|((Aa bm).aU.lt q hq).1;have eB:Iv (R (Z w)+1) (Y (Q<|jA g7 0 U) (T ad+1) c7) (Y S (T ss) W) l (R (Z wr)+2)<|R<|Z wc:=⟨bp.1,by have:=K.size;simp at this;omega,λq hq=>by
        have e:g7=q:=O8;subst e;obtain h|h:=hat
        .exact bp.2.2.1 g7 h
        .right;rw[h];simp,bp.2.2.2⟩
       have a5:=Ab (show ∃ (z nq:Int) (D:L0 Addr) (E G:Nat) (ay:M6) (M:L8) (q:Sx×Int),Ag l g #[V jd z,jC v,V jd nq,Y D E G,Y ga gn gc] 119/\MW w (R (Z w)+1) (Y (Q<|jA g7 0 U) (T ad+1) c7) (Y S (T ss) W) ay M ss O l/\Ag l (R<|Z w) #[Y a n c,Y (Q<|jA br bs U) m d,Y e k f] 70/\Ai w l/\∃hi,Iv (R (Z w)+1) (Y (Q<|jA g7 0 U) (T ad+1) c7) (Y S (T ss) W) l (R (Z wr)+2) hi/\StQ w (R (Z wr)+2) hi l ⟨z,v,nq,D,E,G,ga,gn,gc⟩ q/\Hid (NxP X j M O q z)from⟨1,T ls,_,1,cc,_,_,(FX ls x,(T ls:Int)),ax,ey,ez,eA,R<|Z wc,eB,⟨aa.symm,(Aa aD).2.symm,rfl,by show Ma _ _ _ _ (x.cond.map<|BP ls) _ _;rw[(Aa bG).1];exact(Aa bo).1.aM (da _ _ bp),by show Ma _ _ _ _ (x.aG.map<|BP ls) _ _;rw[<-Aa bb];exact(Aa bo).2.1.aM (da _ _ bp)⟩,Ab<|.inr ⟨Ob,_,(Aa H).lett (Aa aB) aa (Aa bG).1 (Aa bG).2.1 (Aa bG).2.2.1 (Aa bG).2.2.2⟩⟩);go_wp2
       go_meet
       exact Aa a5
      .obtain rfl:A=2:=by rw[<-(Aa aD).1];exact aa
       obtain rfl:ah=Q (BP ls I):=by rw[Aa bv,hc];rfl
       have eC:=Ab bL;obtain⟨rfl,cx,aX,cy,cz⟩:=bL;have db:Bp (BP ls I)=jD:=Ff _ _<|GX (Aa H).lt I 1 az;obtain⟨gk,ok,rfl,bn,cC⟩:=Bs cy Ox;obtain⟨bF,b1,b2,b3,b4⟩:=cC 0 Ox;simp only[z0,zu,zX]at bF b1 b2 b3 b4;have dc:=Ab<|Tl.tq cz;have a6:=Ab<|And.intro hc bM;have bP:=Ab aV;have dd:=Ab cw;have de:=Ab cZ;have eD:=Ab RT;have eE:=Ab c4;have a0:=Ab aW;go_wp2_with fail
       refine(FO (Aa dc) db jE 0 rfl).mono ?_;rintro r cQ ⟨rfl,aZ⟩;obtain⟨bf,bg,bh,bi,bj,bk⟩:=Ap<|(Aa bP).aA aZ NLN;obtain⟨bc,s1,s2,bd,-⟩:=BO<|(Aa<|Ab bl).aA aZ NLN;replace bF:=(aZ.cell (p:=(jA gk ok U)) bn).trans bF;replace b1:=(aZ.cell (p:=⟨gk,ok+1,U⟩) bn).trans b1;replace b2:=(aZ.cell (p:=⟨gk,ok+2,U⟩) bn).trans b2;replace b3:=(aZ.cell (p:=⟨gk,ok+3,U⟩) bn).trans b3;replace b4:=(aZ.cell (p:=⟨gk,ok+4,U⟩) bn).trans b4;have a7:=Ab aZ;cases df:isB jE (BP ls I)with
       |true=>
        have eF:=Ab ((Aa H).skip (Aa aB) aa (Aa a6).2<|by show Lh jE (x.cond.map<|BP ls)=jD;rw[(Aa a6).1];exact df);go_wp2
        go_roundw
        case rel=>exact⟨j+1,ad,ls,ss,O,ts,Aa bJ,O1,eF,(Aa eE).below<|Aa a7,(Aa eD).aA (Aa a7) NLN,(Aa de).trans<|(Aa a7).mono (Aa de).size,by have:=(Aa a7).size;have:=Aa bu;omega⟩
        case measure=>have:=Aa bJ;simp[intOf];omega
       |false=>
        have dg:=Ab (show Lh jE (FX ls x).cond=jE by show Lh jE (x.cond.map<|BP ls)=jE;rw[(Aa a6).1];exact df);go_wp2_with fail
        refine(FO ((Aa dc).below (Aa a7) NLN) db jD 1 rfl).mono ?_;rintro r J ⟨rfl,eG⟩;have a8:=(Aa a7).trans<|eG.mono (Aa a7).size;have aY:=(Aa bP).aA a8 NLN;obtain⟨bf,bg,bh,bi,bj,bk⟩:=Ap aY;have dh:=a8.size;cases di:isB jD (BP ls I)with
        |true=>
         have bQ:=aY.set 0<|V jd 3;simp only[zZ,zb]at bQ;have dj:=bQ.set 3<|Y U 0 0;simp only[zZ,zb,ze]at dj;have eH:Ct w (R (Z wr)+2) (R<|Z wc) J<|jJ J (jA g 0 U)<|V jd 3:=⟨Ox,λq hq _=>heap_setCell_other J (jA g 0 U) q _ (Oa:q≠g),CQ.set aY Ob _ _⟩
         have eI:Ct w (R (Z wr)+2) (R<|Z wc) (jJ J (jA g 0 U)<|V jd 3)<|jJ (jJ J (jA g 0 U)<|V jd 3) (jA g 3 U)<|Y U 0 0:=⟨Ox,λq hq _=>heap_setCell_other _ (jA g 3 U) q _ (Oa:q≠g),CQ.set bQ Ob _ _⟩
         have a9:=(((Aa a0).trans<|a8.mono (Aa a0).size).setCell (p:=(jA g 0 U)) Hp<|V jd 3).setCell (p:=(jA g 3 U)) Hp<|Y U 0 0;have eJ:R (Z<|jJ (jJ J (jA g 0 U)<|V jd 3) (jA g 3 U)<|Y U 0 0)=R (Z J):=Ox;obtain⟨er,es,et,eu,ev,e8⟩:=Ap bQ;have a5:=Ab (show ∃ (z nq:Int) (D:L0 Addr) (E G:Nat) (ay:M6) (M:L8) (q:Sx×Int),Ag (jJ (jJ J (jA g 0 U)<|V jd 3) (jA g 3 U)<|Y U 0 0) g #[V jd z,jC v,V jd nq,Y D E G,Y ga gn gc] 119/\MW w (R (Z w)+1) (Y ab (T ls) P) (Y S (T ss) W) ay M ss O (jJ (jJ J (jA g 0 U)<|V jd 3) (jA g 3 U)<|Y U 0 0)/\Ag (jJ (jJ J (jA g 0 U)<|V jd 3) (jA g 3 U)<|Y U 0 0) (R<|Z w) #[Y a n c,Y (Q<|jA br bs U) m d,Y e k f] 70/\Ai w (jJ (jJ J (jA g 0 U)<|V jd 3) (jA g 3 U)<|Y U 0 0)/\∃hi,Iv (R (Z w)+1) (Y ab (T ls) P) (Y S (T ss) W) (jJ (jJ J (jA g 0 U)<|V jd 3) (jA g 3 U)<|Y U 0 0) (R (Z wr)+2) hi/\StQ w (R (Z wr)+2) hi (jJ (jJ J (jA g 0 U)<|V jd 3) (jA g 3 U)<|Y U 0 0) ⟨z,v,nq,D,E,G,ga,gn,gc⟩ q/\Hid (NxP X j M O q z)from⟨3,0,U,0,0,ad,ls,(⟨x.at',3,⟨#[]⟩,U,(FX ls x).aG⟩,0),dj,(Aa bt).below a9,(Aa ba).aA a9 NLN,(Aa ae).trans<|a9.mono (Aa ae).size,R<|Z wc,⟨H2<|Aa bu,by rw[eJ];exact dh,λq hq=> .inl (H2<|(Aa aK).1 q hq),λq hq=> .inl (H2<|(Aa aK).2 q hq)⟩,⟨rfl,by show v=⟨#[]⟩;rw[<-(Aa aD).2];exact Aa dI x (zn<|Aa aB) aa,rfl,rfl,by show Ma _ _ _ _ (x.aG.map<|BP ls) _ _;rw[<-Aa bb];exact(((Aa dd).aM<|Ct.aH a8).aM eH).aM eI⟩,Ab<|.inl ⟨rfl,(Aa H).tru (Aa aB) aa (Aa dg)<|by show Lh jD (x.cond.map<|BP ls)=jD;rw[(Aa a6).1];exact di⟩⟩);go_wp2
         go_meet
         exact Aa a5
        |false=>
         have a9:=(Aa a0).trans<|a8.mono (Aa a0).size;have a5:=Ab (show ∃ (z nq:Int) (D:L0 Addr) (E G:Nat) (ay:M6) (M:L8) (q:Sx×Int),Ag J g #[V jd z,jC v,V jd nq,Y D E G,Y ga gn gc] 119/\MW w (R (Z w)+1) (Y ab (T ls) P) (Y S (T ss) W) ay M ss O J/\Ag J (R<|Z w) #[Y a n c,Y (Q<|jA br bs U) m d,Y e k f] 70/\Ai w J/\∃hi,Iv (R (Z w)+1) (Y ab (T ls) P) (Y S (T ss) W) J (R (Z wr)+2) hi/\StQ w (R (Z wr)+2) hi J ⟨z,v,nq,D,E,G,ga,gn,gc⟩ q/\Hid (NxP X j M O q z)from⟨2,0,Q<|jA gk ok U,1,cc,ad,ls,(FX ls x,0),aY,(Aa bt).below a9,(Aa ba).aA a9 NLN,(Aa ae).trans<|a9.mono (Aa ae).size,R<|Z wc,⟨H2<|Aa bu,dh,λq hq=> .inl (H2<|(Aa aK).1 q hq),λq hq=> .inl (H2<|(Aa aK).2 q hq)⟩,⟨aa.symm,(Aa aD).2.symm,rfl,by show Ma _ _ _ _ (x.cond.map<|BP ls) _ _;rw[(Aa a6).1];exact(Aa eC).aM (Ct.aH a8),by show Ma _ _ _ _ (x.aG.map<|BP ls) _ _;rw[<-Aa bb];exact(Aa dd).aM (Ct.aH a8)⟩,Ab<|.inr ⟨Ob,ts,(Aa H).when (Aa aB) aa (Aa a6).2 (Aa dg)<|by show Lh jD (x.cond.map<|BP ls)=jE;rw[(Aa a6).1];exact di⟩⟩);go_wp2
         go_meet
         exact Aa a5
      .obtain rfl:A=3:=by rw[<-(Aa aD).1];exact aa
       obtain rfl:ah=U:=by rw[Aa bv,hc];rfl
       have a5:=Ab (show ∃ (z nq:Int) (D:L0 Addr) (E G:Nat) (ay:M6) (M:L8) (q:Sx×Int),Ag wc g #[V jd z,jC v,V jd nq,Y D E G,Y ga gn gc] 119/\MW w (R (Z w)+1) (Y ab (T ls) P) (Y S (T ss) W) ay M ss O wc/\Ag wc (R<|Z w) #[Y a n c,Y (Q<|jA br bs U) m d,Y e k f] 70/\Ai w wc/\∃hi,Iv (R (Z w)+1) (Y ab (T ls) P) (Y S (T ss) W) wc (R (Z wr)+2) hi/\StQ w (R (Z wr)+2) hi wc ⟨z,v,nq,D,E,G,ga,gn,gc⟩ q/\Hid (NxP X j M O q z)from⟨3,0,ca,cn,cc,ad,ls,(FX ls x,0),aV,c4,RT,cZ,R<|Z wc,⟨H2<|Aa bu,NLN,λq hq=> .inl (H2<|(Aa aK).1 q hq),λq hq=> .inl (H2<|(Aa aK).2 q hq)⟩,⟨aa.symm,(Aa aD).2.symm,rfl,by show Ma _ _ _ _ (x.cond.map<|BP ls) _ _;rw[hc];exact bL,by show Ma _ _ _ _ (x.aG.map<|BP ls) _ _;rw[<-Aa bb];exact cw⟩,Ab<|.inl ⟨rfl,(Aa H).els (Aa aB) aa⟩⟩);go_wp2
       go_meet
       exact Aa a5
     case rest=>
      obtain⟨z,nq,D,E,G,ay,M,q,dk,cE,dl,eK,hi,eL,eM,eN⟩:=hcut;obtain⟨bf,bg,bh,bi,bj,bk⟩:=Ap dk;have cD:=World.ownsRow.alloc cE.out<|jH #[V jd z,jC v,V jd nq,Y D E G,Y ga gn gc] 119;have aT:=World.news_of_block<|heap_alloc_new wc<|jH #[V jd z,jC v,V jd nq,Y D E G,Y ga gn gc] 119;have e9:T ss<=1048576:=by have:=(Aa H).sd;have:=cE.bS;omega
      have bP:=Ab dk;have cF:=Ab cE;have dm:=Ab dl;have cH:=Ab eK;have dn:=Ab<|And.intro eL eM;have fa:R (Z w)+1<=R (Z wc):=H2 dl.lt;go_wp2_with (at_builtin;refine wpList_append_lies _ rfl _ _ 115 rfl (R (Z w)+1) 119 dy (jM #[V jd 0,jC jW,V jd 0,Y U 0 0,Y U 0 0]) 5 80 underlying115 dz dA dB dC rfl Ob (Y S (T ss) W) (T ss) (ss.flatMap S5.cs) rfl cD ⟨R<|Z wc,0,U⟩ 1 1 (S5.cs ⟨z,v,nq,D,E,G,ga,gn,gc⟩) rfl rfl aT (by intro u hu;simp[S5.cs]at hu;obtain rfl|rfl|rfl|rfl|rfl:=hu<;>rfl) Ob O2 Oa O0 _ rfl ?_)
      intro fb fc dp eO K hat fd;have dq:=(Aa cF).pushD (zU _) (Aa dn).1 (Aa dn).2 eO K<|hat.imp id λh=>h.trans Ox;have eP:=((Aa bP).alloc<|jH #[V jd z,jC v,V jd nq,Y D E G,Y ga gn gc] 119).grown K λe=>H2<|(Aa aK).2 _ e.symm;have eQ:=((Aa dm).alloc<|jH #[V jd z,jC v,V jd nq,Y D E G,Y ga gn gc] 119).grown K λe=>Ac (Aa dm) (Aa cF).out Ob e.symm;have dr:=((Aa cH).alloc (Aa cH).size<|jH #[V jd z,jC v,V jd nq,Y D E G,Y ga gn gc] 119).grown K (by have:=(Aa cH).size;rw[World.size_alloc];omega) λq hq=>H2<|((Aa cF).out.lt q hq).1;have fe:R (Z wc)<=R (Z dp):=by have:=K.size;simp at this;omega
      obtain⟨bf,bg,bh,bi,bj,bk⟩:=Ap eP;obtain⟨rfl,eR⟩|⟨eS,eT,eU⟩:=Aa eN
      .have cI:=Ab<|dq.ans (zU _) dr eR;go_wp2
       go_ret
       exact Aa cI
      .have aR:(z==3)=jE:=zA.2 eS;have eV:=Ab (⟨Ab eU,dq,eQ,dr,Oa⟩:Hid _/\_/\_/\_/\R (Z w)+1<=R (Z dp));go_wp2
       go_roundw
       case rel=>exact⟨j+1,_,_,_,_,eT,Aa bJ,O1,Aa eV⟩
       case measure=>have:=Aa bJ;simp[intOf];omega
  .have cI:=Ab (af.ans (zU _) bY<|(Aa H).cG<|by rw[Aa dH,Aa cL];omega);have ff: ¬ ((j:Int)<(m:Int)):=Oa;go_wp2
   go_ret
   exact Aa cI
end Go.Proofs.YtnjpihpohilnjaaGreatDoor

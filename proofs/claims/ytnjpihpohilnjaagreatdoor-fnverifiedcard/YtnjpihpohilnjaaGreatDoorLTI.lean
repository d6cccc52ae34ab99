import Derived.Test.YtnjpihpohilnjaaGreatDoorMXAH
open List renaming length->T,length->ja
open Option renaming none->U,some->Q,some->jg
open Array renaming size->R,size->jh
open Go renaming World->jB,Value->jF
open Bool renaming true->jD,false->jE
namespace Go.Proofs.YtnjpihpohilnjaaGreatDoor
open Proofs.Tryz
open Value renaming int->V,slice->Y,string->jC,ownBlock->jL,pointer->jP
open IntKind renaming i64->X,i64->jd
open World renaming heap->Z,cell?->jI,setCell->jJ,alloc->jK,ownsRow->jO
open Addr renaming mk->jA
open Obj renaming cells->jH
open Proofs.Tryz renaming prog->jZ
set_option maxRecDepth 100000
set_option maxHeartbeats 12800000
open Go.RowKit
set_option linter.unusedVariables false
variable{zs:L2}{B:Nat}{a:L0 Addr}{w:jB}
theorem Aha {x:Int}(a: 0<=x)(b:x<=255){j:Nat}(c:j=(x / 12 % 4).toNat):(IntKind.i64.wrap<|x.tdiv 12).tmod 4=(j:Int):=by
 have e1:x.tdiv 12=x / 12:=Int.tdiv_eq_ediv_of_nonneg a;have e2:IntKind.i64.wrap (x / 12)=x / 12:=by
  simp[IntKind.wrap,IntKind.bits,IntKind.signed];omega
 grind
theorem AeC (w:jB)(k:Nat)(a:k<3):(WZ k).size<=10/\jI (jK w<|jH #[jC ⟨#[118,48]⟩,jC ⟨#[97,115,107,101,100]⟩,jC ⟨#[110,111,119]⟩] 9) ⟨R<|Z w,k,U⟩=Q (jC<|WZ k):=by
 have h:=(Ag.new w #[jC ⟨#[118,48]⟩,jC ⟨#[97,115,107,101,100]⟩,jC ⟨#[110,111,119]⟩] 9).cell k
 match k,a with
 |0,_=>exact⟨Ob,h⟩
 |1,_=>exact⟨Ob,h⟩
 |2,_=>exact⟨Ob,h⟩
theorem Ahb (k:Nat)(a:k<4):(Xa k).size<=10/\∀w:jB,jI (jK w<|jH #[jC ⟨#[118]⟩,jC ⟨#[119]⟩,jC ⟨#[98,97,115,101]⟩,jC ⟨#[120,95,49]⟩] 9) ⟨R<|Z w,k,U⟩=Q (jC<|Xa k):=by
 have h:=λw:jB=>(Ag.new w #[jC ⟨#[118]⟩,jC ⟨#[119]⟩,jC ⟨#[98,97,115,101]⟩,jC ⟨#[120,95,49]⟩] 9).cell k
 match k,a with
 |0,_=>exact⟨Ob,h⟩
 |1,_=>exact⟨Ob,h⟩
 |2,_=>exact⟨Ob,h⟩
 |3,_=>exact⟨Ob,h⟩
def Alg (B R gb pb b0:Nat) (a:L0 Addr) (n c:Nat) (zs:L2) (wild:Bool) (p:Nat) (N:L6) (L:List<|K9×Int) (nd lt:jF) (S:L9) (sv:jF) (w X:jB):Prop:=
 Kj B R gb a n c zs wild p N L nd lt X/\PgO X B pb S sv/\Ag X b0 #[Y U 0 0,Y U 0 0] 106/\GD B R w X
theorem PC.push {R x f z F:Nat}{n c:Nat}{wild:Bool}{p:Nat}{N:L6}{L:List (K9×Int)}{nd lt:jF}{S:L9}{H I J K:jF}{b:jB}{X:jB}{i:L0 Addr}{j:Nat}{ops:Array Oper}{rest:List Oper}{o:Oper}{q:Act}{Q:Exit->Act->jB->Prop}
  (h:PC B R x f z F a n c zs wild p N L nd lt S (Y i (T S) j) H I J K w b)(k:Int)(nm:K9)(cd l:Int)(M:nm.size<=1048576)(ai:T S<=14)(A:Nat)(O:jh (Z b)=A)(r:X=jK b (Yu k nm cd l)\/X=World.drew (jK b<|Yu k nm cd l))(W:o.guard=U)(s y:Operand)(aa:o.op= .call { callee:= .builtin .append,args:=#[s,y],argTypes:=#[68,68] })(hs:q.eval s=Y i (T S) j)(hy:q.eval y=Y (jg<|jA A 0 U) 1 1)
  (ab:∀g m d,jI d (jA f 1 U)=jg (Y i (T S) j)->World.frozen? d (jA f 1 U)=jE->Alg B R x f z a n c zs wild p N L nd lt (S++[⟨k,nm,cd,l⟩]) (Y (jg<|jA g 0 U) (T S+1) m) w (jJ d (jA f 1 U)<|Y (jg<|jA g 0 U) (T S+1) m)->wpList jZ ops Q rest (q.put o.dst<|Y (jg<|jA g 0 U) (T S+1) m) d):
  wpList jZ ops Q (o ::rest) q X:=by
 subst O;obtain⟨ac,ad,ae,af,ag⟩:=info_parts AeD;have aj:=h.G.lt.1.1;have t:=h.P.row;have C:∀v,(jO b B 113 4 v (T S) (EC S)->X.ownsRow B 113 4 v (T S) (EC S))/\B<=X.heap.size:=λv=>by
  obtain rfl|rfl:=r
  .exact⟨λe=>G1 e _,O0⟩
  .exact⟨λe=>(G1 e _).drew,by show B<=jh (Z<|jK b _);simp;omega⟩
 refine G6 _ W s y 68 aa B 113 ac (.agg #[V jd 0,jC ByteArray.empty,V jd 0,V jd 0]) 4 40 underlying68 ad ae af ag rfl Ob (Y i (T S) j) (T S) (EC S) hs ((C _).1 h.P.st) ⟨jh<|Z b,0,U⟩ 1 1 [V jd k,jC nm,V jd cd,V jd l] hy rfl (by obtain rfl|rfl:=r<;>exact G4 (G8 b _)) (λu hu=>by simp at hu;obtain rfl|rfl|rfl|rfl:=hu<;>rfl) Ob O2 Oa (C undef).2 _ rfl ?_;intro g m d ah hg _ _;have D:(jK b<|Yu k nm cd l).grownBy d<|jL<|Value.slice i (T S) j:=by obtain rfl|rfl:=r<;>exact⟨hg.os,hg.tape,hg.output,hg.size,hg.block⟩
 have E:Ag d f #[Y U 0 0,Y i (T S) j] 106:=⟨(BL D _ t.lt<|Ac t h.P.st Ob).trans t.out⟩
 exact ab g m d (E.cell 1) (E.frozen 1)<|h.pushS _ M D ah
def PlI (B R gb pb b0:Nat) (a:L0 Addr) (n c:Nat) (zs:L2) (wild:Bool) (pz:Nat) (w wr:jB):Prop:=
 ∃ (p:Nat) (N:L6) (L:List<|K9×Int) (nd lt:jF) (S:L9) (sv:jF),Kj B R gb a n c zs wild p N L nd lt wr/\PgO wr B pb S sv/\Ag wr b0 #[Y U 0 0,Y U 0 0] 106/\ja S<=14/\ja L<=ja S/\ja N<=800*ja S/\Hid (∀q M T K,NN zs wild (14-ja S) p N S L q M T K->NN zs wild 14 pz [] [] [] q M T K)/\GD B R w wr
theorem AdF {R:Nat}{n c:Nat}{ab:Nat}(bR:JU w R a n c zs ab)(cW:B<=R)(cX: 0<n->∀q,a=Q q->Addr.block q<B)(wild:Bool):
  Calls jZ 54 #[jP<|Q<|jA R 0 U,.bool wild] w λr w'=>(∃nd bo N S aZ a0,r= .returned (.agg #[nd,bo])/\Hid (VQ zs wild ab N S)/\Cv w' B nd N aZ a0/\jO w' B 113 4 bo (ja S) (EC S)/\(∀x∈N,ndG x)/\(∀s∈S,s.name.size<=1048576)/\ja N<=20000/\ja S<=15)/\GD B R w w':=by
 have cY:=bR.lt;have bS:=AE w<|jH #[Y U 0 0,Y U 0 0] 106;have bT:=bS.alloc bS.size<|jH #[jP<|Q<|jA R 0 U,Y U 0 0,Y U 0 0,.bool wild] 163;have a3:=bT.alloc bT.size<|jH #[Y U 0 0,Y U 0 0] 106;have bU:=((Ag.new w #[Y U 0 0,Y U 0 0] 106).alloc<|jH #[jP<|Q<|jA R 0 U,Y U 0 0,Y U 0 0,.bool wild] 163).alloc<|jH #[Y U 0 0,Y U 0 0] 106;have bp:=(Ag.new (jK w<|jH #[Y U 0 0,Y U 0 0] 106) #[jP<|Q<|jA R 0 U,Y U 0 0,Y U 0 0,.bool wild] 163).alloc<|jH #[Y U 0 0,Y U 0 0] 106;have br:=Ag.new (jK (jK w<|jH #[Y U 0 0,Y U 0 0] 106)<|jH #[jP<|Q<|jA R 0 U,Y U 0 0,Y U 0 0,.bool wild] 163) #[Y U 0 0,Y U 0 0] 106;simp only[World.size_alloc]at bp br;have aJ:=bR.aA a3 cY;go_enter func54,ntmps54
 go_wp2_with fail
 generalize jK (jK (jK w (jH #[Y U 0 0,Y U 0 0] 106)) (jH #[jP (Q (jA R 0 U)),Y U 0 0,Y U 0 0,.bool wild] 163)) (jH #[Y U 0 0,Y U 0 0] 106)=bt at a3 bU bp br aJ|-;clear bS bT;have co:=Ab (show PlI B R (jh (Z w)+1) (jh (Z w)+1+1) (jh (Z w)) a n c zs wild ab w bt from⟨ab,[],[],_,_,[],_,⟨[],[],⟨bp,aJ,Cv.nil _ _,World.ownsRow_nil _ _ _ _,⟨⟨Oa,cW⟩,cX⟩,(λx hx=>Q9),(λx hx=>Q9)⟩⟩,⟨br,World.ownsRow_nil _ _ _ _,λs hs=>by cases hs⟩,bU,Ox,Ox,Ox,Ab λq M T K h=>h,⟨a3.mono Oa,λk bu _ _ _ r=>r.aA a3 NLN⟩⟩);clear bU bp br aJ a3 bR;go_loopw [] (λwr=>PlI B R (jh (Z w)+1) (jh (Z w)+1+1) (jh<|Z w) a n c zs wild ab w wr) (λwr=>14-JQ ((jI wr ⟨jh (Z w)+1+1,1,U⟩).getD undef))
 case atStart=>exact Aa co
 case round=>
  clear co;obtain⟨p,N,L,nd,lt,S,bo,aK,aL,bv,dB,dC,dD,aM,bw⟩:=hrel;obtain⟨bV,bu,cp,-⟩:=Ae aL.st;have bW:=aL.row.cell 1;have bx:=Ab (show JQ ((jI wr ⟨jh (Z w)+1+1,1,U⟩).getD undef)=ja S by
   have:jI wr ⟨jh (Z w)+1+1,1,U⟩=Q bo:=bW;rw[this,cp];rfl)
  subst cp;by_cases bX:ja S<14
  case' neg=>
   have cZ: ¬ ((ja S:Int)<14):=Oa;have bY:=Ab<|show ¬ ja S<14\/¬ 4<(ja zs:Int)-(p:Int)from .inl Oa;have aa:=aK;have aN:=aL;have a4:=bv;have a5:=bw;clear aK aL bv bw bX;obtain⟨ad,rfl⟩:∃ad,ad=wr:=⟨_,rfl⟩
  case' pos=>
   have cZ:(ja S:Int)<14:=Oa;have a6:=Ab bX;go_wp2_with fail
   refine(YC R a n c zs p wr aK.lt.2.2).mono ?_;rintro r bZ ⟨y,rfl,b0,dE,dF,a7⟩;have aa:=aK.below a7;have aN:=aL.below a7;have a4:=bv.aA a7 NLN;have a5:=bw.below a7 aK.lt.1.1;clear aK aL bv bw a7;by_cases hy: 4<y
   case' pos=>
    have bz:=Ab (show 4<(ja zs:Int)-(p:Int) by have:=Aa b0;omega);go_wp2_with fail
    refine(BN R a n c zs p bZ aa.lt.2.2).mono ?_;rintro r w2 ⟨x,a8,rfl,bA,cq,cr,aJ,I⟩;have K2:Gk B R (jh (Z w)+1) lt nd bZ nd w2:=Gk.bO I aa.lt.2.1.2 aa.lt.1.2.2;have ar:=aa.aR I aJ;have aO:=aN.gk K2 aa;have bB:=K2.row aa a4 Ob Ob Ob Ob;have bC:=a5.gk K2 aa;clear aa aN a4 a5 K2 I aJ bW;by_cases e3:x % 3=0
    .have b1:(x % 3==0)=jD:=zD.2 e3;have ax:ja L<=100:=Oa;have bD:=Ab e3;clear e3;have hb3:=AE w2<|jH #[V X 1,jC ⟨#[]⟩,V X<|-1,V X<|-1] 113;have t:PC B R (jh (Z w)+1) (jh (Z w)+1+1) (jh<|Z w) (jh<|Z w2) a n c zs wild a8 N L nd lt S (Y bV (ja S) bu) (V X 1) (jC ⟨#[]⟩) (V X<|-1) (V X<|-1) w<|jK w2<|jH #[V X 1,jC ⟨#[]⟩,V X<|-1,V X<|-1] 113:=
      ⟨ar.below hb3,aO.below hb3,bB.aA hb3 NLN,Ag.new w2 _ _,bC.below hb3 ar.lt.1.1,⟨λe=>H2<|(aO.st.lt _ e).2,ar.lt.1.1,Oa,Oa⟩⟩
     clear ar aO bB bC hb3;go_wp2_with fail
     generalize jK w2 (jH #[V X 1,jC ⟨#[]⟩,V X (-1),V X (-1)] 113)=a9 at t|-;refine(Kl ax 4 Oa (1+x / 3 % 4) a8 N nd _ Oa (Oa:ja N+121<=1000000) t.G).mono ?_;rintro r ba ⟨au,b,ae,rfl,bb,a1,a2,J,O⟩;have cs:ja b<=ja N+121:=a2;have l:=t.gk J O;have f:=l.set 2 (V X<|Fl b) rfl;obtain⟨⟨aP,s1,s2,aQ⟩,P,-⟩:=l.cells;have aS:=P 2;clear a1 a2 J O t l P;obtain⟨⟨af,ag,I,ah⟩,A,⟨C,D,E⟩,⟨aj,ai,j⟩⟩:=f.cells;have ct:=A 1;clear A C D E j aj;go_wp2_with fail
     generalize jJ ba ⟨jh (Z w2),2,U⟩ (V X (Fl b))=ak at f af ag I ah ai ct|-;clear aP s1 s2 aQ aS;apply Alh
     .intro c0;have c1:(Tryz.f91.name== "runtime.NumGoroutine")=jE:=Oy;have c2: Tryz.f91.body.isNone=jE:=Oy;have b2:=Ab λ(bt:jB)=>(Ep (ja S:Int) bt Oa Oa).mono (R':=λe w'=>∃v,e= .returned v/\(v=jC (IH (ja S:Int).toNat)/\Ai bt w')) λr w' h=>⟨_,h.1,rfl,h.2⟩;obtain⟨cu,bc⟩:=Ahb (x / 12 % 4).toNat Oa;obtain⟨bs,b3⟩:∃bs,bs=Xa (x / 12 % 4).toNat:=⟨_,rfl⟩
      rw[<-b3]at cu bc;obtain⟨av,b4⟩:∃av:Nat,av=(x / 12 % 4).toNat:=⟨_,rfl⟩
      have hq:(IntKind.i64.wrap<|x.tdiv 12).tmod 4=(av:Int):=Aha cq cr b4;have c3:(av:Int)<4:=Oa;rw[<-b4]at bc;clear b4;have cv:=f.below<|Aiq ak;have b5:=f.below<|AE ak<|jH #[jC ⟨#[118]⟩,jC ⟨#[119]⟩,jC ⟨#[98,97,115,101]⟩,jC ⟨#[120,95,49]⟩] 9;have cw:=bc ak;obtain⟨⟨c4,c5,c6,c7⟩,c8,-,⟨c9,da,db⟩⟩:=b5.cells;clear c8 db c9;have cx:=b5.below<|Aiq _;have cy:=Ft (ja S:Int).toNat;obtain⟨W,b6⟩:∃W,W=IH (ja S:Int).toNat:=⟨_,rfl⟩
      rw[<-b6]at b2 cy;have bE:=Ab (show bs++W=Xa (x / 12 % 4).toNat++IH (ja S) by rw[b3,b6];rfl);clear b3 b6;have dc: ¬ (9223372036854775807<bs.size+W.size):=Oa;have bF:=Ab (show(bs++W).size<=100 by rw[GE];omega);go_region_law (refine LQ rfl 91 _ func91 c1 c2 _ _ rfl (V X (ja S:Int)) rfl _ (Aa b2 _) ?_;rintro dG ay ⟨rfl,bG⟩;first|(have bd:=cx.below bG;have cz:jI ay ⟨jh<|Z ak,av,U⟩=Q (jC bs):=(bG.cell (p:=⟨jh<|Z ak,av,U⟩)<|by show jh (Z ak)<jh (Z<|jK ak _);simp).trans cw;obtain⟨⟨bH,b7,bI,bJ⟩,bf,-,-⟩:=bd.cells;have cA:=bf 1;clear bf)|(have cB:=cv.below bG;have bd:=cB.below<|AE ay<|jH #[jC ⟨#[118]⟩,jC ⟨#[119]⟩,jC ⟨#[98,97,115,101]⟩,jC ⟨#[120,95,49]⟩] 9;obtain⟨⟨bH,b7,bI,bJ⟩,bf,-,-⟩:=bd.cells;have cA:=bf 1;have cz:=bc ay;clear bf))
      all_goals
       have F:=bd.set 1 (jC<|bs++W) rfl;have aT:=Ab F;clear c4 c5 c6 c7 da cw cz bd F bH b7 bI bJ cA bc cu cy dc hq c3 b2 cv b5 cx
       first
       |(clear cB;generalize jJ (jK ay (jH #[jC ⟨#[118]⟩,jC ⟨#[119]⟩,jC ⟨#[98,97,115,101]⟩,jC ⟨#[120,95,49]⟩] 9)) ⟨jh (Z w2),1,U⟩ (jC (bs++W))=aw at aT|-;generalize jh (Z ay)=b8)
       |(generalize jJ ay ⟨jh (Z w2),1,U⟩ (jC (bs++W))=aw at aT|-;generalize jh (Z ak)=b8)
       clear bG;revert aT;revert aw;revert bE;revert bF;revert W;revert bs;revert av;revert b8;exact c0.out
     intro b8 av bs W bF bE aw aT;have F:=Aa aT;clear aT f af ag I ah ai ct;have bK:=Aa bF;clear bF;rcases(show wild=jE\/wild=jD/\245<x\/wild=jD/\¬ 245<x by cases wild<;>simp<;>omega)with rfl|⟨rfl,h245⟩|⟨rfl,h245⟩
     case' inl=>
      have aV:=Ab (show bs++W=MJ jE x (ja S) by rw[MJ,if_neg Ox];exact Aa bE);generalize bs++W=ns at F aV bK;have al:=F;obtain⟨ao,rfl⟩:∃ao,ao=aw:=⟨_,rfl⟩
      clear F;go_wp2_with fail
     case' inr.inl=>
      obtain⟨dd,cC⟩:=AeC aw (x % 3).toNat Oa;have aV:=Ab (show WZ (x % 3).toNat=MJ jD x (ja S) by rw[MJ,if_pos ⟨rfl,h245⟩]);generalize WZ (x % 3).toNat=ns at dd cC aV;have b9:=F.below<|AE aw<|jH #[jC ⟨#[118,48]⟩,jC ⟨#[97,115,107,101,100]⟩,jC ⟨#[110,111,119]⟩] 9;have al:=b9.set 1 (jC ns) rfl;obtain⟨⟨de,df,dg,dh⟩,cD,-,-⟩:=b9.cells;have di:=cD 1;clear cD F b9;go_wp2_with fail
      generalize jJ (jK aw (jH #[jC ⟨#[118,48]⟩,jC ⟨#[97,115,107,101,100]⟩,jC ⟨#[110,111,119]⟩] 9)) ⟨jh (Z w2),1,U⟩ (jC ns)=ao at al|-;clear de df dg dh di cC;clear bK;have bK:ns.size<=100:=Oa
     case' inr.inr=>
      have aV:=Ab (show bs++W=MJ jD x (ja S) by rw[MJ,if_neg λh=>h245 h.2];exact Aa bE);generalize bs++W=ns at F aV bK;have al:=F;obtain⟨ao,rfl⟩:∃ao,ao=aw:=⟨_,rfl⟩
      clear F;go_wp2_with fail
     all_goals
      obtain⟨cE,cn,aW,cl,bg,ca,-⟩:=al.G.cells;subst ca;obtain⟨⟨af,ag,I,ah⟩,A,⟨C,D,E⟩,⟨aj,ai,j⟩⟩:=al.cells;obtain⟨dH,dI,cb⟩:=al.G;have cc:=cb.aU;have bh:=cb.row;clear cb;have cF:=(World.ownsRow.alloc cc<|jH #[jC ns,V X<|1+x / 3 % 4] 167).drew;have cG:=World.news_of_block<|heap_alloc_new ao<|jH #[jC ns,V X<|1+x / 3 % 4] 167;have dJ:=al.G.lt.1.1;have cH:=bh.alloc<|jH #[jC ns,V X<|1+x / 3 % 4] 167;have dj:=cH.cell 2;have cI:jL (Value.slice aW (ja L) cl)≠Q (jh (Z w)+1):=Ac bh cc Ob;obtain⟨dk,dl,dm,dn,dp⟩:=info_parts AeE;clear A C E j aj ai bg af I ah;go_region_law (refine step_append_lies _ rfl _ _ 161 rfl B 167 dk (.agg #[jC ByteArray.empty,V X 0]) 2 24 underlying161 dl dm dn dp rfl Ob (Y aW (ja L) cl) (ja L) (SV L) rfl cF ⟨jh<|Z ao,0,U⟩ 1 1 [jC ns,V X<|1+x / 3 % 4] rfl rfl cG (by intro u hu;simp at hu;obtain rfl|rfl:=hu<;>rfl) Ob O2 Oa O0 _ rfl ?_;intro cJ cK cd cL aX hat dq;have ce:(jK ao<|jH #[jC ns,V X<|1+x / 3 % 4] 167).grownBy cd<|jL<|Value.slice aW (ja L) cl:=⟨aX.os,aX.tape,aX.output,aX.size,aX.block⟩;have cf:Ag cd (jh (Z w)+1) #[jP<|Q<|jA R 0 U,ae,Y aW (ja L) cl,.bool _] 163:=⟨(BL ce _ bh.lt cI).trans bh.out⟩;have b1:=cf.cell 2;have dr:=cf.frozen 2)
      all_goals
       have bM:=al.cM (jH #[jC ns,V X<|1+x / 3 % 4] 167) (ns,1+x / 3 % 4) (Oa:ns.size<=1000) ce cL;clear cH dj cI bh cc cF cG aX hat dq ce cf b1 dr al ag D cL;generalize jJ cd ⟨jh (Z w)+1,2,U⟩ (Y (Q (jA cJ 0 U)) (ja L+1) cK)=dK at bM|-;obtain⟨⟨af,ag,I,ah⟩,A,⟨C,D,E⟩,⟨aj,ai,j⟩⟩:=bM.cells;have bN:=j 1;clear A C D E j;go_wp2_with (at_builtin;refine bM.push 1 ns (Fl b) (-1) (by show(ns:K9).size<=1048576;first|omega|decide) Oa _ (by first|rfl|simp) (by first|exact .inl rfl|exact .inr rfl) rfl _ _ rfl rfl rfl ?_)
       rintro g i m bi f1 ⟨H,d,o,z⟩;have az:=Ab<|show PlI B R (jh (Z w)+1) (jh (Z w)+1+1) (jh<|Z w) a n c zs _ ab w (jJ m ⟨jh (Z w)+1+1,1,U⟩<|Y (Q<|jA g 0 U) (ja S+1) i)from⟨au,b,(L++[(ns,1+x / 3 % 4)]),ae,(Y (Q<|jA cJ 0 U) (ja L+1) cK),S++[⟨1,ns,(Fl b),(-1)⟩],_,H,d,o,O0,O0,O0,Ab λaB aC aD aE hh=>Aa aM aB aC aD aE<|KI (H2<|Aa a6) (H2<|Aa bz) bA (Ahc (Aa bD) (Aa bb)<|Aa aV) hh,z⟩;have aG:=Ab (show 14-JQ ((jI (jJ m ⟨jh (Z w)+1+1,1,U⟩<|Y (Q<|jA g 0 U) (ja S+1) i) ⟨jh (Z w)+1+1,1,U⟩).getD undef)<14-JQ ((jI wr ⟨jh (Z w)+1+1,1,U⟩).getD undef) by
        have e:jI (jJ m ⟨jh (Z w)+1+1,1,U⟩<|Y (Q<|jA g 0 U) (ja S+1) i) ⟨jh (Z w)+1+1,1,U⟩=Q (Y (Q<|jA g 0 U) (ja S+1) i):=d.row.cell 1;rw[e,Aa bx];show 14-(ja S+1)<14-ja S;omega)
       clear H d o z bM;go_wp2_with fail
       exact⟨Aa az,Aa aG⟩
    .have b1:(x % 3==0)=jE:=zA.2 e3;have hb3:=AE w2<|jH #[V X 2,jC ⟨#[]⟩,V X<|-1,V X<|-1] 113;have t:PC B R (jh (Z w)+1) (jh (Z w)+1+1) (jh<|Z w) (jh<|Z w2) a n c zs wild a8 N L nd lt S (Y bV (ja S) bu) (V X 2) (jC ⟨#[]⟩) (V X<|-1) (V X<|-1) w<|jK w2<|jH #[V X 2,jC ⟨#[]⟩,V X<|-1,V X<|-1] 113:=
      ⟨ar.below hb3,aO.below hb3,bB.aA hb3 NLN,Ag.new w2 _ _,bC.below hb3 ar.lt.1.1,⟨λe=>H2<|(aO.st.lt _ e).2,ar.lt.1.1,Oa,Oa⟩⟩
     clear ar aO bB bC hb3;have ax:ja L<=100:=Oa;have cN:x % 3=1\/x % 3=2:=Oa;have bD:=Ab e3;clear e3;by_cases aY:x=254
     .have ds:(x==254)=jD:=zD.2 aY;have q1:(x % 3==1)=jE:=zA.2 Oa;have bP:=Ab aY;have bj:=Ab (Oa:¬ x % 3=1);clear aY cN;go_wp2_with fail
      generalize jK w2 (jH #[V X 2,jC ⟨#[]⟩,V X (-1),V X (-1)] 113)=a9 at t|-;refine(BN R a n c zs a8 a9 t.G.lt.2.2).mono ?_;rintro r dt ⟨cO,cP,rfl,bQ,cQ,cS,bk,bl⟩;have ap:=t.aR bl bk;clear t bl bk;obtain⟨tt,cT⟩:∃tt:Nat,(tt:Int)=64-cO % 2:=⟨(64-cO % 2).toNat,Oa⟩
      have du: 1<=tt:=Oa;have dL:tt<=64:=Oa;have cU:=Ab cT;clear cT;go_wp2_with fail
      rw[<-Aa cU];refine(AeB ap.G Oa ax tt du Oa).mono ?_;rintro r ba ⟨au,b,ae,rfl,bb,a1,a2,J,O⟩;have l:=ap.gk J O;have f:=l.set 2 (V X<|Fl b) rfl;obtain⟨⟨aP,s1,s2,aQ⟩,P,-⟩:=l.cells;have aS:=P 2;clear a1 J O ap l P;obtain⟨⟨af,ag,I,ah⟩,A,⟨C,D,E⟩,⟨aj,ai,j⟩⟩:=f.cells;have bN:=j 1;clear A C D E j;go_wp2_with (at_builtin;refine f.push 2 ⟨#[]⟩ (Fl b) (-1) (by show(⟨#[]⟩:K9).size<=1048576;first|omega|decide) Oa _ (by first|rfl|simp) (by first|exact .inl rfl|exact .inr rfl) rfl _ _ rfl rfl rfl ?_)
      rintro g i m bi f1 ⟨H,d,o,z⟩;have az:=Ab<|show PlI B R (jh (Z w)+1) (jh (Z w)+1+1) (jh<|Z w) a n c zs wild ab w (jJ m ⟨jh (Z w)+1+1,1,U⟩<|Y (Q<|jA g 0 U) (ja S+1) i)from⟨au,b,L,ae,lt,S++[⟨2,⟨#[]⟩,(Fl b),(-1)⟩],_,H,d,o,O0,O0,O0,Ab λaB aC aD aE hh=>Aa aM aB aC aD aE<|KI (H2<|Aa a6) (H2<|Aa bz) bA (Xb (Aa bD) (Aa bj)<|AeF (Aa bP) bQ (Aa cU)<|Aa bb) hh,z⟩;have aG:=Ab (show 14-JQ ((jI (jJ m ⟨jh (Z w)+1+1,1,U⟩<|Y (Q<|jA g 0 U) (ja S+1) i) ⟨jh (Z w)+1+1,1,U⟩).getD undef)<14-JQ ((jI wr ⟨jh (Z w)+1+1,1,U⟩).getD undef) by
       have e:jI (jJ m ⟨jh (Z w)+1+1,1,U⟩<|Y (Q<|jA g 0 U) (ja S+1) i) ⟨jh (Z w)+1+1,1,U⟩=Q (Y (Q<|jA g 0 U) (ja S+1) i):=d.row.cell 1;rw[e,Aa bx];show 14-(ja S+1)<14-ja S;omega)
      clear H d o z f;go_wp2_with fail
      exact⟨Aa az,Aa aG⟩
     .have ds:(x==254)=jE:=zA.2 aY;have bP:=Ab aY;clear aY;go_wp2_with fail
      generalize jK w2 (jH #[V X 2,jC ⟨#[]⟩,V X (-1),V X (-1)] 113)=a9 at t|-;refine(Kl ax 5 Oa 1 a8 N nd _ Oa (Oa:ja N+364<=1000000) t.G).mono ?_;rintro r ba ⟨au,b,ae,rfl,cV,a1,a2,J,O⟩;have dM:ja b<=ja N+364:=a2;have l:=t.gk J O;have f:=l.set 2 (V X<|Fl b) rfl;obtain⟨⟨aP,s1,s2,aQ⟩,P,-⟩:=l.cells;have aS:=P 2;clear a1 a2 J O t l P;obtain e1|e2:=cN
      .have q1:(x % 3==1)=jD:=zD.2 e1;have bj:=Ab e1;clear e1;go_wp2_with fail
       generalize jJ ba ⟨jh (Z w2),2,U⟩ (V X (Fl b))=ak at f|-;clear aP s1 s2 aQ aS;refine(Kl ax 4 Oa 4 au b ae _ Oa (Oa:ja b+121<=1000000) f.G).mono ?_;rintro r ay ⟨dv,bm,dw,rfl,dx,a1,a2,J,O⟩;have dN:ja bm<=ja b+121:=a2;have l:=f.gk J O;have F:=l.set 3 (V X<|Fl bm) rfl;obtain⟨⟨aP,s1,s2,aQ⟩,P,-⟩:=l.cells;have aS:=P 3;clear a1 a2 J O f l P;obtain⟨⟨af,ag,I,ah⟩,A,⟨C,D,E⟩,⟨aj,ai,j⟩⟩:=F.cells;have bN:=j 1;clear A C D E j;go_wp2_with (at_builtin;refine F.push 2 ⟨#[]⟩ (Fl b) (Fl bm) (by show(⟨#[]⟩:K9).size<=1048576;first|omega|decide) Oa _ (by first|rfl|simp) (by first|exact .inl rfl|exact .inr rfl) rfl _ _ rfl rfl rfl ?_)
       rintro g i m bi f1 ⟨H,d,o,z⟩;have az:=Ab<|show PlI B R (jh (Z w)+1) (jh (Z w)+1+1) (jh<|Z w) a n c zs wild ab w (jJ m ⟨jh (Z w)+1+1,1,U⟩<|Y (Q<|jA g 0 U) (ja S+1) i)from⟨dv,bm,L,dw,lt,S++[⟨2,⟨#[]⟩,(Fl b),(Fl bm)⟩],_,H,d,o,O0,O0,O0,Ab λaB aC aD aE hh=>Aa aM aB aC aD aE<|KI (H2<|Aa a6) (H2<|Aa bz) bA (Acf (Aa bj) (Xc (Aa bP)<|Aa cV)<|Aa dx) hh,z⟩;have aG:=Ab (show 14-JQ ((jI (jJ m ⟨jh (Z w)+1+1,1,U⟩<|Y (Q<|jA g 0 U) (ja S+1) i) ⟨jh (Z w)+1+1,1,U⟩).getD undef)<14-JQ ((jI wr ⟨jh (Z w)+1+1,1,U⟩).getD undef) by
        have e:jI (jJ m ⟨jh (Z w)+1+1,1,U⟩<|Y (Q<|jA g 0 U) (ja S+1) i) ⟨jh (Z w)+1+1,1,U⟩=Q (Y (Q<|jA g 0 U) (ja S+1) i):=d.row.cell 1;rw[e,Aa bx];show 14-(ja S+1)<14-ja S;omega)
       clear H d o z F;go_wp2_with fail
       exact⟨Aa az,Aa aG⟩
      .have q1:(x % 3==1)=jE:=zA.2 Oa;have bj:=Ab (Oa:¬ x % 3=1);clear e2;obtain⟨⟨af,ag,I,ah⟩,A,⟨C,D,E⟩,⟨aj,ai,j⟩⟩:=f.cells;have bN:=j 1;clear A C D E j;go_wp2_with (at_builtin;refine f.push 2 ⟨#[]⟩ (Fl b) (-1) (by show(⟨#[]⟩:K9).size<=1048576;first|omega|decide) Oa _ (by first|rfl|simp) (by first|exact .inl rfl|exact .inr rfl) rfl _ _ rfl rfl rfl ?_)
       rintro g i m bi f1 ⟨H,d,o,z⟩;have az:=Ab<|show PlI B R (jh (Z w)+1) (jh (Z w)+1+1) (jh<|Z w) a n c zs wild ab w (jJ m ⟨jh (Z w)+1+1,1,U⟩<|Y (Q<|jA g 0 U) (ja S+1) i)from⟨au,b,L,ae,lt,S++[⟨2,⟨#[]⟩,(Fl b),(-1)⟩],_,H,d,o,O0,O0,O0,Ab λaB aC aD aE hh=>Aa aM aB aC aD aE<|KI (H2<|Aa a6) (H2<|Aa bz) bA (Xb (Aa bD) (Aa bj)<|Xc (Aa bP)<|Aa cV) hh,z⟩;have aG:=Ab (show 14-JQ ((jI (jJ m ⟨jh (Z w)+1+1,1,U⟩<|Y (Q<|jA g 0 U) (ja S+1) i) ⟨jh (Z w)+1+1,1,U⟩).getD undef)<14-JQ ((jI wr ⟨jh (Z w)+1+1,1,U⟩).getD undef) by
        have e:jI (jJ m ⟨jh (Z w)+1+1,1,U⟩<|Y (Q<|jA g 0 U) (ja S+1) i) ⟨jh (Z w)+1+1,1,U⟩=Q (Y (Q<|jA g 0 U) (ja S+1) i):=d.row.cell 1;rw[e,Aa bx];show 14-(ja S+1)<14-ja S;omega)
       clear H d o z f;go_wp2_with fail
       exact⟨Aa az,Aa aG⟩
   have dO: ¬ ((4 :Int)<y):=hy;have bY:=Ab<|show ¬ ja S<14\/¬ 4<(ja zs:Int)-(p:Int)from .inr<|H2<|Aa b0;clear hy a6 b0 bX;obtain⟨ad,rfl⟩:∃ad,ad=bZ:=⟨_,rfl⟩
  all_goals
   have ax:ja L<=100:=Oa;have hb3:=AE ad<|jH #[V X 3,jC ⟨#[]⟩,V X<|-1,V X<|-1] 113;have t:PC B R (jh (Z w)+1) (jh (Z w)+1+1) (jh<|Z w) (jh<|Z ad) a n c zs wild p N L nd lt S (Y bV (ja S) bu) (V X 3) (jC ⟨#[]⟩) (V X<|-1) (V X<|-1) w<|jK ad<|jH #[V X 3,jC ⟨#[]⟩,V X<|-1,V X<|-1] 113:=
    ⟨aa.below hb3,aN.below hb3,a4.aA hb3 NLN,Ag.new ad _ _,a5.below hb3 aa.lt.1.1,⟨λe=>H2<|(aN.st.lt _ e).2,aa.lt.1.1,Oa,Oa⟩⟩
   clear aa aN a4 a5 hb3;go_wp2_with fail
   clear bW;generalize jK ad (jH #[V X 3,jC ⟨#[]⟩,V X (-1),V X (-1)] 113)=a9 at t|-;refine(BN R a n c zs p a9 t.G.lt.2.2).mono ?_;rintro r dt ⟨x,cP,rfl,bQ,cq,cr,bk,bl⟩;have ap:=t.aR bl bk;clear t bl bk;by_cases h0: 0<x % 3
   .have cg:=Ab h0;go_wp2_with fail
    refine(Kl ax 3 Oa 4 cP N nd _ Oa (Oa:ja N+40<=1000000) ap.G).mono ?_;rintro r ba ⟨au,b,ae,rfl,bb,a1,a2,J,O⟩;have cs:ja b<=ja N+40:=a2;have l:=ap.gk J O;have f:=l.set 3 (V X<|Fl b) rfl;obtain⟨⟨aP,s1,s2,aQ⟩,P,-⟩:=l.cells;have aS:=P 3;clear a1 a2 J O ap l P;obtain⟨cE,cn,aW,cl,bg,ca,-⟩:=f.G.cells;obtain⟨⟨af,ag,I,ah⟩,A,⟨C,D,E⟩,⟨aj,ai,j⟩⟩:=f.cells;have bN:=j 1;clear A C D E j;go_wp2_with (at_builtin;refine f.push 3 ⟨#[]⟩ (-1) (Fl b) Ob Oa _ (by first|rfl|simp) (by first|exact .inl rfl|exact .inr rfl) rfl _ _ rfl rfl rfl ?_)
    rintro g i m bi f1 ⟨H,d,o,z⟩;clear f;obtain⟨aZ,a0,aq⟩:=H;have ch:=Ab<|show VQ zs wild ab b (S++[⟨3,⟨#[]⟩,-1,(Fl b)⟩])from⟨p,N,S,L,Aa aM _ _ _ _<|Xd<|H2<|Aa bY,by rw[Ahd,Aa bQ,if_pos<|H2<|Aa cg];exact⟨au,Aa bb,rfl⟩⟩;have g1:jI (jJ m ⟨jh (Z w)+1+1,1,U⟩<|Y (Q<|jA g 0 U) (ja S+1) i) ⟨jh (Z w)+1,1,U⟩=Q _:=aq.row.cell 1;have aH:=d.row.set 0 ae;have bH:=d.row.cell 0;have b7:=d.row.cell 1;have dy:=d.row.frozen 0;have ac:=o.aF (p:=⟨jh (Z w)+1+1,0,U⟩) O0 ae;have bI:=aH.cell 0;have bJ:=aH.cell 1;have cQ:=ac.cell 0;have cS:=ac.cell 1;have dz:=ac.frozen 0;have dA:=ac.frozen 1;have ci:=Ab<|Xe aq d o z Oa Oa;have aI:=Ab<|And.intro aq.bL.1<|And.intro d.bL (Oa:ja b<=20000);clear aq d o z aH ac;subst bg;go_wp2_with fail
    obtain⟨cj,ck,bn,cm⟩:=Aa ci;exact bodyPost_ret (AeG results54 rfl cj) rfl ⟨⟨_,_,b,_,aZ,a0,rfl,ch,ck,by rw[zC]at bn|-;exact bn,(Aa aI).1,(Aa aI).2.1,(Aa aI).2.2,O0⟩,cm⟩
   .have cg:=Ab h0;have f:=ap;have cs:ja N<=ja N+40:=Oa;clear ap;obtain⟨cE,cn,aW,cl,bg,ca,-⟩:=f.G.cells;obtain⟨⟨af,ag,I,ah⟩,A,⟨C,D,E⟩,⟨aj,ai,j⟩⟩:=f.cells;clear A C D E j;go_wp2_with (at_builtin;refine f.push 3 ⟨#[]⟩ (-1) (-1) Ob Oa _ (by first|rfl|simp) (by first|exact .inl rfl|exact .inr rfl) rfl _ _ rfl rfl rfl ?_)
    rintro g i m bi f1 ⟨H,d,o,z⟩;clear f;obtain⟨aZ,a0,aq⟩:=H;have ch:=Ab<|show VQ zs wild ab N (S++[⟨3,⟨#[]⟩,-1,(-1)⟩])from⟨p,N,S,L,Aa aM _ _ _ _<|Xd<|H2<|Aa bY,by rw[Ahd,Aa bQ,if_neg<|H2<|Aa cg];exact⟨rfl,rfl⟩⟩;have g1:jI (jJ m ⟨jh (Z w)+1+1,1,U⟩<|Y (Q<|jA g 0 U) (ja S+1) i) ⟨jh (Z w)+1,1,U⟩=Q _:=aq.row.cell 1;have aH:=d.row.set 0 nd;have bH:=d.row.cell 0;have dy:=d.row.frozen 0;have ac:=o.aF (p:=⟨jh (Z w)+1+1,0,U⟩) O0 nd;have bI:=aH.cell 0;have bJ:=aH.cell 1;have cQ:=ac.cell 0;have cS:=ac.cell 1;have dz:=ac.frozen 0;have dA:=ac.frozen 1;have ci:=Ab<|Xe aq d o z Oa Oa;have aI:=Ab<|And.intro aq.bL.1<|And.intro d.bL (Oa:ja N<=20000);clear aq d o z aH ac;subst bg;go_wp2_with fail
    obtain⟨cj,ck,bn,cm⟩:=Aa ci;exact bodyPost_ret (AeG results54 rfl cj) rfl ⟨⟨_,_,N,_,aZ,a0,rfl,ch,ck,by rw[zC]at bn|-;exact bn,(Aa aI).1,(Aa aI).2.1,(Aa aI).2.2,O0⟩,cm⟩
end Go.Proofs.YtnjpihpohilnjaaGreatDoor

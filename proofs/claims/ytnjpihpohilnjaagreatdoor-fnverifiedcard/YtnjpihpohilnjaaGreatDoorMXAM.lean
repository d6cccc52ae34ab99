import Derived.Test.YtnjpihpohilnjaaGreatDoorLTI
import Derived.Test.YtnjpihpohilnjaaGreatDoorMXAN
import Derived.Test.YtnjpihpohilnjaaGreatDoorOQT
import Derived.Test.YtnjpihpohilnjaaGreatDoorMXAG
open List renaming length->T,length->ja
open Option renaming none->U,some->Q
open Array renaming size->R,size->jh
open Go renaming World->jB,Value->jF,Addr->jG
open Bool renaming true->jD,false->jE
namespace Go.Proofs.YtnjpihpohilnjaaGreatDoor
open Proofs.Tryz
open Value renaming int->V,slice->Y,string->jC,ownBlock->jL,agg->jM
open IntKind renaming i64->X
open World renaming heap->Z,cell?->jI,setCell->jJ,alloc->jK,ownsRow->jO,drew->jR
open Addr renaming mk->jA
open Obj renaming cells->jH
open Ending renaming returned->jN
open Proofs.Tryz renaming prog->jZ
open Go.RowKit
set_option linter.unusedVariables false
set_option maxRecDepth 100000
set_option maxHeartbeats 6400000
variable{Es:L8}{zs:L2}{N:L6}{L:L9}{A:M0}{B d n j ak:Nat}{a:L3}{o:M3}{x:Sx}{w b:jB}
def st0:L9:= [⟨3,⟨#[]⟩,-1,-1⟩]
def AbF:CkR->L6×L9×L2
 |.ok r=>r
 |.error _=>([],[],[])
def AdE:CkR->Int
 |.ok _=>0
 |.error f=>f.1
def TyX (zs:L2) (pz:Nat) (o:L6×L9×L2):Prop:=
 ∃N0 S0 q,VQ zs jE pz N0 S0/\YE N0 S0 q/\((AdE q=0/\o=AbF q)\/AdE q≠0/\∃q2,YE [] st0 q2/\o=AbF q2)
def Ty5 (w:jB) (v:jF) (o:L6×L9×L2):Prop:=
 ∃x n cx y m cy z p cz,v=jM #[Y x n cx,Y y m cy,Y z p cz]/\(IN w x n cx o.1/\NmS w x o.1)/\Po w y m cy o.2.1/\AP w z p cz o.2.2
theorem Agw (w:jB):Ty5 w (jM #[Y U 0 0,Y U 0 0,Y U 0 0]) ([],[],[]):=
 ⟨U,0,0,U,0,0,U,0,0,rfl,⟨⟨rfl,Ob,λx hx=>Q9,λj h=>H9 h Ox⟩,λj h=>H9 h Ox⟩,⟨rfl,Ob,λx hx=>Q9,λj h=>H9 h Ox⟩,⟨rfl,Ob,λj h=>H9 h Ox⟩⟩
theorem GD.set {R a:Nat}{u:jF}(h:GD B R w b)(g:jh (Z w)<=a)(c:B<=a):GD B R w<|jJ b (jA a j U) u:=
 ⟨h.low.setCell (p:=(jA a j U)) c _,λk d t ht f r=>⟨by
  have:=r.lt;rw[H5 (Oa:k≠a)];exact(h.rd k d t ht f r).out⟩⟩
def Aj5 (N:L6):Prop:=∀x∈N,(-9223372036854775808<=x.num/\x.num<=9223372036854775807)/\T x.aB<=1048576
theorem CmF.tym {q:CkR}{lo:Nat}{e:Ending}{w':jB}(h:CmF q lo e w'):∃a1 a2 a3 b1 b2 b3 c1 c2 c3 f1 f2,e=jN (.tuple #[jM #[Y a1 a2 a3,Y b1 b2 b3,Y c1 c2 c3],jM #[V X f1,V X f2]])/\f1=AdE q/\Aj5 (AbF q).1/\∀a,KpW lo w' a->Ty5 a (jM #[Y a1 a2 a3,Y b1 b2 b3,Y c1 c2 c3]) (AbF q):=by
 obtain⟨f,rfl,rfl⟩|⟨N,L,T,x,n,cx,y,m,d,z,p,g,rfl,rfl,i,b⟩:=h
 .exact⟨_,_,_,_,_,_,_,_,_,_,_,rfl,rfl,λx hx=>Q9,λa _=>Agw a⟩
 .exact⟨_,_,_,_,_,_,_,_,_,_,_,rfl,rfl,i,λa c=>⟨x,n,cx,y,m,d,z,p,g,rfl,(b a c).1,(b a c).2.1,(b a c).2.2⟩⟩
theorem Agx {R:Nat}{c:Nat}(al:JU w R a n c zs ak)(aR:B<=R)(aS: 0<n->∀q,a=Q q->Addr.block q<B):
  Calls jZ 29 #[.pointer<|Q<|jA R 0 U] w λr w'=>(∃v o,r=jN v/\Hid (TyX zs ak o)/\Ty5 w' v o/\Aj5 o.1)/\GD B R w w':=by
 have aT:=al.lt;go_enter func29,ntmps29
 go_wp2_with fail
 refine Gd (P:=λu=>Calls _ _ _ u _) λaU z F=>?_;obtain⟨f,G⟩:∃f,f=jh (Z w):=⟨_,rfl⟩
 rw[<-G]at F|-;have b:=Ab G;have H:GD B R w aU:=⟨z.mono Oa,λk y t ht I r=>r.aA z NLN⟩
 clear G;refine(AdF (al.aA z aT) aR aS jE).mono ?_;rintro r w2 ⟨⟨nd,bd,A,C,bf,bg,rfl,ao,J,K,D,aV,bh,bi⟩,b2⟩;obtain⟨aW,cn,rfl,-⟩:=Ae J.aN;obtain⟨aX,y,rfl,-⟩:=Ae K;have aY:f≠R:=S6;have L:=b2.rd f _ _ (by unfold okR;decide) aY F;have aZ:GD B R w w2:=⟨H.low.trans b2.low,λk y t ht I r=>b2.rd k y t ht I<|H.rd k y t ht I r⟩
 have bj:f<jh (Z w2):=L.lt;have ap:=J.nds rfl Oa (λx hx=>⟨(D x hx).1,H2<|(D x hx).2.1⟩);have S2:=FF K rfl Oa aV;have a0:=Ab D;clear J K b2 H F z D;go_wp2_with fail
 refine Gd (P:=λu=>Calls _ _ _ u _) λM g a4=>?_;refine(Qb aW aX (T A) cn (T C) y A C M (ap.below g NLN) (S2.below g NLN) λx hx=>(Aa a0 x hx).2.2.1).mono ?_;rintro r d ⟨⟨q,hq,aq⟩,b4⟩;obtain⟨a1,a2,a3,b1,b2,b3,c1,c2,c3,f1,f2,rfl,ar,au,av⟩:=aq.tym;have a5:=(L.aA g NLN).aA b4 NLN;have a6:B<=jh (Z w2):=S6;have a7:=(aZ.below g a6).below b4<|H2 g.size;have bk:jh (Z M)<=jh (Z d):=b4.size;have bl:jh (Z w2)<=jh (Z M):=g.size;have aw:=Ab ar;have ax:=Ab hq;have ay:=Ab<|K6 au av;clear aq ar hq au av ap S2 g a4 L b4;go_upto_region 3 with fail
 refine To (P:=Code.wp _ _ _ _) λl N RT a8=>?_;have O:=a5.aA N NLN;have az:=a7.below N Oa;obtain⟨aB,aC,aD,_⟩:=Ia O;obtain⟨aE,aG,aH,_⟩:=Ia RT;have g0:=a8.cell 0;have bm:jh (Z d)<jh (Z l):=RT.lt;have n1:f≠jh (Z d):=Oa;by_cases h0:f1=0
 .have a9:(f1 !=0)=jE:=by simp[h0]
  have S:=Ab h0;clear h0;go_wp2_with fail
  have W:=((O.set 0<|Y a1 a2 a3).set 1<|Y b1 b2 b3).set 2<|Y c1 c2 c3;obtain⟨aa,ab,ac,_⟩:=Ia W;refine G2 (v:= jM #[Y a1 a2 a3,Y b1 b2 b3,Y c1 c2 c3]) (by simp[results,results29,go_sem,aa,ab,ac]) rfl ⟨⟨_,AbF q,rfl,Ab ⟨A,C,q,Aa ao,Aa ax,.inl ⟨by rw[<-Aa aw];exact Aa S,rfl⟩⟩,(Aa ay).2 _ λk ba aI=>?_,(Aa ay).1⟩,((az.set (zt (Aa b).symm) S6).set (zt (Aa b).symm) S6).set (zt (Aa b).symm) S6⟩
  have i:k≠f:=Oa;rw[H5 i,H5 i,H5 i];exact N.block k aI
 .have a9:(f1 !=0)=jD:=by simp[h0]
  have S:=Ab h0;clear h0;go_wp2_with fail
  refine Gd (P:=λu=>Calls _ _ _ u _) λad m aJ=>?_;have aK:jO ad (jh<|Z l) 113 4 (Y (Q ⟨jh<|Z l,0,U⟩) 1 1) 1<|EC st0:=⟨rfl,.inr ⟨jh<|Z l,1,_,rfl,NLN,aJ.out,NLN,O2,rfl,rfl⟩⟩
  refine(Qb U (Q ⟨jh<|Z l,0,U⟩) 0 0 1 1 [] st0 ad ⟨rfl,Ob,λx hx=>Q9,λj h=>H9 h Ox⟩ (FF aK rfl Ob (λs hs=>by rw[st0,zR]at hs;rw[hs];exact zE _)) λx hx=>Q9).mono ?_;rintro r bn ⟨⟨q2,aL,aM⟩,E⟩;obtain⟨d1,d2,d3,e1,e2,e3,ae,i2,af,bo,bp,rfl,-,aO,aP⟩:=aM.tym;have aQ:=(O.aA m NLN).aA E NLN;have bb:=(RT.aA m NLN).aA E NLN;have bc:=(az.below m Oa).below E<|H2 m.size;have br:jh (Z l)<=jh (Z ad):=m.size;have ag:=Ab<|K6 aL<|K6 aO aP;clear aM aL aO aP aK m aJ E aB aC aD aE aG aH g0;obtain⟨aB,aC,aD,_⟩:=Ia aQ;obtain⟨aE,aG,aH,_⟩:=Ia bb;go_wp2_with fail
  have W:=(((((aQ.aF (p:=⟨jh<|Z d,0,U⟩) n1<|Y d1 d2 d3).aF (p:=⟨jh<|Z d,1,U⟩) n1<|Y e1 e2 e3).aF (p:=⟨jh<|Z d,2,U⟩) n1<|Y ae i2 af).set 0<|Y d1 d2 d3).set 1<|Y e1 e2 e3).set 2<|Y ae i2 af;obtain⟨aa,ab,ac,_⟩:=Ia W;have ah:jh (Z w)<=jh (Z d):=S6;have ai:B<=jh (Z d):=S6;refine G2 (v:= jM #[Y d1 d2 d3,Y e1 e2 e3,Y ae i2 af]) (by simp[results,results29,go_sem,aa,ab,ac]) rfl ⟨⟨_,AbF q2,rfl,Ab ⟨A,C,q,Aa ao,Aa ax,.inr ⟨by rw[<-Aa aw];exact Aa S,q2,(Aa ag).1,rfl⟩⟩,(Aa ag).2.2 _ λk ba aI=>?_,(Aa ag).2.1⟩,(((((bc.set ah ai).set ah ai).set ah ai).set (zt (Aa b).symm) S6).set (zt (Aa b).symm) S6).set (zt (Aa b).symm) S6⟩
  have i:k≠f:=Oa;have aj:k≠jh (Z d):=Oa;rw[H5 i,H5 i,H5 i,H5 aj,H5 aj,H5 aj]
set_option maxHeartbeats 12800000
def GdM (N:L6) (L:L9) (T:L2) (x:L3) (n cx:Nat) (y:L3) (m cy:Nat) (z:L3) (p cz:Nat) (W:jB):Prop:=(IN W x n cx N/\NmS W x N)/\Po W y m cy L/\AP W z p cz T
theorem TyM.gd {x y z:L3}{cx m a p b:Nat}{T:L2}{f g:L7}(h:TyM B d (Y x n cx) (Y y m a) (Y z p b) N L T f g w)(c:ja N=n)(i:n<=1048576)(ok:∀x∈N,okN x/\x.text.size<=1048576)(h3:ja L=m)(j:m<=1048576)(k:∀s∈L,s.name.size<=1048576)(h5:ja T=p)(l:p<=1048576):GdM N L T x n cx y m a z p b w:=
 ⟨⟨h.C.nds c i ok,h.C.nms c⟩,FF (by have q:=h.S;rw[h3]at q;exact q) h3 j k,XH (by have q:=h.Tt;rw[h5]at q;exact q) h5 l⟩
def OpM (N:L6) (L:L9) (T:L2) (w:jB) (r:Ending) (w':jB):Prop:=(∃ (x:L3) (n cx:Nat) (y:L3) (m cy:Nat) (z:L3) (p cz:Nat),r=jN (jM #[Y x n cx,Y y m cy,Y z p cz])/\GdM N L T x n cx y m cy z p cz w'/\∀g cs,Ag w' g cs 70->∀u0 u1 u2,GdM N L T x n cx y m cy z p cz<|jJ (jJ (jJ w' (jA g 0 U) u0) (jA g 1 U) u1) (jA g 2 U) u2)/\Ai w w'
theorem StA.kp {X:List (Sx×Int)}{w':jB}{n c:Nat}{ss:N5}(O:jO w' (R<|Z w) 119 5 (Y a n c) n<|ss.flatMap S5.cs)(b:T ss=n)(g:T ss=T X)(he:∀j,(d:j<T ss)->(f:j<T X)->∃lo hi,StQ w lo hi w' ss[j] X[j]):KpT w' a n ss X:=
 ⟨b,Oa,Aa8 O b,λj d f=>by
  obtain⟨lo,hi,q⟩:=he j d f;exact⟨q.1,q.2.1,q.2.2.1,q.2.2.2.1.t,q.2.2.2.2.t⟩⟩
theorem Aa9:∀(a:List<|Sx×Int) {q:Sx×Int},q∈Li a->q∈a:=by intro a;induction a<;>intros<;>grind [Li]
theorem Aba:∀(a:List<|Sx×Int),T (Li a)<=T a:=by intro a;induction a<;>intros<;>grind [Li]
theorem AhJ:(jZ.info? 2).map (λi=>(i.zero,i.size,i.bytes))=Q (Q<|V X 0,1,8):=Oy
theorem Afh (a b e:L3)(n c m d k f:Nat)(w:jB)(P:List<|Sx×Int)(eD:T P<=600)(eE:∀q∈P,Vf q.1.cond/\Vf q.1.aG)(eF:∀q∈P,q.1.aC=1->∃e,q.1.cond=Q e)
  (eG:∀aV,Ai w aV->Calls jZ 56 #[jM #[Y a n c,Y b m d,Y e k f]] aV λr w'=>r=jN (.bool jD)/\Ai aV w')
  (eH:∀aV,Ai w aV->Calls jZ 57 #[jM #[Y a n c,Y b m d,Y e k f]] aV (StA P aV))(E:M0)(eI:E=(Li P).map λq=>PF (Dr<|Li P) q.1)(eJ:Di E<=4000)(eK:(Dr<|Li P).Nodup)(eL:∀q∈Li P,∀m,usS m q.1=jD->m∈Dr (Li P))(cf:L2)(fO:T cf<=1048576)(eM:∀x∈Ea 0 E,okN x/\x.text.size<=1048576)(eN:∀s∈DA 0 E,s.name.size<=1048576)
  (eO:∀aV (eP:L3) (n' c':Nat) (eQ:L3) (eR eS:Nat),IN aV eP n' c' (Ea 0 E)->Po aV eQ eR eS (DA 0 E)->Calls jZ 62 #[Y eP n' c',Y eQ eR eS] aV (CkT cf aV)):
  Calls jZ 30 #[jM #[Y a n c,Y b m d,Y e k f]] w (OpM (Ea 0 E) (DA 0 E) cf w):=by
 obtain⟨eT,eU,fP,fQ,fR⟩:=info_parts Afg;have cr:=(AE w<|Nx a n c b m d e k f).alloc Ox<|Nx U 0 0 U 0 0 U 0 0;have bN:=(Ag.new w #[Y a n c,Y b m d,Y e k f] 70).alloc<|Nx U 0 0 U 0 0 U 0 0;have bv:=Ag.new (jK w<|Nx a n c b m d e k f) #[Y U 0 0,Y U 0 0,Y U 0 0] 70;simp only[World.size_alloc]at bv;have eV:=Ab eG;have eW:=Ab eH;have df:=Ab eE;have eX:=Ab eF;have eY:=Ab eI;have dH:=Ab eJ;have dI:=Ab eM;have dJ:=Ab eN;have fS:=Ab eO;have eZ:=Ab eK;have e5:=Ab eL;clear eG eH eE eF eI eJ eK eL eM eN eO;go_enter func30,ntmps30
 go_wp2_with fail
 generalize jK (jK w (Nx a n c b m d e k f)) (Nx U 0 0 U 0 0 U 0 0)=gK at cr bN bv|-;refine(Aa eV _ cr).mono ?_;rintro r gL ⟨rfl,b1⟩;have dg:=cr.trans<|b1.mono cr.size;replace bN:=bN.aA b1 NLN;replace bv:=bv.aA b1 NLN;obtain⟨fT,aS,aw⟩:=At bN;clear cr b1 eV;go_wp2_with fail
 refine(Aa eW _ dg).mono ?_;rintro r w2 ⟨⟨gM,ss,rfl,O,dh,he⟩,b2⟩;obtain⟨gN,sc,rfl,_⟩:=Ae O;have di:=StA.kp O rfl dh he;have e7:=dg.trans<|b2.mono dg.size;replace bN:=bN.aA b2 NLN;replace bv:=bv.aA b2 NLN;clear fT aS aw dg b2 O he eW;rw[dh];rw[dh]at di;generalize e8:T P=dj at di eD|-;have cs:=Ab e8;have e9:=Ab di;have dk:=Ab bv;have ct:=Ab e7;clear dh di bN bv e7 e8;go_upto_block 0 with fail
 go_cut [4,5] (λJ _ ab=>∃ (ka:L3) (kn kc:Nat) (al:N5),J=Y ka kn kc/\KpT ab ka kn al (Li P)/\Ai w2 ab)
 case first=>
  go_wp2_with fail
  go_loopw [4,5] (λJ i wr=>∃ (j:Nat) (ka:L3) (kn kc:Nat) (al:N5),j<=dj/\i=V X ((j:Int)-1)/\J=Y ka kn kc/\(kn=0->ka=U)/\Hid (KpT wr ka kn al<|Li<|P.drop j)/\Ai w2 wr) (λ_ i _=>(intOf i+1).toNat)
  case atStart=>exact⟨dj,U,0,0,[],NLN,rfl,rfl,λ_=>rfl,Ab<|by rw[List.drop_eq_nil_of_le<|by rw[Aa cs];exact NLN];exact KpT.nil _,BRN⟩
  case round=>
   obtain⟨j,ka,kn,kc,al,dl,rfl,rfl,dm,dn,F⟩:=hrel;cases j with
   |zero=>
    go_wp2
    go_meet
    exact⟨ka,kn,kc,al,rfl,Aa<|Ab<|show KpT wr ka kn al (Li P)from Aa dn,F⟩
   |succ j=>
    have fU:(((j+1 :Nat):Int)-1)=(j:Int):=Oa;rw[fU];have fa:j<dj:=dl;have gO:(j:Int)<(dj:Int):=Oa;have gP:(0 :Int)<=(j:Int):=Oa;have fb:kn<=600:=by rw[<-(Aa dn).bS];exact zB (Aba _) (by rw[List.length_drop,Aa cs];omega)
    have dp:=(Aa e9).below F NLN;have dK:j<T ss:=by rw[dp.len];exact fa
    have cu:j<T P:=by rw[Aa cs];exact fa
    obtain⟨g,gQ,rfl,hg,c0,c1,c2,c3,c4⟩:=MY dp.dQ dK;have cv:=Ab<|dp.bT j dK cu;have dL:=Ab<|show P.drop j=P[j] ::P.drop (j+1)from z4 cu;have fc:=Ab<|Aa df _<|zI cu;have fd:=Ab<|Aa eX _<|zI cu;generalize ss[j]=bO at c0 c1 c2 c3 c4 cv;generalize P[j]=x at cv dL fc fd;obtain⟨cw,a2,ac,a3,a4,a5,a6,a7,a8⟩:=bO;dsimp only at c0 c1 c2 c3 c4;have fV:ac=x.2:=(Aa cv).2.2.1;subst fV;clear dp dK cu;go_upto_block 2 with fail
    have dM:=F.trans<|(AE wr<|jH #[V X cw,jC a2,V X x.2,Y a3 a4 a5,Y a6 a7 a8] 119).mono F.size;have bw:=Ag.new wr #[V X cw,jC a2,V X x.2,Y a3 a4 a5,Y a6 a7 a8] 119;have A:=AE wr<|jH #[V X cw,jC a2,V X x.2,Y a3 a4 a5,Y a6 a7 a8] 119;have cg:=Ab<|(Aa dn).below A NLN;have dN:=Ab<|(Aa cv).below A NLN;generalize jK wr (jH #[V X cw,jC a2,V X x.2,Y a3 a4 a5,Y a6 a7 a8] 119)=fe at dM bw A cg dN|-;generalize dO:jh (Z wr)=aW at bw A|-;have dP:=Ab bw;have dR:=Ab dM;obtain⟨ax,dS⟩:∃ax,ax=Li (P.drop (j+1)):=⟨_,rfl⟩
    have dT:=Ab dS;rw[<-dS]at cg;clear c0 c1 c2 c3 c4 hg F bw dM A dn cv dO dS;go_cut [7] (λu ab=>u= .bool (ax.any λr=>usS x.2 r.1)/\Ai fe ab)
    case first=>
     go_wp2_with fail
     go_loopw [7,47] (λu i wq=>∃t:Nat,t<=kn/\i=V X t/\u= .bool ((ax.take t).any λr=>usS x.2 r.1)/\Ai fe wq) (λ_ i _=>kn-(intOf i).toNat)
     case atStart=>exact⟨0,zE _,rfl,Ox,BRN⟩
     case round=>
      obtain⟨t,ht,rfl,rfl,G⟩:=hrel;obtain⟨wq,rfl⟩:∃wq,wq=wr:=⟨_,rfl⟩
      by_cases ay:t<kn
      .have ff:(t:Int)<(kn:Int):=Oa;have aD:=(Aa cg).below G NLN;have aS:t<T al:=by rw[aD.len];exact ay
       have aw:t<T ax:=by rw[aD.bS];exact ay
       obtain⟨g2,dq,rfl,cx,c0,c1,c2,c3,c4⟩:=MY aD.dQ aS;have ao:=Ab<|aD.bT t aS aw;have bP:=Ab (show Vf ax[t].1.cond/\Vf ax[t].1.aG from Aa df _<|List.mem_of_mem_drop<|Aa9 _<|by rw[<-Aa dT];exact zI aw);have dr:=Ab (show(ax.take<|t+1).any (λr=>usS x.2 r.1)=((ax.take t).any (λr=>usS x.2 r.1)||usS x.2 ax[t].1) by rw[zT aw,List.any_append];simp);have aM:=Ab ay;generalize al[t]=s at c0 c1 c2 c3 c4 ao;generalize ax[t]=y at ao bP dr;obtain⟨bQ,bi,aE,ap,ae,ah,aq,af,ai⟩:=s;dsimp only at c0 c1 c2 c3 c4;have A:=AE wq (jH #[V X bQ,jC bi,V X aE,Y ap ae ah,Y aq af ai] 119);have ar:=Ab (G.trans (A.mono G.size));have RS:=Ag.new wq #[V X bQ,jC bi,V X aE,Y ap ae ah,Y aq af ai] 119;have bR:=Ab ((Aa dP).aA (Aa ar) NLN);have cy:=Ab ((Aa ao).2.2.2.1.below A NLN);have bU:=Ab ((Aa ao).2.2.2.2.below A NLN);dsimp only at cy bU;generalize cz:(ax.take t).any (λr=>usS x.2 r.1)=aO;have ch:=Ab cz;clear ay aS aw cz ao aD;go_upto_block 4 with fail
       generalize jK wq (jH #[V X bQ,jC bi,V X aE,Y ap ae ah,Y aq af ai] 119)=dU at RS ar bR cy bU A|-;generalize jh (Z wq)=aj at RS|-;clear G c0 c1 c2 c3 c4 cx A;generalize dU=wq at RS ar bR cy bU|-;obtain⟨bO,s1,s2,cA,cB,-⟩:=Ap RS;go_upto_block 4 with fail
       go_cut [7] (λu ab=>u= .bool (aO||usO x.2 y.1.cond)/\Ai wq ab)
       case first=>
        have D:=Aa cy;have W:=(Aa bP).1;clear bO s1 s2 cA cB;rcases hoo:y.1.cond with _|ez
        .have bV:=Ab hoo;rw[hoo]at D;have au:ae=0:=D;clear hoo D W;subst au;go_wp2_with fail
         refine wp_loop_rounds 1 ?_;rw[rounds_succ];go_wp2
         go_meet
         exact⟨by rw[Aa bV];simp[usO],BRN⟩
        .have bV:=Ab hoo;rw[hoo]at D W;obtain⟨au,o,aJ,aP⟩:=D;subst au;obtain⟨cj,ck,rfl,ds,aK⟩:=Bs aJ Ox;obtain⟨aT,b1,b2,b3,b4⟩:=aK 0 Ox;simp only[z0,zu,zX]at aT b1 b2 b3 b4;have A:=AE wq<|CX o;obtain⟨bx,bz,bA,bB,bC,-⟩:=Ap<|(Aa bR).alloc<|CX o;have bj:=Ab<|Kt x.2 ez o _ (aP.below A NLN) W;have bm:=Ab A;clear hoo aK aJ aP A W;cases aO with
         |true=>
          go_wp2_with fail
          refine wp_loop_rounds 2 ?_;rw[rounds_succ];go_wp2_with fail
          rw[rounds_succ];go_wp2
          go_meet
          exact⟨Ox,(Aa bm)⟩
         |false=>
          go_wp2_with fail
          refine wp_loop_rounds 2 ?_;rw[rounds_succ];go_wp2_with fail
          refine(Aa bj).mono ?_;rintro r bD ⟨rfl,bX⟩;have dV:=Ab<|(Aa bm).trans<|bX.mono (Aa bm).size;clear bX bj bm aT b1 b2 b3 b4 bx bz bA bB bC;go_wp2_with fail
          rw[rounds_succ];go_wp2
          go_meet
          exact⟨by rw[Aa bV];simp[usO],(Aa dV)⟩
       case rest=>
        obtain⟨rfl,a9⟩:=hcut;have fg:=RS.aA a9 NLN;replace bR:=Ab<|(Aa bR).aA a9 NLN;replace bU:=Ab<|(Aa bU).below a9 NLN;replace ar:=Ab<|(Aa ar).trans<|a9.mono (Aa ar).size;clear bO s1 s2 cA cB cy RS a9;generalize wc=wq at fg bR bU ar|-;obtain⟨bO,s1,s2,cA,cB,-⟩:=Ap fg;generalize fh:(aO||usO x.2 y.1.cond)=aO;have dW:=Ab fh;clear fh;go_upto_block 6 with fail
        have D:=Aa bU;have W:=(Aa bP).2;clear bO s1 s2 cA cB;rcases hoo:y.1.aG with _|ez
        .have bV:=Ab hoo;rw[hoo]at D;have au:af=0:=D;clear hoo D W;subst au;go_wp2_with fail
         refine wp_loop_rounds 1 ?_;rw[rounds_succ];go_wp2
         go_roundw
         case rel=>exact⟨t+1,Aa aM,O1,by rw[Aa dr,Aa ch,usS,<-Bool.or_assoc,Aa dW];rw[Aa bV];simp[usO],(Aa ar).trans<|BRN.mono (Aa ar).size⟩
         case measure=>have:=Aa aM;simp[intOf];omega
        .have bV:=Ab hoo;rw[hoo]at D W;obtain⟨au,o,aJ,aP⟩:=D;subst au;obtain⟨cj,ck,rfl,ds,aK⟩:=Bs aJ Ox;obtain⟨aT,b1,b2,b3,b4⟩:=aK 0 Ox;simp only[z0,zu,zX]at aT b1 b2 b3 b4;have A:=AE wq<|CX o;obtain⟨bx,bz,bA,bB,bC,-⟩:=Ap<|(Aa bR).alloc<|CX o;have bj:=Ab<|Kt x.2 ez o _ (aP.below A NLN) W;have bm:=Ab A;clear hoo aK aJ aP A W;cases aO with
         |true=>
          go_wp2_with fail
          refine wp_loop_rounds 2 ?_;rw[rounds_succ];go_wp2_with fail
          rw[rounds_succ];go_wp2
          go_roundw
          case rel=>exact⟨t+1,Aa aM,O1,by rw[Aa dr,Aa ch,usS,<-Bool.or_assoc,Aa dW];simp,(Aa ar).trans<|(Aa bm).mono (Aa ar).size⟩
          case measure=>have:=Aa aM;simp[intOf];omega
         |false=>
          go_wp2_with fail
          refine wp_loop_rounds 2 ?_;rw[rounds_succ];go_wp2_with fail
          refine(Aa bj).mono ?_;rintro r bD ⟨rfl,bX⟩;have dV:=Ab<|(Aa bm).trans<|bX.mono (Aa bm).size;clear bX bj bm aT b1 b2 b3 b4 bx bz bA bB bC;go_wp2_with fail
          rw[rounds_succ];go_wp2
          go_roundw
          case rel=>exact⟨t+1,Aa aM,O1,by rw[Aa dr,Aa ch,usS,<-Bool.or_assoc,Aa dW];rw[Aa bV];simp[usO],(Aa ar).trans<|(Aa dV).mono (Aa ar).size⟩
          case measure=>have:=Aa aM;simp[intOf];omega
      .have fW:t=kn:=Oa;have cC:=Ab (show ax.take t=ax from zf<|by rw[(Aa cg).bS];omega);have fi: ¬ ((t:Int)<(kn:Int)):=Oa;clear fW ay;go_wp2
       go_meet
       exact⟨by rw[Aa cC],G⟩
    case rest=>
     obtain⟨rfl,a9⟩:=hcut;have bw:=(Aa dP).aA a9 NLN;have cl:=Ab<|(Aa dN).below a9 NLN;have bE:=Ab<|(Aa cg).below a9 NLN;obtain⟨bx,bz,bA,bB,bC,-⟩:=Ap bw;have bF:=Ab<|(Aa dR).trans<|a9.mono (Aa dR).size;have dX:=Ab bw;generalize cz:(ax.any λr=>usS x.2 r.1)=aO;have ch:=Ab cz;clear cz bw dP dR dN cg;have fj:(¬ (x.1.aC=1/\aO=jE/\JS x.1.cond=jD))->Hid (Li (P.drop j)=x ::ax):=λh=>Ab (by rw[Aa dL,Li,<-Aa dT,if_neg<|by rw[Aa ch];exact h]);have fX:=Ab fj;have fY:cw=x.1.aC:=(Aa cl).1;subst fY;clear fj;have fZ:=Ab (show ∀e,x.1.cond=Q e->JS x.1.cond=AK e from λe h=>by rw[h];rfl);go_upto_region 24 with fail
     go_cut [95] (λv ab=>v= .bool (decide (x.1.aC=1)&&(!aO&&JS x.1.cond))/\Ai wc ab)
     case first=>
      by_cases aQ:x.1.aC=1
      .have q1:(x.1.aC==1)=jD:=zD.2 aQ;obtain⟨ez,dY⟩:=Aa fd aQ;have D:=(Aa cl).2.2.2.1;have W:=(Aa fc).1;rw[dY]at D W;obtain⟨au,o,aJ,aP⟩:=D;dsimp only at au aJ;subst au;obtain⟨cj,ck,rfl,ds,aK⟩:=Bs aJ Ox;obtain⟨aT,b1,b2,b3,b4⟩:=aK 0 Ox;simp only[z0,zu,zX]at aT b1 b2 b3 b4;have bj:=Ab<|EH ez o _ aP W;have dt:=Ab (show(decide (x.1.aC=1)&&(!aO&&JS x.1.cond))=(!aO&&AK ez) by rw[zJ aQ,Aa fZ ez dY];rfl);clear aJ aP aK aQ dY W;cases aO with
       |true=>
        go_wp2
        go_meet
        exact⟨by rw[Aa dt];rfl,BRN⟩
       |false=>
        go_wp2_with fail
        refine(Aa bj).mono ?_;rintro r bD ⟨rfl,bX⟩;go_wp2
        go_meet
        exact⟨by rw[Aa dt];rfl,bX⟩
      .have q1:(x.1.aC==1)=jE:=zA.2 aQ;have dt:=Ab (show(decide (x.1.aC=1)&&(!aO&&JS x.1.cond))=jE by rw[zH aQ];rfl);clear aQ;go_wp2
       go_meet
       exact⟨by rw[Aa dt],BRN⟩
     case rest=>
      obtain⟨rfl,cD⟩:=hcut;replace dX:=Ab<|(Aa dX).aA cD NLN;replace bF:=Ab<|(Aa bF).trans<|cD.mono (Aa bF).size;replace cl:=Ab<|(Aa cl).below cD NLN;replace bE:=Ab<|(Aa bE).below cD NLN;clear bx bz bA bB bC cD a9;cases cE:(decide (x.1.aC=1)&&(!aO&&JS x.1.cond))with
      |true=>
       have fk:x.1.aC=1/\aO=jE/\JS x.1.cond=jD:=by simpa using cE
       have du:=Ab (show ax=Li (P.drop j) by rw[Aa dL,Li,<-Aa dT,if_pos<|by rw[Aa ch];exact fk]);clear cE fk;rw[Aa du]at bE;go_wp2
       go_roundw
       case rel=>exact⟨j,ka,kn,kc,al,Nat.le_of_succ_le dl,rfl,rfl,dm,bE,Aa bF⟩
       case measure=>simp[intOf]
      |false=>
       have du:=Aa fX (λh=>by rw[zJ h.1,h.2.1,h.2.2]at cE;cases cE);clear cE;have dZ:StT wc ⟨x.1.aC,a2,x.2,a3,a4,a5,a6,a7,a8⟩ x:=Aa cl;have A:=AE wc<|jH #[V X x.1.aC,jC a2,V X x.2,Y a3 a4 a5,Y a6 a7 a8] 119;have cF:jO (jK wc<|jH #[V X x.1.aC,jC a2,V X x.2,Y a3 a4 a5,Y a6 a7 a8] 119) (jh<|Z wc) 119 5 (Y (Q ⟨jh<|Z wc,0,U⟩) 1 1) 1<|S5.cs ⟨x.1.aC,a2,x.2,a3,a4,a5,a6,a7,a8⟩:=⟨rfl,.inr ⟨jh<|Z wc,1,_,rfl,NLN,heap_alloc_new wc _,NLN,Ob,rfl,rfl⟩⟩
       have f0:=Ab<|(Aa bF).trans<|A.mono (Aa bF).size;have KB:=(Aa bE).below A NLN;have dv:=Ab KB;have f2:=Ab<|dZ.below A NLN;have f3:=Ab cF;obtain⟨bx,bz,bA,bB,bC,-⟩:=Ap<|Aa dX;by_cases d0:kn=0
       .have f4:=dm d0;subst d0 f4;have cG:=cF;clear cF KB A dZ dm;go_wp2_with (at_builtin;refine AY rfl _ _ 115 rfl (jh<|Z wc) 119 eT 5 kc underlying115 eU (.slice (Q ⟨jh<|Z wc,0,U⟩) 1 1) 1 _ rfl cG rfl ?_)
        have fl:al=[]:=zd (Aa dv).len;have bY:=KpT.cons (n':=1) (c':=1) (Aa dv).len (Aa dv).bS (Aa dv).bT (Aa f2) rfl (by rw[fl];simpa using Aa f3);rw[<-Aa du]at bY;have d1:=Ab bY;clear bY fl cG;go_wp2
        go_roundw
        case rel=>exact⟨j,_,_,_,_,Nat.le_of_succ_le dl,rfl,rfl,λh=>Qy,d1,Aa f0⟩
        case measure=>simp[intOf]
       .obtain⟨g2,dq,rfl,cx,-⟩:=MY KB.dQ (j:=0) (by rw[KB.len];omega);have fm:=KB.dQ.news;have fn:T (al.flatMap S5.cs)=kn*5:=by rw[Uf,KB.len]
        have cG:=cF;have f5: 0<kn:=Oa;have bG:=Ab fn;clear cF KB A dZ dm d0 fn;go_wp2_with (at_builtin;refine wpList_append_lies _ rfl _ _ 115 rfl (jh<|Z wc) 119 eT (jM #[V X 0,jC ByteArray.empty,V X 0,Y U 0 0,Y U 0 0]) 5 80 underlying115 eU fP fQ fR rfl Ob (Y (Q ⟨jh<|Z wc,0,U⟩) 1 1) 1 _ rfl cG (jA g2 dq U) kn kc (al.flatMap S5.cs) rfl (Aa bG) fm (Ajn al) f5 O2 Oa Ox _ rfl ?_)
        intro g7 c7 cH bH bI hat cI;have fo:=(Below.refl (jh<|Z<|jK wc<|jH #[V X x.1.aC,jC a2,V X x.2,Y a3 a4 a5,Y a6 a7 a8] 119)<|jK wc<|jH #[V X x.1.aC,jC a2,V X x.2,Y a3 a4 a5,Y a6 a7 a8] 119).mono (Ox:jh (Z wc)<=_);have dw:=fo.grown bI Ox (λq hq=>by have gR:jh (Z wc)=q:=O8;omega);have dx:Ai wc cH:=(AE wc<|jH #[V X x.1.aC,jC a2,V X x.2,Y a3 a4 a5,Y a6 a7 a8] 119).trans dw;have bY:=KpT.cons (n':=kn+1) (c':=c7) (Aa bE).len (Aa bE).bS (λj f6 f7=>((Aa bE).bT j f6 f7).below dx NLN) ((Aa cl).below dx NLN) rfl (by have:=bH;rw[Nat.add_comm 1 kn]at this;exact this);rw[<-Aa du]at bY;have d1:=Ab bY;have f8:=Ab<|(Aa bF).trans<|dx.mono (Aa bF).size;clear bY cG bH bI hat cI fo dw dx fm;go_wp2
        go_roundw
        case rel=>exact⟨j,_,_,_,_,Nat.le_of_succ_le dl,rfl,rfl,λh=>Oa,by rw[Nat.add_comm 1 kn];exact d1,Aa f8⟩
        case measure=>simp[intOf]
 case rest=>
  obtain⟨ka,kn,kc,al,rfl,dy,fp⟩:=hcut;obtain⟨z,dz⟩:∃z,z=Li P:=⟨_,rfl⟩
  rw[<-dz]at dy;have fb:kn<=600:=by rw[<-dy.bS,dz];exact zB (Aba _) (by rw[Aa cs];exact eD)
  have cm:=Ab dy;have bZ:=Ab fp;have cJ:=Ab dz;generalize wc=bJ at cm bZ|-;clear dz dy fp;go_upto_block 8 with fail
  go_cut [14] (λlv ab=>∃ (ba:L3) (aa bb:Nat),lv=Y ba aa bb/\Hid (jO ab (jh<|Z bJ) 2 1 (Y ba aa bb) aa (Ak<|Dr z)/\T (Dr z)=aa)/\Ai bJ ab)
  case first=>
   go_wp2_with fail
   go_loopw [14,102] (λlv i wr=>∃ (t:Nat) (ba:L3) (aa bb:Nat),t<=kn/\i=V X t/\lv=Y ba aa bb/\aa<=t/\Hid (jO wr (jh<|Z bJ) 2 1 (Y ba aa bb) aa (Ak<|Dr<|z.take t)/\T (Dr<|z.take t)=aa)/\Ai bJ wr) (λ_ i _=>kn-(intOf i).toNat)
   case atStart=>exact⟨0,U,0,0,zE _,rfl,rfl,zE _,Ab ⟨World.ownsRow_nil _ _ _ _,rfl⟩,BRN⟩
   case round=>
    obtain⟨t,ba,aa,bb,ht,rfl,rfl,f9,aX,G⟩:=hrel;obtain⟨wq,rfl⟩:∃wq,wq=wr:=⟨_,rfl⟩
    by_cases ay:t<kn
    .have ff:(t:Int)<(kn:Int):=Oa;have aD:=(Aa cm).below G NLN;have aS:t<T al:=by rw[aD.len];exact ay
     have aw:t<T z:=by rw[aD.bS];exact ay
     obtain⟨g2,dq,rfl,cx,c0,c1,c2,c3,c4⟩:=MY aD.dQ aS;have ao:=Ab<|aD.bT t aS aw;have d2:=Ab<|AhK aw;have aM:=Ab ay;generalize al[t]=s at c0 c1 c2 c3 c4 ao;generalize z[t]=y at ao d2;obtain⟨bQ,bi,aE,ap,ae,ah,aq,af,ai⟩:=s;dsimp only at c0 c1 c2 c3 c4;have d3:bQ=y.1.aC/\aE=y.2:=⟨(Aa ao).1,(Aa ao).2.2.1⟩
     obtain⟨rfl,rfl⟩:=d3;have A:=AE wq<|jH #[V X y.1.aC,jC bi,V X y.2,Y ap ae ah,Y aq af ai] 119;have ar:=Ab<|G.trans<|A.mono G.size;have RS:=Ag.new wq #[V X y.1.aC,jC bi,V X y.2,Y ap ae ah,Y aq af ai] 119;have gS:jh (Z bJ)<=jh (Z wq):=G.size;clear ay aS aw ao aD;by_cases aQ:y.1.aC=1
     .have q1:(y.1.aC==1)=jD:=zD.2 aQ;have cK:=Ab (show Dr (z.take<|t+1)=Dr (z.take t)++[y.2] by rw[Aa d2,if_pos aQ]);clear aQ;obtain⟨ga,gb,gc,ge,gf⟩:=info_parts AhJ;have co:=World.ownsRow.alloc (Aa aX).1<|jH #[V X y.1.aC,jC bi,V X y.2,Y ap ae ah,Y aq af ai] 119;have fq:=World.ownsRow.alloc co<|jH #[V X y.2] 2;obtain⟨bO,s1,s2,cA,cB,-⟩:=Ap RS;go_wp2_with (at_builtin;refine wpList_append_lies _ rfl _ _ 123 rfl (jh<|Z bJ) 2 ga (V X 0) 1 8 underlying123 gb gc ge gf rfl Ob (Y ba aa bb) aa (Ak<|Dr<|z.take t) rfl fq ⟨jh (Z wq)+1,0,U⟩ 1 1 [V X y.2] rfl rfl ?n1 He Ob O2 Oa O0 _ rfl ?_)
      case n1=>exact DP _ _ _ _ Ox
      intro g7 c7 cH bH bI hat cI;have dw:=((Aa ar).alloc (Aa ar).size<|jH #[V X y.2] 2).grown bI (by have:=(Aa ar).size;rw[World.size_alloc];omega) λq hq=>((Aa aX).1.lt q hq).1;have bn:=Ab<|show jO cH (jh<|Z bJ) 2 1 (Y (Q<|jA g7 0 U) (aa+1) c7) (aa+1) (Ak<|Dr<|z.take<|t+1)/\T (Dr<|z.take<|t+1)=aa+1 from⟨by rw[Aa cK];simpa[Ak]using bH,by rw[Aa cK,zC,(Aa aX).2];rfl⟩;clear bH bI hat cI co fq RS;go_wp2
      go_roundw
      case rel=>exact⟨t+1,_,_,_,Aa aM,O1,rfl,Oa,bn,dw⟩
      case measure=>have:=Aa aM;simp[intOf];omega
     .have q1:(y.1.aC==1)=jE:=zA.2 aQ;have cK:=Ab (show Dr (z.take<|t+1)=Dr (z.take t) by rw[Aa d2,if_neg aQ,List.append_nil]);clear aQ;have bn:=Ab<|show jO (jK wq<|jH #[V X y.1.aC,jC bi,V X y.2,Y ap ae ah,Y aq af ai] 119) (jh<|Z bJ) 2 1 (Y ba aa bb) aa (Ak<|Dr<|z.take<|t+1)/\T (Dr<|z.take<|t+1)=aa from⟨by rw[Aa cK];exact World.ownsRow.alloc (Aa aX).1 _,by rw[Aa cK];exact(Aa aX).2⟩;clear RS;go_wp2
      go_roundw
      case rel=>exact⟨t+1,_,_,_,Aa aM,O1,rfl,Oa,bn,Aa ar⟩
      case measure=>have:=Aa aM;simp[intOf];omega
    .have cC:=Ab (show z.take t=z from zf<|by rw[(Aa cm).bS];omega);have fi: ¬ ((t:Int)<(kn:Int)):=Oa;have bn:=aX;rw[Aa cC]at bn;clear ay aX;go_wp2
     go_meet
     exact⟨_,_,_,rfl,bn,G⟩
  case rest=>
   obtain⟨ba,aa,bb,rfl,aX,cL⟩:=hcut;have f9:aa<=600:=by rw[<-(Aa aX).2];exact zB (Ajo z) (by rw[(Aa cm).bS];exact fb)
   have d4:=Ab<|XH (Aa aX).1 (Aa aX).2 Oa;have cp:=Ab<|(Aa cm).below cL NLN;have dA:=Ab<|show jh (Z w)<=jh (Z wc)from zB (Aa ct).size<|zB (Aa bZ).size cL.size;have d5:=Ab<|((Aa ct).trans<|(Aa bZ).mono (Aa ct).size).trans<|cL.mono<|zB (Aa ct).size (Aa bZ).size;have dB:=Ab<|((Aa dk).below (Aa bZ) (Aa dk).lt).below cL<|zL (Aa dk).lt (Aa bZ).size;have fr:=Ab (show(Dr z).Nodup by rw[Aa cJ];exact Aa eZ);have cM:=Ab (show E=z.map (λq=>PF (Dr z) q.1) by rw[Aa cJ];exact Aa eY);have fs:=Ab (show ∀q∈z,∀m,usS m q.1=jD->m∈Dr z by rw[Aa cJ];exact Aa e5);have gg:=Ab (show ∀q∈z,Vf q.1.cond/\Vf q.1.aG from λq hq=>Aa df q<|Aa9 P<|by rw[<-Aa cJ];exact hq);generalize wc=l at d4 cp dA d5 dB|-;have gT:=Aa dA;clear cL aX cm bZ e9 dk ct df eX cs eZ eY e5 cJ;go_upto_block 10 with fail
   have ft:=Ab<|show SE (jh<|Z l) (jh<|Z l) l (Y U 0 0) (Y U 0 0) [] [] [] [] (jK l<|Nx U 0 0 U 0 0 U 0 0)from⟨Cv.nil _ _,World.ownsRow_nil _ _ _ _,Ag.new l _ _,BRN.alloc NLN _,NLN⟩;generalize jK l (Nx U 0 0 U 0 0 U 0 0)=gU at ft|-;go_cut [] (λab=>∃ (nd aY:jF) (N J:L7),Hid<|SE (jh<|Z l) (jh<|Z l) l nd aY (Ea 0 E) (DA 0 E) N J ab)
   case first=>
    go_wp2_with fail
    go_loopw [117] (λi wr=>∃ (t:Nat) (nd aY:jF) (N J:L7),t<=kn/\i=V X t/\Hid (SE (jh<|Z l) (jh<|Z l) l nd aY (Ea 0<|E.take t) (DA 0<|E.take t) N J wr)) (λi _=>kn-(intOf i).toNat)
    case atStart=>exact⟨0,_,_,_,_,zE _,rfl,ft⟩
    case round=>
     obtain⟨t,nd,aY,N,J,ht,rfl,dC⟩:=hrel;obtain⟨wq,rfl⟩:∃wq,wq=wr:=⟨_,rfl⟩
     by_cases ay:t<kn
     .have ff:(t:Int)<(kn:Int):=Oa;have cq:=Aa dC;have aD:=(Aa cp).below cq.F NLN;have aS:t<T al:=by rw[aD.len];exact ay
      have aw:t<T z:=by rw[aD.bS];exact ay
      obtain⟨g2,dq,rfl,cx,c0,d6,c2,c3,c4⟩:=MY aD.dQ aS;have ao:=Ab<|(Aa cp).bT t aS aw;have bP:=Ab<|Aa gg _<|zI aw;have d7:=Ab<|show(∀m,usO m z[t].1.cond=jD->m∈Dr z)/\(∀m,usO m z[t].1.aG=jD->m∈Dr z)from⟨λm h=>Aa fs _ (zI aw) m<|by simp[usS,h],λm h=>Aa fs _ (zI aw) m<|by simp[usS,h]⟩;have d8:=Ab (show E.take (t+1)=E.take t++[PF (Dr z) z[t].1] by rw[zT<|by rw[Aa cM,zN];exact aw];congr 2;simp[Aa cM]);have aM:=Ab ay;generalize al[t]=s at c0 d6 c2 c3 c4 ao;generalize z[t]=y at ao bP d7 d8;obtain⟨bQ,bi,aE,ap,ae,ah,aq,af,ai⟩:=s;dsimp only at c0 d6 c2 c3 c4;have d3:bQ=y.1.aC/\bi=y.1.name:=⟨(Aa ao).1,(Aa ao).2.1⟩
      obtain⟨rfl,rfl⟩:=d3;obtain⟨M,dD⟩:∃M,M=Ea 0 (E.take t):=⟨_,rfl⟩
      obtain⟨bc,dE⟩:∃bc,bc=DA 0 (E.take t):=⟨_,rfl⟩
      obtain⟨aZ,d9⟩:∃aZ,aZ=y.1.cond.map (Eu (Dr z)):=⟨_,rfl⟩
      obtain⟨go,ea⟩:∃go,go=y.1.aG.map (Eu (Dr z)):=⟨_,rfl⟩
      have fu:T M=Di (E.take t):=by rw[dD,Jd]
      have fv:T M+BK aZ<=65535/\T (M++Pn aZ (T M))+BK go<=65535:=by
       have q:=Afi E<|t+1;rw[Aa d8,Xi,Ci]at q;have e1:(PF (Dr z) y.1).cond=aZ:=d9.symm;have e2:(PF (Dr z) y.1).aG=go:=ea.symm;rw[e1,e2]at q;have:=Aa dH;rw[zC,Jz];omega
      have gh:T bc<=600:=by rw[dE,Kn,zg];omega
      have cN:=Ab fv;have eb:=Ab d9;have ec:=Ab ea;have dF:=Ab<|And.intro dD<|And.intro dE fu;rw[<-dD,<-dE]at cq;have A:=(AE wq<|jH #[V X y.1.aC,jC y.1.name,V X aE,Y ap ae ah,Y aq af ai] 119).alloc Ox<|jH #[V X y.1.aC,jC y.1.name,V X<|-1,V X<|-1] 113;have az:=Ab<|cq.below A;have aI:=(Ag.new wq #[V X y.1.aC,jC y.1.name,V X aE,Y ap ae ah,Y aq af ai] 119).alloc<|jH #[V X y.1.aC,jC y.1.name,V X<|-1,V X<|-1] 113;have av:=Ag.new (jK wq<|jH #[V X y.1.aC,jC y.1.name,V X aE,Y ap ae ah,Y aq af ai] 119) #[V X y.1.aC,jC y.1.name,V X<|-1,V X<|-1] 113;simp only[World.size_alloc]at av;have gi:jh (Z l)<jh (Z wq):=cq.Rr.lt;have ed:=Ab (show ∀q,jL aY=Q q->q<jh (Z wq)from λq hq=>(cq.S.lt q hq).2);clear ay aS aw aD dD dE d9 ea fv fu A cq dC;go_upto_block 12 with fail
      generalize jK (jK wq (jH #[V X y.1.aC,jC y.1.name,V X aE,Y ap ae ah,Y aq af ai] 119)) (jH #[V X y.1.aC,jC y.1.name,V X (-1),V X (-1)] 113)=dU at az aI av|-;generalize dO:jh (Z wq)=aW at aI av ed gi|-;generalize gV:aW+1=aj at av|-;clear c0 d6 c2 c3 c4 cx dO;generalize dU=wq at az aI av|-;go_cut [] (λab=>∃ (nd:jF) (N J:L7) (ci:Int),Hid (ci=JW aZ (T<|M))/\Hid (SE (jh<|Z l) (jh<|Z l) l nd aY (M++Pn aZ (T<|M)) bc N J ab)/\Ag ab aW #[V X y.1.aC,jC y.1.name,V X aE,Y ap ae ah,Y aq af ai] 119/\Ag ab aj #[V X y.1.aC,jC y.1.name,V X ci,V X<|-1] 113)
      case first=>
       have D:=(Aa ao).2.2.2.1;have W:=(Aa bP).1;have bo:=(Aa d7).1;dsimp only at D;rcases hoo:y.1.cond with _|ez
       .rw[hoo]at D;have au:ae=0:=D;obtain rfl:aZ=U:=by rw[Aa eb,hoo];rfl
        have b0:=Ab (show ∃ (nd:jF) (N J:L7) (ci:Int),Hid (ci=JW U (T<|M))/\Hid (SE (jh<|Z l) (jh<|Z l) l nd aY (M++Pn U (T<|M)) bc N J wq)/\Ag wq aW #[V X y.1.aC,jC y.1.name,V X aE,Y ap ae ah,Y aq af ai] 119/\Ag wq aj #[V X y.1.aC,jC y.1.name,V X ci,V X<|-1] 113 from⟨nd,N,J,-1,Ab rfl,Ab<|by simpa[Pn]using Aa az,aI,av⟩);clear hoo D W bo aI av;subst au;go_wp2_with fail
        refine wp_loop_rounds 1 ?_;rw[rounds_succ];go_wp2
        go_meet
        exact Aa b0
       .rw[hoo]at D W bo;obtain rfl:aZ=Q (Eu (Dr z) ez):=by rw[Aa eb,hoo];rfl
        obtain⟨au,o,aJ,aP⟩:=D;subst au;have H:=Aa az;have cO:=aP.below H.F NLN;obtain⟨cj,ck,rfl,ds,aK⟩:=Bs (aJ.below H.F NLN) Ox;obtain⟨aT,b1,b2,b3,b4⟩:=aK 0 Ox;simp only[z0,zu,zX]at aT b1 b2 b3 b4;obtain⟨K,aU⟩:∃K,K=T (M):=⟨_,rfl⟩
        obtain⟨ac,bd,bK,_⟩:=Ae H.C.aN;rw[<-aU]at bK;subst bK;have A:=AE wq<|CX o;have bp:=H.below A.drew;have cP:=Ag.new wq #[V X o.op,V X o.num,jC o.text,Y o.an o.nn o.cn,Y o.ka o.kn o.kc] 121;have cQ:=H.Rr.alloc<|CX o;have cS:=aI.aA A.drew NLN;have cT:=av.aA A.drew NLN;have gj:=H.F.size;have ee:jh (Z w)<=jh (Z<|jR<|jK wq<|CX o):=by have:=A.size;show jh (Z w)<=jh (Z<|jK wq<|CX o);omega
        have cU:=Ab<|GH (Ip w (Aa fr) ez o (jR<|jK wq<|CX o) ee (cO.below A.drew NLN) ((Aa d4).below bp.F NLN) W bo) λe w' ⟨k,h,_⟩=>⟨_,h⟩;obtain⟨e0,e1,e2,e3,e4,-⟩:=Ap cP;obtain⟨b5,b6,b7⟩:=At cQ;have ef:(Tryz.f60.name== "runtime.NumGoroutine")=jE:=Oy;have eg: Tryz.f60.body.isNone=jE:=Oy;have eh:(Tryz.f61.name== "runtime.NumGoroutine")=jE:=Oy;have ei: Tryz.f61.body.isNone=jE:=Oy;have ej:=Ab bp;have ek:=Ab cS;have el:=Ab cT;have cV:=Ab (show ∀q,jL (Value.slice ac K bd)=Q q->q<jh (Z<|jR<|jK wq<|CX o)from λq hq=>(bp.C.bW.1 q hq).2);have bG:=Ab aU;have b8:=Ab (show T (M)+T (Ek (Eu (Dr z) ez)<|T<|M)<=65535 by have q:=(Aa cN).1;rw[AS];exact q);clear hoo aK aJ aP cO A cP cQ H bp cS cT W bo aI av az aU;go_wp2_with fail
        refine wp_loop_rounds 2 ?_;rw[rounds_succ];go_wp2_with fail
        go_region_law (first
         |(refine Bk rfl 60 _ func60 ef eg _ _ _ rfl (jM #[V X o.op,V X o.num,jC o.text,Y o.an o.nn o.cn,Y o.ka o.kn o.kc]) (Y ba aa bb) rfl rfl _ (Aa cU) ?_;rintro gl bD ⟨ad,em,cW,br⟩;obtain rfl:=Bi em;have aB:=(Aa ej).below br;have cX:=Ab<|GH (Pc (wz:=w) (B:=jh (Z l)) (Aa dA) (Eu (Dr z) ez) ad cW (M) (Y ac K bd) N J bD (Ct.aH BRN) NLN (λq hq=> .inl (Aa cV q hq)) aB.C aB.F.size<|Aa b8) λe w' ⟨v,_,_,h,_⟩=>⟨_,h⟩;have cY:jI bD ⟨jh<|Z l,0,U⟩=Q (Y ac K bd):=aB.Rr.cell 0;clear cW)
         |(refine Bk rfl 61 _ func61 eh ei _ _ _ rfl (jM #[V X ad.op,V X ad.num,jC ad.text,Y ad.an ad.nn ad.cn,Y ad.ka ad.kn ad.kc]) (Y ac K bd) rfl rfl _ (Aa cX) ?_;rintro gm a0 ⟨gn,gp,gq,en,bs,bf,eo,ep⟩;obtain rfl:=Bi en;obtain⟨I,b9⟩:∃L,L=T (M++Ek (Eu (Dr z) ez) (T (M))):=⟨_,rfl⟩;obtain⟨bg,bh,cZ,_⟩:=Ae bs.aN;rw[<-b9]at cZ;subst cZ;have c5:=Ab b9;clear b9;have ca:=(aB.put bs bf).1;have c6:jI a0 ⟨jh<|Z l,0,U⟩=Q (Y ac K bd):=ca.cell 0;have eq:=ca.frozen 0))
        all_goals
         have cb:=(aB.put bs bf).2;have gr:I<=65535:=by rw[Aa c5,zC];exact Aa b8
         have c8:=(bf.row aB.C ((Aa ek).aA br NLN) Ob).aF (p:=⟨jh<|Z l,0,U⟩) (Oa:aW≠jh (Z l))<|Y bg I bh;have bt:=(bf.row aB.C ((Aa el).aA br NLN) Ob).aF (p:=⟨jh<|Z l,0,U⟩) (Oa:aj≠jh (Z l))<|Y bg I bh;have bL:=cb.set (j:=2) (u:= V X ((I:Int)-1)) bt Ob Ob Ob Ob (λe=>H2<|Aa ed _ e) Oa;have c9:=c8.aF (p:=(jA aj 2 U)) (Oa:aW≠aj)<|V X<|(I:Int)-1;have cc:=bt.set 2<|V X<|(I:Int)-1;simp only[zZ,zb,ze]at cc;have e6:(I:Int)-1=JW (Q<|Eu (Dr z) ez) (T<|M):=by
          have:=In<|Eu (Dr z) ez;rw[Aa c5,zC,AS];show _=(((T (M)+(Eu (Dr z) ez).aL-1 :Nat)):Int)
          omega
         obtain⟨fw,q1,q2⟩:=At cb.Rr;obtain⟨m0,er,es,et,gs⟩:=BO bt;have b0:=Ab (show ∃ (nd:jF) (N J:L7) (ci:Int),Hid (ci=JW (Q<|Eu (Dr z) ez) (T<|M))/\Hid (SE (jh<|Z l) (jh<|Z l) l nd aY (M++Pn (Q<|Eu (Dr z) ez) (T<|M)) bc N J<|jJ (jJ a0 ⟨jh<|Z l,0,U⟩<|Y bg I bh) (jA aj 2 U)<|V X<|(I:Int)-1)/\Ag (jJ (jJ a0 ⟨jh<|Z l,0,U⟩<|Y bg I bh) (jA aj 2 U)<|V X<|(I:Int)-1) aW #[V X y.1.aC,jC y.1.name,V X aE,Y (Q<|jA cj ck U) 1 ah,Y aq af ai] 119/\Ag (jJ (jJ a0 ⟨jh<|Z l,0,U⟩<|Y bg I bh) (jA aj 2 U)<|V X<|(I:Int)-1) aj #[V X y.1.aC,jC y.1.name,V X ci,V X<|-1] 113 from⟨_,_,_,(I:Int)-1,Ab e6,Ab bL,c9,cc⟩);clear cb bL c8 bt c9 cc ca bs bf eo ep aB br cX cY c6 eq cU b8 cV e0 e1 e2 e3 e4 b5 b6 b7 aT b1 b2 b3 b4 e6;go_wp2_with fail
         rw[rounds_succ];go_wp2
         go_meet
         exact Aa b0
      case rest=>
       obtain⟨nd,N,J,bM,gt,az,aI,av⟩:=hcut;obtain⟨ag,dG⟩:∃ag,ag=M++Pn aZ (T M):=⟨_,rfl⟩
       rw[<-dG]at az;have eu:=(Aa cN).2;rw[<-dG]at eu;have fx:=Ab dG;clear cN;have cN:=Ab<|And.intro True.intro eu;clear dG eu;obtain⟨bx,bz,bA,bB,bC,-⟩:=Ap aI;go_upto_block 14 with fail
       clear bx bz bA bB bC;generalize wc=wq at az aI av|-;go_cut [] (λab=>∃ (nd:jF) (N J:L7) (ci:Int),Hid (ci=JW go (T<|ag))/\Hid (SE (jh<|Z l) (jh<|Z l) l nd aY (ag++Pn go (T<|ag)) bc N J ab)/\Ag ab aW #[V X y.1.aC,jC y.1.name,V X aE,Y ap ae ah,Y aq af ai] 119/\Ag ab aj #[V X y.1.aC,jC y.1.name,V X bM,V X ci] 113)
       case first=>
        have D:=(Aa ao).2.2.2.2;have W:=(Aa bP).2;have bo:=(Aa d7).2;dsimp only at D;rcases hoo:y.1.aG with _|ez
        .rw[hoo]at D;have au:af=0:=D;obtain rfl:go=U:=by rw[Aa ec,hoo];rfl
         have b0:=Ab (show ∃ (nd:jF) (N J:L7) (ci:Int),Hid (ci=JW U (T<|ag))/\Hid (SE (jh<|Z l) (jh<|Z l) l nd aY (ag++Pn U (T<|ag)) bc N J wq)/\Ag wq aW #[V X y.1.aC,jC y.1.name,V X aE,Y ap ae ah,Y aq af ai] 119/\Ag wq aj #[V X y.1.aC,jC y.1.name,V X bM,V X ci] 113 from⟨nd,N,J,-1,Ab rfl,Ab<|by simpa[Pn]using Aa az,aI,av⟩);clear hoo D W bo aI av;subst au;go_wp2_with fail
         refine wp_loop_rounds 1 ?_;rw[rounds_succ];go_wp2
         go_meet
         exact Aa b0
        .rw[hoo]at D W bo;obtain rfl:go=Q (Eu (Dr z) ez):=by rw[Aa ec,hoo];rfl
         obtain⟨au,o,aJ,aP⟩:=D;subst au;have H:=Aa az;have cO:=aP.below H.F NLN;obtain⟨cj,ck,rfl,ds,aK⟩:=Bs (aJ.below H.F NLN) Ox;obtain⟨aT,b1,b2,b3,b4⟩:=aK 0 Ox;simp only[z0,zu,zX]at aT b1 b2 b3 b4;obtain⟨K,aU⟩:∃K,K=T (ag):=⟨_,rfl⟩
         obtain⟨ac,bd,bK,_⟩:=Ae H.C.aN;rw[<-aU]at bK;subst bK;have A:=AE wq<|CX o;have bp:=H.below A.drew;have cP:=Ag.new wq #[V X o.op,V X o.num,jC o.text,Y o.an o.nn o.cn,Y o.ka o.kn o.kc] 121;have cQ:=H.Rr.alloc<|CX o;have cS:=aI.aA A.drew NLN;have cT:=av.aA A.drew NLN;have gj:=H.F.size;have ee:jh (Z w)<=jh (Z<|jR<|jK wq<|CX o):=by have:=A.size;show jh (Z w)<=jh (Z<|jK wq<|CX o);omega
         have cU:=Ab<|GH (Ip w (Aa fr) ez o (jR<|jK wq<|CX o) ee (cO.below A.drew NLN) ((Aa d4).below bp.F NLN) W bo) λe w' ⟨k,h,_⟩=>⟨_,h⟩;obtain⟨e0,e1,e2,e3,e4,-⟩:=Ap cP;obtain⟨b5,b6,b7⟩:=At cQ;have ef:(Tryz.f60.name== "runtime.NumGoroutine")=jE:=Oy;have eg: Tryz.f60.body.isNone=jE:=Oy;have eh:(Tryz.f61.name== "runtime.NumGoroutine")=jE:=Oy;have ei: Tryz.f61.body.isNone=jE:=Oy;have ej:=Ab bp;have ek:=Ab cS;have el:=Ab cT;have cV:=Ab (show ∀q,jL (Value.slice ac K bd)=Q q->q<jh (Z<|jR<|jK wq<|CX o)from λq hq=>(bp.C.bW.1 q hq).2);have bG:=Ab aU;have b8:=Ab (show T (ag)+T (Ek (Eu (Dr z) ez)<|T<|ag)<=65535 by have q:=(Aa cN).2;rw[AS];exact q);clear hoo aK aJ aP cO A cP cQ H bp cS cT W bo aI av az aU;go_wp2_with fail
         refine wp_loop_rounds 2 ?_;rw[rounds_succ];go_wp2_with fail
         go_region_law (first
          |(refine Bk rfl 60 _ func60 ef eg _ _ _ rfl (jM #[V X o.op,V X o.num,jC o.text,Y o.an o.nn o.cn,Y o.ka o.kn o.kc]) (Y ba aa bb) rfl rfl _ (Aa cU) ?_;rintro gl bD ⟨ad,em,cW,br⟩;obtain rfl:=Bi em;have aB:=(Aa ej).below br;have cX:=Ab<|GH (Pc (wz:=w) (B:=jh (Z l)) (Aa dA) (Eu (Dr z) ez) ad cW (ag) (Y ac K bd) N J bD (Ct.aH BRN) NLN (λq hq=> .inl (Aa cV q hq)) aB.C aB.F.size<|Aa b8) λe w' ⟨v,_,_,h,_⟩=>⟨_,h⟩;have cY:jI bD ⟨jh<|Z l,0,U⟩=Q (Y ac K bd):=aB.Rr.cell 0;clear cW)
          |(refine Bk rfl 61 _ func61 eh ei _ _ _ rfl (jM #[V X ad.op,V X ad.num,jC ad.text,Y ad.an ad.nn ad.cn,Y ad.ka ad.kn ad.kc]) (Y ac K bd) rfl rfl _ (Aa cX) ?_;rintro gm a0 ⟨gn,gp,gq,en,bs,bf,eo,ep⟩;obtain rfl:=Bi en;obtain⟨I,b9⟩:∃L,L=T (ag++Ek (Eu (Dr z) ez) (T (ag))):=⟨_,rfl⟩;obtain⟨bg,bh,cZ,_⟩:=Ae bs.aN;rw[<-b9]at cZ;subst cZ;have c5:=Ab b9;clear b9;have ca:=(aB.put bs bf).1;have c6:jI a0 ⟨jh<|Z l,0,U⟩=Q (Y ac K bd):=ca.cell 0;have eq:=ca.frozen 0))
         all_goals
          have cb:=(aB.put bs bf).2;have gr:I<=65535:=by rw[Aa c5,zC];exact Aa b8
          have c8:=(bf.row aB.C ((Aa ek).aA br NLN) Ob).aF (p:=⟨jh<|Z l,0,U⟩) (Oa:aW≠jh (Z l))<|Y bg I bh;have bt:=(bf.row aB.C ((Aa el).aA br NLN) Ob).aF (p:=⟨jh<|Z l,0,U⟩) (Oa:aj≠jh (Z l))<|Y bg I bh;have bL:=cb.set (j:=3) (u:= V X ((I:Int)-1)) bt Ob Ob Ob Ob (λe=>H2<|Aa ed _ e) Oa;have c9:=c8.aF (p:=(jA aj 3 U)) (Oa:aW≠aj)<|V X<|(I:Int)-1;have cc:=bt.set 3<|V X<|(I:Int)-1;simp only[zZ,zb,ze]at cc;have e6:(I:Int)-1=JW (Q<|Eu (Dr z) ez) (T<|ag):=by
           have:=In<|Eu (Dr z) ez;rw[Aa c5,zC,AS];show _=(((T (ag)+(Eu (Dr z) ez).aL-1 :Nat)):Int)
           omega
          obtain⟨fw,q1,q2⟩:=At cb.Rr;obtain⟨m0,er,es,et,gs⟩:=BO bt;have b0:=Ab (show ∃ (nd:jF) (N J:L7) (ci:Int),Hid (ci=JW (Q<|Eu (Dr z) ez) (T<|ag))/\Hid (SE (jh<|Z l) (jh<|Z l) l nd aY (ag++Pn (Q<|Eu (Dr z) ez) (T<|ag)) bc N J<|jJ (jJ a0 ⟨jh<|Z l,0,U⟩<|Y bg I bh) (jA aj 3 U)<|V X<|(I:Int)-1)/\Ag (jJ (jJ a0 ⟨jh<|Z l,0,U⟩<|Y bg I bh) (jA aj 3 U)<|V X<|(I:Int)-1) aW #[V X y.1.aC,jC y.1.name,V X aE,Y ap ae ah,Y (Q<|jA cj ck U) 1 ai] 119/\Ag (jJ (jJ a0 ⟨jh<|Z l,0,U⟩<|Y bg I bh) (jA aj 3 U)<|V X<|(I:Int)-1) aj #[V X y.1.aC,jC y.1.name,V X bM,V X ci] 113 from⟨_,_,_,(I:Int)-1,Ab e6,Ab bL,c9,cc⟩);clear cb bL c8 bt c9 cc ca bs bf eo ep aB br cX cY c6 eq cU b8 cV e0 e1 e2 e3 e4 b5 b6 b7 aT b1 b2 b3 b4 e6;go_wp2_with fail
          rw[rounds_succ];go_wp2
          go_meet
          exact Aa b0
       case rest=>
        obtain⟨nd,N,J,da,gu,az,aI,av⟩:=hcut;have H:=Aa az;obtain⟨ak,a1⟩:∃ak,ak=T bc:=⟨_,rfl⟩
        obtain⟨bu,fy,db,_⟩:=Ae H.S;rw[<-a1]at db;subst db;obtain⟨gv,gw,gx,gy,gz⟩:=info_parts WJ;obtain⟨b5,b6,b7⟩:=At H.Rr;obtain⟨m0,er,es,et,-⟩:=BO av;have co:=World.ownsRow.alloc H.S<|Yu y.1.aC y.1.name bM da;rw[<-a1]at co;have fz:=World.news_of_block<|heap_alloc_new wc<|Yu y.1.aC y.1.name bM da;have aK:jh (Z l)<=jh (Z wc):=H.F.size;obtain⟨cY,c6,gA⟩:=At<|H.Rr.alloc<|Yu y.1.aC y.1.name bM da;have gB:=Ab a1;have gW:ak<=600:=by rw[a1];exact gh
        clear a1 H aI av;go_wp2_with (at_builtin;refine wpList_append_lies _ rfl _ _ 68 rfl (jh<|Z l) 113 gv (jM #[V X 0,jC ByteArray.empty,V X 0,V X 0]) 4 40 underlying68 gw gx gy gz rfl Ob (Y bu ak fy) ak (EC bc) rfl co ⟨jh<|Z wc,0,U⟩ 1 1 [V X y.1.aC,jC y.1.name,V X bM,V X da] rfl rfl fz (by intro u hu;simp at hu;obtain rfl|rfl|rfl|rfl:=hu<;>rfl) Ob O2 Oa O0 _ rfl ?_)
        intro g7 c7 cH bH bI hat cI;obtain⟨ev,bL⟩:=(Aa az).stm (s:=⟨y.1.aC,y.1.name,bM,da⟩) (by rw[<-Aa gB];exact bH) bI;have gY:=ev.cell 1;have gZ:=ev.frozen 1;have gC:=Ab (show SE (jh<|Z l) (jh<|Z l) l nd (Y (Q<|jA g7 0 U) (ak+1) c7) (Ea 0<|E.take<|t+1) (DA 0<|E.take<|t+1) _ _ (jJ cH ⟨jh<|Z l,1,U⟩<|Y (Q<|jA g7 0 U) (ak+1) c7) by
         have e1:(PF (Dr z) y.1).cond=aZ:=(Aa eb).symm;have e2:(PF (Dr z) y.1).aG=go:=(Aa ec).symm;have e3:T ag=Di (E.take t)+BK aZ:=by rw[Aa fx,zC,Jz,(Aa dF).2.2]
         rw[Aa d8,TU,TV,e1,e2,zY,<-e3,<-(Aa dF).2.2,<-(Aa dF).1,<-(Aa dF).2.1,<-Aa fx,<-Aa gt,<-Aa gu];exact bL)
        clear bH bI hat cI ev bL co fz b5 b6 b7 m0 er es et cY c6 gA;go_wp2
        go_roundw
        case rel=>exact⟨t+1,_,_,_,_,Aa aM,O1,gC⟩
        case measure=>have:=Aa aM;simp[intOf];omega
     .have cC:=Ab (show E.take t=E from zf<|by rw[Aa cM,zN,(Aa cp).bS];omega);have fi: ¬ ((t:Int)<(kn:Int)):=Oa;have bn:=dC;rw[Aa cC]at bn;clear ay dC;go_wp2
      go_meet
      exact⟨_,_,_,_,bn⟩
   case rest=>
    obtain⟨nd,aY,N,J,az⟩:=hcut;have H:=Aa az;obtain⟨K,aU⟩:∃K,K=T (Ea 0 E):=⟨_,rfl⟩
    obtain⟨ak,a1⟩:∃ak,ak=T (DA 0 E):=⟨_,rfl⟩
    obtain⟨ac,cd,bK,_⟩:=Ae H.C.aN;obtain⟨bu,ce,db,_⟩:=Ae H.S;rw[<-aU]at bK;rw[<-a1]at db;subst bK db;have fA:=H.C.nds aU.symm (by rw[aU,Jd];have:=Aa dH;omega)<|Aa dI;have fB:=FF (by have q:=H.S;rw[<-a1]at q;exact q) a1.symm (by rw[a1,Kn,Aa cM,zN,(Aa cp).bS];omega)<|Aa dJ;have bj:=Ab<|Aa fS wc ac K cd bu ak ce fA fB;have gD:=Ab<|(Aa dB).below H.F (Aa dB).lt;have bG:=Ab<|And.intro aU a1;have g0:jh (Z w)+1<jh (Z l):=(Aa dB).lt;obtain⟨b5,b6,b7⟩:=At H.Rr;clear aU a1 fA fB H;go_wp2_with fail
    refine(Aa bj).mono ?_;rintro r a0 ⟨⟨gE,g1,pv,fC,f1,rfl,D⟩,ew⟩;obtain⟨aR,ex⟩:∃aR,aR=T cf:=⟨_,rfl⟩
    obtain⟨bk,bl,fD,_⟩:=Ae D;rw[<-ex]at fD;subst fD;have A:=AE a0<|jH #[V X fC,V X f1] 109;have dc:=((Aa az).below ew).below A;have dd:=dc.Rr;have fE:TyM (jh<|Z l) gE (Y ac K cd) (Y bu ak ce) (Y bk aR bl) (Ea 0 E) (DA 0 E) cf N J<|jK a0<|jH #[V X fC,V X f1] 109:=⟨dc.C,dc.S,Ad D λq hq=>A.block q (D.lt q hq).2⟩
    have fF:=Ab ex;obtain⟨fw,q1,q2⟩:=At dd;have g3:=λk=>dd.frozen k;have de:=(((Aa gD).aA ew NLN).aA A NLN).aF (p:=⟨jh<|Z l,2,U⟩) (Oa:jh (Z w)+1≠jh (Z l))<|Y bk aR bl;have fG:=((Aa d5).trans<|dc.F.mono (Aa d5).size).setCell (p:=⟨jh<|Z l,2,U⟩) (Oa:jh (Z w)<=jh (Z l))<|Y bk aR bl;obtain⟨g4,g5,g6⟩:=At<|dd.set 2<|Y bk aR bl;obtain⟨g8,ey,eA⟩:=At de;have g9:=λk=>de.frozen k;have eB:=de.set 0<|Y ac K cd;have fH:=((fE.set dd 2<|Y bk aR bl).set de 0<|Y ac K cd).set eB 1<|Y bu ak ce;have eC:=eB.set 1<|Y bu ak ce;have fI:=((fG.setCell (p:=⟨jh (Z w)+1,0,U⟩) (Oa:jh (Z w)<=jh (Z w)+1)<|Y ac K cd).setCell (p:=⟨jh (Z w)+1,1,U⟩) (Oa:jh (Z w)<=jh (Z w)+1)<|Y bu ak ce).setCell (p:=⟨jh (Z w)+1,2,U⟩) (Oa:jh (Z w)<=jh (Z w)+1)<|Y bk aR bl;have fJ:=Ab<|fH.set eC 2<|Y bk aR bl;have gF:=Ab<|eC.set 2<|Y bk aR bl;have gG:=Ab fI;clear fE fH eB eC de dd fG fI dc A D ex ew bj b5 b6 b7;go_wp2_with fail
    obtain⟨gH,gI,gJ⟩:=At<|Aa gF;have ey:T (Ea 0 E)=K:=(Aa bG).1.symm;have eA:K<=1048576:=by rw[(Aa bG).1,Jd];have:=Aa dH;omega
    have fK:T (DA 0 E)=ak:=(Aa bG).2.symm;have fL:ak<=1048576:=by rw[(Aa bG).2,Kn,Aa cM,zN,(Aa cp).bS];omega
    have fM:T cf=aR:=(Aa fF).symm;have fN:aR<=1048576:=by rw[Aa fF];exact fO
    exact bodyPost_ret (v:= jM #[Y ac K cd,Y bu ak ce,Y bk aR bl]) (by simp[results,results30,go_sem,gH,gI,gJ]) rfl ⟨⟨ac,K,cd,bu,ak,ce,bk,aR,bl,rfl,(Aa fJ).gd ey eA (Aa dI) fK fL (Aa dJ) fM fN,λg fy R u0 u1 u2=>((((Aa fJ).set R 0 u0).set (R.set 0 u0) 1 u1).set ((R.set 0 u0).set 1 u1) 2 u2).gd ey eA (Aa dI) fK fL (Aa dJ) fM fN⟩,Aa gG⟩
def gdO (o:M3):Prop:=∀e,o=Q e->LV e/\Jm e/\ER e<=64
def GdX (X:M0):Prop:=∀x∈X,gdO x.cond/\gdO x.aG
theorem Ae3 {ls:L8}(b:∀c∈ls,LV c)(d:∀c∈ls,Jm c)(h:gdO o):gdO<|o.map<|BP ls:=λe he=>by
 cases o with
 |none=>cases he
 |some a=>
  obtain⟨g1,g2,g3⟩:=h a rfl;cases he;exact⟨Ai9 b a g1,Ri d a g2,Int.le_trans (LW a) g3⟩
theorem AaU:∀(b:M0) (ls:L8),(∀c∈ls,LV c)->(∀c∈ls,Jm c)->GdX b->GdX (Et ls b)
 |[],_,_,_,_,x,hx=>Q9
 |x ::b,ls,h1,h2,h,y,hy=>by
  rw[Et]at hy;have hx:=h x za;have c1:=Ae3 h1 h2 hx.1;obtain e|e:=zh.1 hy
  .rw[e];exact⟨c1,Ae3 h1 h2 hx.2⟩
  .have d:∀c∈TX ls (FX ls x),LV c/\Jm c:=λc hc=>by
    rw[TX]at hc;split at hc
    .obtain q|q:=zO.1 hc
     .grind
     .rw[zR.1 q];cases f:(FX ls x).cond with
      |none=>exact⟨trivial,trivial⟩
      |some a=>exact⟨(c1 a f).1,(c1 a f).2.1⟩
    grind
   exact AaU b _ (λc hc=>(d c hc).1) (λc hc=>(d c hc).2) (λz g=>h z<|zi _ g) y e
theorem AaV:∀(a:M0),GdX a->GdX (Ei a)
 |[],_,x,hx=>Q9
 |x ::a,h,y,hy=>by
  have b:=AaV a λz c=>h z<|zi _ c;rw[Ei]at hy;split at hy
  .exact b y hy
  .split at hy
   .rw[zR.1 hy];exact⟨λe he=>(by cases he),(h x za).2⟩
   .obtain e|e:=zh.1 hy
    .rw[e];exact h x za
    .exact b y e
theorem Rt (l:L2):∀(e:Ex),Jm e->Jm (Eu l e)
 |.un _ _ k,h=>Rt l k h
 |.bin _ _ x y,h=>⟨Rt l x h.1,Rt l y h.2⟩
 |.ite _ x y z,h=>⟨Rt l x h.1,Rt l y h.2.1,Rt l z h.2.2⟩
 |.int ..,h=>h
 |.text ..,h=>h
 |.bool ..,h=>h
 |.set ..,h=>h
 |.name ..,h=>h
 |.attr ..,h=>h
 |.lett ..,h=>h
theorem Ae4 (l:L2)(h:gdO o):gdO<|o.map<|Eu l:=λe he=>by
 cases o with
 |none=>cases he
 |some a=>
  obtain⟨g1,g2,g3⟩:=h a rfl;cases he;exact⟨Rp l a g1,Rt l a g2,by rw[Akv];exact g3⟩
theorem PH:∀(X:M0) (n:Int),((Ic n X).map Prod.fst).Sublist X:=by intro X;induction X<;>intros<;>grind [Ic]
theorem Ru (X:M0):Zw X=((Ic 0 X).map Prod.fst).map (PF<|Dr<|Ic 0 X):=by rw[Zw,z3];rfl
theorem Aaq {X:M0}(h:GdX X):GdX<|DF X:=by
 have a:=AaV _<|AaU X [] (λc hc=>by cases hc) (λc hc=>by cases hc) h;intro y hy;rw[DF,Ru]at hy;obtain⟨z,b,rfl⟩:=zc.1 hy;have:=a z<|(PH _ 0).subset b;exact⟨Ae4 _ this.1,Ae4 _ this.2⟩
def MU:M0->Prop
 |[]=>False
 |x ::Xx=>(x.aC=3/\Xx=[])\/(x.aC≠3/\MU Xx)
def nmX (X:M0):Prop:=∀x∈X,(x.aC=1->Ej x.name=jD)/\(x.aC≠1->x.name=⟨#[]⟩)
def OZ (X:M0):L4:=(X.filter λx=>decide (x.aC=1)).map Sx.name
theorem Xt:∀{b:M0},MU b->Ahq b
 |x ::b,h=>by
  obtain⟨c,a⟩|⟨c,a⟩:=h
  .exact⟨λ_=>a,by rw[a];trivial⟩
  .exact⟨λe=>H9 e c,Xt a⟩
theorem Xu:∀(a:M0) (ls:L8),MU a->MU (Et ls a)
 |x ::a,ls,h=>by
  rw[Et];obtain⟨b,c⟩|⟨b,c⟩:=h
  .exact .inl ⟨b,by rw[c];rfl⟩
  .exact .inr ⟨b,Xu a _ c⟩
theorem AaW:∀(a:M0) (ls:L8),nmX a->nmX (Et ls a)/\OZ (Et ls a)=OZ a
 |[],_,_=>⟨λx hx=>Q9,rfl⟩
 |x ::a,ls,h=>by
  rw[Et];obtain⟨b,i2⟩:=AaW a (TX ls<|FX ls x) λz c=>h z<|zi _ c;refine⟨λy hy=>?_,?_⟩
  .obtain e|e:=zh.1 hy
   .rw[e];exact h x za
   .exact b y e
  .unfold OZ at i2|-;by_cases d:x.aC=1
   all_goals simp_all[List.filter_cons_of_pos,List.map_cons,FX,List.filter_cons_of_neg]
theorem Xv:∀(a:M0),MU a->MU (Ei a)
 |x ::a,h=>by
  rw[Ei];obtain⟨b,c⟩|⟨b,c⟩:=h
  .rw[H7 Oa,H7 Oa,c];exact .inl ⟨b,rfl⟩
  .have d:=Xv a c;split
   .exact d
   .split
    .exact .inl ⟨rfl,rfl⟩
    .exact .inr ⟨b,d⟩
theorem Ahx {B:M0}(h:A.Sublist B):(OZ A).Sublist<|OZ B:=(h.filter _).map _
theorem AaX:∀(a:M0),nmX a->nmX (Ei a)/\(OZ<|Ei a).Sublist (OZ a)
 |[],_=>⟨λx hx=>Q9,List.Sublist.slnil⟩
 |x ::a,h=>by
  obtain⟨b,i2⟩:=AaX a λz c=>h z<|zi _ c;have ec:∀(Y:M0),OZ (x ::Y)=if x.aC=1 then x.name ::OZ Y else OZ Y:=λY=>by
   unfold OZ
   grind
  rw[Ei];split
  .grind
  .split
   .refine⟨λy hy=>?_,?_⟩
    .grind
    .exact List.nil_sublist _
   .refine⟨λy hy=>?_,?_⟩
    .obtain e|e:=zh.1 hy
     .rw[e];exact h x za
     .exact b y e
    grind
theorem PI:∀(a:M0) (n:Int) (l:L2),MU a->MU (((Ic n a).map Prod.fst).map<|PF l)
 |x ::a,n,l,h=>by
  rw[Ic];obtain⟨c,b⟩|⟨c,b⟩:=h
  .rw[H7 Oa,b];exact .inl ⟨c,rfl⟩
  .split
   .split
    .exact PI a (n+1) l b
    .exact .inr ⟨c,PI a (n+1) l b⟩
   .exact .inr ⟨c,PI a n l b⟩
theorem Ae5 (l:L2)(X:M0):OZ (X.map<|PF l)=OZ X:=by
 unfold OZ;rw[List.filter_map,z3];rfl
theorem Ahy {X:M0}(a:MU X)(b:nmX X):MU (DF X)/\nmX (DF X)/\(OZ<|DF X).Sublist (OZ X):=by
 have a1:=Xv _<|Xu X [] a;obtain⟨b1,b2⟩:=AaW X [] b;obtain⟨c1,c2⟩:=AaX _ b1;rw[DF,Ru];refine⟨PI _ 0 _ a1,λy hy=>?_,?_⟩
 .obtain⟨z,c,rfl⟩:=zc.1 hy;exact c1 z<|(PH _ 0).subset c
 .rw[Ae5,<-b2];exact(Ahx<|PH _ 0).trans c2
theorem Ae6 (X:M0):T (DF X)<=T X:=by
 have l1:∀(X:M0) (ls:L8),T (Et ls X)=T X:=λX=>by induction X<;>grind [Et]
 have a:∀(X:M0),T (Ei X)<=T X:=λX=>by induction X<;>grind [Ei]
 grind [DF,PH,Ei,Et,Ru]
theorem AaY:∀(a:M0) (b:Nat) (ts:L2),Mi ts a->MU a->nmX a->EG (DA b a)=jD
 |x ::a,b,ts,h,he,hn=>by
  have hx:=hn x za;have hs:Kh ⟨x.aC,x.name,JW x.cond b,JW x.aG<|b+BK x.cond⟩=jD:=by
   obtain⟨k,e,t,c,f,h3,d⟩|⟨k,c,h3,d⟩|⟨k,c,h3,d⟩:=h
   .grind [Kh,JW]
   .rw[Kh,H7 (Oa:¬ x.aC=1),H8<|show x.aC=2 from k];show decide (x.name.size=0)=jD;rw[hx.2 Oa];rfl
   .rw[Kh,H7 (Oa:¬ x.aC=1),H7 (Oa:¬ x.aC=2),H8<|show x.aC=3 from k];show(decide (x.name.size=0)&&decide (JW x.cond b= -1))=jD;rw[hx.2 Oa,c];rfl
  rw[DA,EG,hs];obtain⟨c,f⟩|⟨c,f⟩:=he
  .grind [DA,EG]
  .have ht:∃g,Mi g a:=by
    obtain⟨_,_,t,_,_,_,d⟩|⟨_,_,_,d⟩|⟨_,_,_,d⟩:=h
    all_goals grind
   obtain⟨g,ht⟩:=ht;rw[AaY a _ g ht f λz i=>hn z<|zi _ i];cases a with
   |nil=>exact f.elim
   |cons y j=>simp[DA,c]
theorem LY:∀(a:M0) (b:Nat),GdX a->∀x∈Ea b a,Bf x=jD
 |[],_,_,x,hx=>Q9
 |y ::a,b,h,x,hx=>by
  have hy:=h y za;have g:∀(o:M3) (c:Nat),gdO o->x∈Pn o c->Bf x=jD:=λo c d hq=>by
   cases o with
   |none=>cases hq
   |some e=>exact Fv e c (d e rfl).1 x hq
  rw[Ea]at hx;obtain q|q:=zO.1 hx
  .grind
  .exact LY a _ (λz f=>h z<|zi _ f) x q
theorem Ae7 {a:M0}(f:Mi [] a)(c:GdX a)(h3:MU a)(b:nmX a)(hc:Di a<=4000)(l:T a<=600):CE (Ea 0 a) (DA 0 a)=jD:=by
 have g:∀(a:M0) (ts:L2),Mi ts a->∀x∈a,(x.aC=3↔x.cond=U):=λa=>by
  induction a with
  |nil=>grind
  |cons y a m=>
    intro ts h x hx;obtain e|e:=zh.1 hx
    .subst e;obtain⟨k,e,t,q1,_⟩|⟨k,⟨e,q1,_⟩,_⟩|⟨k,q1,_⟩:=h
     all_goals grind
    .obtain⟨_,_,t,_,_,_,b⟩|⟨_,_,_,b⟩|⟨_,_,_,b⟩:=h
     all_goals grind
 have d:∀{o:M3},gdO o->dpO o<=64:=λ{o} h=>by
  cases o with
  |none=>exact(by decide:(0 :Int)<=64)
  |some e=>exact(h e rfl).2.2
 obtain⟨n,g1,g2,g3⟩:=QO (Ea 0 a) a 0 (λj y hy=>by rw[zY];exact hy) λy hy=>⟨d (c y hy).1,d (c y hy).2,g a [] f y hy⟩;have i:=Pa g1 [] g3;rw[zY,Nat.sub_zero,List.nil_append,<-Jd a 0]at i;have p: 1<=T a:=by
  cases a with
  |nil=>exact h3.elim
  |cons=>simp
 grind [LY,Jd,AaY,GN,Kn,CE]
theorem AZ.gd (hF:∀x∈N,Bf x=jD){i:Nat}{e:Ex}(t:AZ N i e):LV e:=by
 have fld:∀{i:Nat} {x:Nd},N[i]? =Q x->Jq x=jD:=λh=>by
  have:=hF _<|zn h;rw[Bf,zF]at this;exact this.2
 induction t with
 |int h b d=>trivial
 |@text i x h b d=>
   have hq:=fld h;rw[Jq,H7 Oa,H7 Oa,H7 Oa,VG,H7 Oa,H8 b]at hq;simp only[zF]at hq;exact hq.1.1
 |bool h b d=>trivial
 |@set i x h b d a n c=>
   have hq:=fld h;rw[Jq,H7 Oa,H7 Oa,H7 Oa,VG,H7 Oa,H7 Oa,H7 Oa,H8 b]at hq;simp only[zF]at hq;exact hq.1.1
 |name h b d=>have hq:=fld h;rw[Jq,H8 b]at hq;cases hq
 |@attr i x h b d=>
   have hq:=fld h;rw[Jq,H7 Oa,H8 b]at hq;simp only[zF,zG]at hq;exact hq.1.1
 |lett h b d=>trivial
 |un h b d hi t g=>exact⟨b,g⟩
 |bin h b d hi t u f i2=>exact⟨b,f,i2⟩
 |ite h b d hi t u v f i2 j=>exact⟨f,i2,j⟩
theorem AZ.ok (g:∀x∈N,Cu x.num/\T x.aB<=1048576){i:Nat}{e:Ex}(t:AZ N i e):Jm e:=by
 induction t with
 |int h b d=>exact(g _<|zn h).1
 |set h b d a n c=>exact(g _<|zn h).2
 |un h b d hi t j=>exact j
 |bin h b d hi t u f i2=>exact⟨f,i2⟩
 |ite h b d hi t u v f i2 k=>exact⟨f,i2,k⟩
 |_=>trivial
theorem AaZ {p:Nat×Nat} :∀{a:List (Nat×Nat)},p∈a->p.2<=Cz a
 |q ::a,h=>by
  rw[Cz];obtain e|e:=zh.1 h
  .rw[e];omega
  .have:=AaZ e;omega
theorem Acl {a b:Nat}{m:List (Nat×Nat)}(h:Av (N.map Nd.aD) a m b):∀p∈m,∀e,AZ N p.1 e->ER e<=p.2:=by
 induction h with
 |nil a=>intro p g;cases g
 |@cons a t b d m v ht w r i2=>
   intro p g e he;obtain q|q:=zh.1 g
   .subst q;dsimp only at he|-;have s:∀{x:Nd},N[t]? =Q x->x.aD=Au d:=λhx=>by
     rw[zr,hx]at ht;exact K7 ht
    have i:∀{x:Nd} {k:Nat} {f:Ex},N[t]? =Q x->(k:Int)∈x.aD->AZ N k f->ER f<=Cz d:=λ{x k f} hx hm hf'=>by
     rw[s hx,Au]at hm;obtain⟨p,g,e⟩:=zc.1 hm;have e2:p.1=k:=Oa;have:=r p g f (by rw[e2];exact hf');have:=AaZ g;omega
    have e0:mx 0 (Cz d:Int)=Cz d:=by unfold mx;split<;>omega
    have e1:mx (Cz d:Int) (Cz d)=Cz d:=by unfold mx;split<;>rfl
    cases he with
    |un h o c hi j=>
      have:=i h (by rw[c];simp) j;rw[ER];have l:=EA (zp 0) this;rw[e0]at l;omega
    |bin h o c hi j n=>
      have q1:=i h (by rw[c];simp) j;have q2:=i h (by rw[c];simp) n;rw[ER];have l:=EA (EA (zp 0) q1) q2;rw[e0,e1]at l;omega
    |ite h o c hi j n v'=>
      have q1:=i h (by rw[c];simp) j;have q2:=i h (by rw[c];simp) n;have u:=i h (by rw[c];simp) v';rw[ER];have l:=EA (EA (EA (zp 0) q1) q2) u;rw[e0,e1,e1]at l;omega
    |int=>show(1 :Int)<=_;omega
    |text=>show(1 :Int)<=_;omega
    |bool=>show(1 :Int)<=_;omega
    |set=>show(1 :Int)<=_;omega
    |name=>show(1 :Int)<=_;omega
    |attr=>show(1 :Int)<=_;omega
    |lett=>show(1 :Int)<=_;omega
   .exact i2 p q e he
def LtF (ns:L4) (X:M0):Prop:=(OZ X).Nodup/\∀a∈OZ X,a ∉ ns
theorem LtF.sub {ns:L4}{X Y:M0}(h:LtF ns X)(hs:(OZ Y).Sublist<|OZ X):LtF ns Y:=⟨h.1.sublist hs,λa b=>h.2 a<|hs.subset b⟩
theorem Aa0 {X:M0}(h:x.aC=1):OZ (x ::X)=x.name ::OZ X:=by
 unfold OZ;rw[List.filter_cons_of_pos<|by exact zJ h];rfl
theorem Vc {X:M0}(h:x.aC≠1):OZ (x ::X)=OZ X:=by
 unfold OZ;rw[List.filter_cons_of_neg<|by rw[zG];exact h]
theorem Aa1 (Es:L8):∀(L:L9) (i:Nat),EG L=jD->1<=T L->MU (OE Es i L)
 |s ::L,i,h,_=>by
  simp only[EG,zF,zD]at h;obtain⟨⟨b,a⟩,h3⟩:=h;rw[OE];cases L with
  |nil=>exact .inl ⟨K8<|by rw[a];rfl,rfl⟩
  |cons s2 L=>exact .inr ⟨of_decide_eq_false<|by rw[a];rfl,Aa1 Es (s2 ::L) (i+1) h3 Ox⟩
theorem Aa2 (Es:L8):∀(L:L9) (i:Nat) (ns:L4) (ts tt:L2) (d:MH),CP Es (ns,ts,tt) L=Q d->EG L=jD->(∀s∈L,(s.aC≠3->0<=s.cond)/\(s.aG= -1\/0<=s.aG))->
  Mi ts (OE Es i L)/\nmX (OE Es i L)/\LtF ns (OE Es i L)
 |[],_,_,_,_,_,_,_,_=>⟨trivial,λx hx=>Q9,List.nodup_nil,λa l=>(by cases l)⟩
 |s ::L,i,ns,ts,tt,d,h,hs,hr=>by
  simp only[EG,zF,zD]at hs;obtain⟨⟨b,C⟩,m⟩:=hs;have o:=hr s za;have n:=λx hx=>hr x<|zi _ hx;rw[CP,LP]at h;have u:∀{s1 s2:MH},Ca Es s1 s=Q s2->s2.1=s1.1/\s2.2.1=s1.2.1/\tyG s1.2.1 (BU Es s.aG):=λ{s1 s2} hg=>by
   rw[Ca]at hg;unfold BU;split at hg
   .cases hg;rename_i hm;rw[H8 hm];exact⟨rfl,rfl,trivial⟩
   .rename_i hm;rw[H7 hm];split at hg
    .rename_i e he;rw[he];unfold ckG at hg;split at hg
     .rename_i t ht;split at hg
      .rename_i v;cases hg;exact⟨rfl,rfl,by show AX _ e=Q 4;rw[<-v];exact ht⟩
      .cases hg
     .cases hg
    .cases hg
  cases hc:Cw Es (ns,ts,tt) s with
  |none=>rw[hc]at h;cases h
  |some s1=>
    rw[hc]at h;simp only[z6]at h;cases hg:Ca Es s1 s with
    |none=>rw[hg]at h;cases h
    |some s2=>
      rw[hg]at h;simp only[z6]at h;obtain⟨g1,g2,g3⟩:=u hg;rw[OE];unfold Kh at b;split at b
      .rename_i k;simp only[zF,zG]at b;have w:=o.1 Oa;rw[Cw,H7 Oa]at hc;split at hc
       .rename_i e he;unfold WT at hc;rw[H8 k]at hc;split at hc
        .rename_i t ht;split at hc
         .cases hc
         .rename_i p;cases hc;dsimp only at g1 g2 g3 p ht;obtain⟨n2,r,q2⟩:=s2;dsimp only at g1 g2;subst g1 g2;obtain⟨f,i2,c⟩:=Aa2 Es L (i+1) _ _ q2 d h m n;have g:BU Es s.cond=Q e:=by rw[BU,H7 Oa,he]
          have z:BU Es s.aG=U:=by rw[BU,H8 b.2]
          refine⟨.inl ⟨k,e,t,g,ht,z,f⟩,λy hy=>?_,?_⟩
          .obtain q|q:=zh.1 hy
           .rw[q];exact⟨λ_=>b.1,λq=>H9 k q⟩
           .exact i2 y q
          .rw[LtF,Aa0<|show(⟨(i:Int),s.aC,s.name,BU Es s.cond,BU Es s.aG⟩:Sx).aC=1 from k];refine⟨List.nodup_cons.2 ⟨λhm=>c.2 _ hm Ox,c.1⟩,λa l=>?_⟩;obtain q|q:=zh.1 l
           .rw[q];exact p
           .exact λhm=>c.2 a q<|Z5 _ hm
        .cases hc
       .cases hc
      .rename_i j;split at b
       .rename_i k;have A:=K8 b;have w:=o.1 Oa;rw[Cw,H7 Oa]at hc;split at hc
        .rename_i e he;unfold WT at hc;rw[H7 j]at hc;split at hc
         .rename_i t ht;split at hc
          .rename_i B;cases hc;dsimp only at g1 g2 g3 ht;obtain⟨n2,r,q2⟩:=s2;dsimp only at g1 g2;subst g1 g2;obtain⟨f,i2,c⟩:=Aa2 Es L (i+1) _ _ q2 d h m n;have g:BU Es s.cond=Q e:=by rw[BU,H7 Oa,he]
           refine⟨.inr<|.inl ⟨k,⟨e,g,by rw[<-B];exact ht⟩,g3,f⟩,λy hy=>?_,?_⟩
           .obtain q|q:=zh.1 hy
            .rw[q];exact⟨λq=>H9 q j,λ_=>CD A⟩
            .exact i2 y q
           .rw[LtF,Vc<|show(⟨(i:Int),s.aC,s.name,BU Es s.cond,BU Es s.aG⟩:Sx).aC≠1 from j];exact c
          .cases hc
         .cases hc
        .cases hc
       .split at b
        .rename_i k;simp only[zF,zG]at b;rw[Cw,H8 b.2]at hc;cases hc;dsimp only at g1 g2 g3;obtain⟨n2,r,q2⟩:=s2;dsimp only at g1 g2;subst g1 g2;obtain⟨f,i2,c⟩:=Aa2 Es L (i+1) _ _ q2 d h m n;have g:BU Es s.cond=U:=by rw[BU,H8 b.2]
         refine⟨.inr<|.inr ⟨k,g,g3,f⟩,λy hy=>?_,?_⟩
         .obtain q|q:=zh.1 hy
          .rw[q];exact⟨λq=>H9 q j,λ_=>CD b.1⟩
          .exact i2 y q
         .rw[LtF,Vc<|show(⟨(i:Int),s.aC,s.name,BU Es s.cond,BU Es s.aG⟩:Sx).aC≠1 from j];exact c
        .cases b
theorem LZ {N:L6} :∀(e:Ex) (b:Nat),GQ N b (Ek e b)->LV e->∃f,AZ N (b+e.aL-1) f/\∀ts,AX ts f=AX ts e/\Eh ts f=Eh ts e
 |.un i op k,b,h,g=>by
  rw[Ek]at h;obtain⟨f,d,p⟩:=LZ k b h.left g.2;have hx:=h.right (AS k b) 0 _ rfl;rw[zX]at hx;have c1:=k.cN;have e1:b+(Ex.un i op k).aL-1=b+k.aL:=by simp only[Ex.aL];omega
  refine⟨.un (b+k.aL:Nat) op f,?_,λts=>?_⟩
  .rw[e1];exact AZ.un (k:=b+k.aL-1) hx g.1 rfl Oa d
  simp_all[AX,Ex.aL,Eh]
 |.bin i op l r,b,h,g=>by
  rw[Ek]at h;obtain⟨f,d,p⟩:=LZ l b h.left.left g.2.1;obtain⟨j,o,q⟩:=LZ r (b+l.aL) (h.left.right<|AS l b) g.2.2;have hx:=h.right (k:=l.aL+r.aL) (by rw[zC,AS,AS]) 0 _ rfl;rw[zX]at hx;have c1:=l.cN;have c2:=r.cN;have e1:b+(Ex.bin i op l r).aL-1=b+(l.aL+r.aL):=by simp only[Ex.aL];omega
  refine⟨.bin (b+(l.aL+r.aL):Nat) op f j,?_,λts=>?_⟩
  .rw[e1];exact AZ.bin (k:=b+l.aL-1) (l:=b+l.aL+r.aL-1) hx g.1 rfl Oa d o
  simp_all[AX,Ex.aL,Eh]
 |.ite i c t e,b,h,g=>by
  rw[Ek]at h;obtain⟨f,d,p⟩:=LZ c b h.left.left.left g.1;obtain⟨j,o,q⟩:=LZ t (b+c.aL) (h.left.left.right<|AS c b) g.2.1;have h3:GQ N (b+(c.aL+t.aL))<|Ek e<|b+c.aL+t.aL:=h.left.right (by rw[zC,AS,AS]);rw[<-Nat.add_assoc]at h3;obtain⟨s,u,v⟩:=LZ e (b+c.aL+t.aL) h3 g.2.2;have hx:=h.right (k:=c.aL+t.aL+e.aL) (by rw[zC,zC,AS,AS,AS]) 0 _ rfl;rw[zX]at hx;have c1:=c.cN;have c2:=t.cN;have c3:=e.cN;have e1:b+(Ex.ite i c t e).aL-1=b+(c.aL+t.aL+e.aL):=by simp only[Ex.aL];omega
  refine⟨.ite (b+(c.aL+t.aL+e.aL):Nat) f j s,?_,λts=>?_⟩
  .rw[e1];exact AZ.ite (k:=b+c.aL-1) (l:=b+c.aL+t.aL-1) (m:=b+c.aL+t.aL+e.aL-1) hx rfl rfl Oa d o u
  grind [AX,Ex.aL,Eh]
 |.int i n,b,h,g=>⟨_,AZ.int (h 0 _ rfl) rfl rfl,λts=>⟨rfl,rfl⟩⟩
 |.text i n,b,h,g=>⟨_,AZ.text (h 0 _ rfl) rfl rfl,λts=>⟨rfl,rfl⟩⟩
 |.bool i n,b,h,g=>⟨_,AZ.bool (h 0 _ rfl) rfl rfl,λts=>⟨rfl,rfl⟩⟩
 |.set i a n c ss,b,h,g=>⟨_,AZ.set (h 0 _ rfl) rfl rfl U 0 0,λts=>⟨rfl,rfl⟩⟩
 |.name i n,b,h,g=>g.elim
 |.attr i n,b,h,g=>⟨_,AZ.attr (h 0 _ rfl) rfl rfl,λts=>⟨rfl,rfl⟩⟩
 |.lett i n,b,h,g=>⟨_,AZ.lett (h 0 _ rfl) rfl rfl,λts=>⟨rfl,rfl⟩⟩
def Xw (ts:L2):M3->L2
 |none=> []
 |some e=>Eh ts e
def Yw:L2->M0->L2
 |_,[]=> []
 |ts,x ::Xx=>Xw ts x.cond++Xw (if x.aC=1 then ts++[((x.cond.bind<|AX ts).getD 0)]else ts) x.aG++Yw (if x.aC=1 then ts++[((x.cond.bind<|AX ts).getD 0)]else ts) Xx
theorem Vd {N:L6}(h5:∀x∈N,x.op≠5){Es:L8}(n:T Es=T N)(p:∀j,(h:j<T Es)->AZ N j Es[j]):∀(d:M0) (b:Nat) (ns:L4) (ts tt:L2),GQ N b (Ea b d)->Mi ts d->LtF ns d->GdX d->
  ∃n1 l,CP Es (ns,ts,tt) (DA b d)=Q (n1,l,tt++Yw ts d)
 |[],b,ns,ts,tt,_,_,_,_=>⟨ns,ts,by rw[DA,CP,Yw,List.append_nil]⟩
 |x ::d,b,ns,ts,tt,hR,h,hL,hG=>by
  rw[Ea]at hR;have A:=hR.left.left;have D:=hR.left.right<|Jz x.cond b;have r:=hR.right (k:=BK x.cond+BK x.aG) (by rw[zC,Jz,Jz]);rw[<-Nat.add_assoc]at r;have hx:=hG x za;have u:GdX d:=λz E=>hG z<|zi _ E;have v:∀(o:M3) (c:Nat),GQ N c (Pn o c)->gdO o->∀e,o=Q e->∃f,JW o c≠-1/\Es[(JW o c).toNat]? =Q f/\∀ts,AX ts f=AX ts e/\Eh ts f=Eh ts e:=λo c F hg e he=>by
   subst he;obtain⟨f,f1,f2⟩:=LZ e c F (hg e rfl).1;have G:=f1.lt;have e1:JW (Q e) c=((c+e.aL-1 :Nat):Int):=rfl;have B:c+e.aL-1<T Es:=by rw[n];exact G
   refine⟨Es[c+e.aL-1],by rw[e1];omega,by rw[e1,zS];exact zM B,λts=>?_⟩;have q:=Ae8 h5 (p _ B) f1 ts;have q2:=f2 ts;exact⟨q.1.trans q2.1,q.2.trans q2.2⟩
  have w:∀(ns:L4) (ts tt:L2),tyG ts x.aG->Ca Es (ns,ts,tt) ⟨x.aC,x.name,JW x.cond b,JW x.aG<|b+BK x.cond⟩=Q (ns,ts,tt++Xw ts x.aG):=λns ts tt hg=>by
   cases C:x.aG with
   |none=>
    rw[Ca,H8<|show JW U (b+BK x.cond)= -1 from rfl];simp[Xw]
   |some e=>
    obtain⟨f,f1,f2,i⟩:=v x.aG _ D hx.2 e C;rw[C]at f1 f2 hg;rw[Ca,H7 f1];dsimp only;rw[f2];dsimp only;rw[(i ts).1,(i ts).2,show AX ts e=Q 4 from hg];rfl
  rw[DA,CP,LP];obtain⟨k,e,t,g,s,h3,m⟩|⟨k,⟨e,g,s⟩,h3,m⟩|⟨k,g,h3,m⟩:=h
  .obtain⟨f,f1,f2,i⟩:=v x.cond _ A hx.1 e g;rw[LtF,Aa0 k]at hL;have H:x.name ∉ ns:=hL.2 _ za;have hc:Cw Es (ns,ts,tt) ⟨x.aC,x.name,JW x.cond b,JW x.aG<|b+BK x.cond⟩=Q (ns++[x.name],ts++[t],tt++Xw ts x.cond):=by
    rw[Cw,H7 f1];dsimp only;rw[f2];dsimp only;unfold WT;rw[H8<|show x.aC=1 from k,(i ts).1,(i ts).2,s];dsimp only;rw[H7 H,g];rfl
   rw[hc,z6,w _ _ _<|by rw[h3];trivial,z6];obtain⟨n1,l,hq⟩:=Vd h5 n p d _ (ns++[x.name]) (ts++[t]) ((tt++Xw ts x.cond)++Xw (ts++[t]) x.aG) r m ⟨(List.nodup_cons.1 hL.1).2,λa y hm=>by
    obtain q|q:=zO.1 hm
    .exact hL.2 a (zi _ y) q
    .rw[zR.1 q]at y;exact(List.nodup_cons.1 hL.1).1 y⟩ u
   refine⟨n1,l,?_⟩;rw[hq,Yw,H8 k,g,z6,s,Option.getD_some,<-g];simp only[zl]
  .obtain⟨f,f1,f2,i⟩:=v x.cond _ A hx.1 e g;rw[LtF,Vc Oa]at hL;have hc:Cw Es (ns,ts,tt) ⟨x.aC,x.name,JW x.cond b,JW x.aG<|b+BK x.cond⟩=Q (ns,ts,tt++Xw ts x.cond):=by
    rw[Cw,H7 f1];dsimp only;rw[f2];dsimp only;unfold WT;rw[H7 (Oa:¬ x.aC=1),(i ts).1,(i ts).2,s];dsimp only;rw[H8 rfl,g];rfl
   rw[hc,z6,w _ _ _ h3,z6];obtain⟨n1,l,hq⟩:=Vd h5 n p d _ ns ts ((tt++Xw ts x.cond)++Xw ts x.aG) r m hL u;refine⟨n1,l,?_⟩;rw[hq,Yw,H7 Oa];simp only[zl]
  .rw[LtF,Vc Oa]at hL;have hc:Cw Es (ns,ts,tt) ⟨x.aC,x.name,JW x.cond b,JW x.aG<|b+BK x.cond⟩=Q (ns,ts,tt++Xw ts x.cond):=by
    rw[g,Cw,H8<|show JW U b= -1 from rfl];simp[Xw]
   rw[hc,z6,w _ _ _ h3,z6];obtain⟨n1,l,hq⟩:=Vd h5 n p d _ ns ts ((tt++Xw ts x.cond)++Xw ts x.aG) r m hL u;refine⟨n1,l,?_⟩;rw[hq,Yw,H7 Oa];simp only[zl]
theorem Aa3:∀(a:M0) (ts:L2),T (Yw ts a)=Di a
 |[],_=>rfl
 |x ::a,ts=>by
  have b:∀(o:M3) (ts:L2),T (Xw ts o)=BK o:=λo ts=>by
   cases o with
   |none=>rfl
   |some e=>exact QQ ts e
  rw[Yw,zC,zC,b,b,Aa3 a,Ci]
set_option maxHeartbeats 1600000
def PZ (N:L6) (L:L9) (T:L2) (o:L6×L9×L2):Prop:=
 (Ld N L T jE/\o=([],[],[]))\/(Ld N L T jD/\∃Es:L8,ja Es=ja N/\(∀j,(h:j<ja Es)->AZ N j Es[j])/\o=(Ea 0<|DF<|OE Es 0 L,DA 0<|DF<|OE Es 0 L,Yw []<|DF<|OE Es 0 L))
theorem AhL (N:L6)(L:L9)(T:L2):∃v,Ld N L T v:=by
 cases a:CE N L with
 |false=>exact⟨jE,.inl ⟨a,rfl⟩⟩
 |true=>
   obtain⟨Es,b,c⟩:=Gu<|BQ a;exact⟨_,.inr ⟨a,Es,b,c,rfl⟩⟩
theorem Ajp (Es:L8):∀(L:L9) (i j:Nat) (h:j<T L),(OE Es i L)[j]? =Q ⟨((i+j:Nat):Int),L[j].aC,L[j].name,BU Es L[j].cond,BU Es L[j].aG⟩:=by intro L;induction L<;>intros<;>grind [OE]
theorem NmQ.below {w w':jB}{a:L3}{n c:Nat}{N:L6}(h:NmQ w a N)(m:IN w a n c N)(f:Ai w w'):NmQ w' a N:=λj g b r d an nn cn hc=>by
 obtain⟨i,k,l,o,_⟩:=m.cells j g;rw[l]at d;simp only[Option.some.injEq,Addr.mk.injEq]at d;obtain⟨rfl,rfl,_⟩:=d;have q:=(f.cell (p:=⟨i,k+j*5+3,U⟩) o).symm.trans hc;obtain⟨q1,q2⟩:=h j g i k l an nn cn q;exact⟨q1,q2.below f NLN⟩
structure WtX (N:L6) (L:L9) (X:M0):Prop where
 ty:Mi [] X
 gd:GdX X
 en:MU X
 nm:nmX X
 lt:LtF Bn X
 aL:Di X<=4000
 len:T X=T L
 sm:T L<=600
theorem AdB {T:L2}(hv:Ld N L T jD)(w:∀x∈N,Cu x.num/\ja x.aB<=1048576)(t:ja Es=ja N)(f:∀j,(h:j<ja Es)->AZ N j Es[j]):CE N L=jD/\WtX N L (OE Es 0 L):=by
 obtain⟨_,h⟩|⟨c,y,f1,f2,h⟩:=hv
 .cases h
 .have a:=BQ c;rw[Oc (no5 c) f1 t f2 f]at h;cases hc:CP Es (Bn,[],[]) L with
  |none=>rw[hc]at h;cases h
  |some st=>
    have g:=c;simp only[CE,zF,zG]at g;obtain⟨⟨⟨_,_,i⟩,_⟩,b⟩:=g;obtain⟨c1,c2,c3⟩:=Aa2 Es L 0 Bn [] [] st hc i (λs hs=>by
     have q:=a.stm s hs;have r:=a.dJ s hs;exact⟨λh3=>Oa,Oa⟩)
    obtain⟨S,l,ht⟩:∃S,Fk (N.map Nd.aD) (ja N) [] 0=Q S/\Au S=L.flatMap Ao:=by
     rw[GN]at b;cases hq:Fk (N.map Nd.aD) (ja N) [] 0 with
     |none=>rw[hq]at b;cases b
     |some S=>rw[hq]at b;exact⟨S,rfl,K8 b⟩
    obtain⟨hF,hd⟩:=CZ (ja N) (.nil 0) (λp d=>(by cases d)) l;have FP:∀s∈L,∀k∈Ao s,∀e,BU Es k=Q e->LV e/\Jm e/\ER e<=64:=λs hs k u e he=>by
     have hm:k∈Au S:=by rw[ht];exact List.mem_flatMap.2 ⟨s,hs,u⟩
     rw[Au]at hm;obtain⟨p,d,e1⟩:=zc.1 hm;have e2:k=(p.1:Int):=e1.symm;subst e2;rw[BU,H7 Oa,zS]at he;obtain⟨v,he⟩:=zP.1 he;have o:=f p.1 v;rw[he]at o;have:=Acl hF p d e o
     grind [NM.bK,AZ.gd,AZ.ok]
    refine⟨c,c1,λx hx=>?_,Aa1 Es L 0 i a.m0,c2,c3,?_,Aay Es L 0,a.m⟩
    .obtain⟨s,hs,q1,q2,z,A⟩:=AgU hx;have hq:=a.stm s hs;have l:=a.dJ s hs;refine⟨λe he=>?_,λe he=>?_⟩
     .rw[q1]at he;by_cases h3:s.aC=3
      .have:s.cond= -1:=Oa
       grind [BU]
      .exact FP s hs s.cond (by rw[Ao,H8 h3];exact Z5 _ za) e he
     .rw[q2]at he;by_cases h3:s.aG= -1
      .grind [BU]
      .exact FP s hs s.aG (by rw[Ao,H8 h3];exact Z0 _ za) e he
    grind [Ku,NM.n,US]
theorem KR:∀(c:M0) (ts:L2),Mi ts c->∀x∈c,Vf x.cond/\Vf x.aG/\(x.aC=1->∃e,x.cond=Q e)
 |[],_,_,x,hx=>Q9
 |y ::c,ts,h,x,hx=>by
  have f:∀{g:M3},tyG ts g->Vf g:=λ{g} hg=>by
   cases g with
   |none=>trivial
   |some e=>exact Ff e 4 hg
  obtain e1|e1:=zh.1 hx
  .subst e1;obtain⟨k,e,t,b,d,h3,a⟩|⟨k,⟨e,b,d⟩,h3,a⟩|⟨k,b,h3,a⟩:=h
   .exact⟨by rw[b];exact Ff e t d,by rw[h3];trivial,λ_=>⟨e,b⟩⟩
   .exact⟨by rw[b];exact Ff e 1 d,f h3,λi=>⟨e,b⟩⟩
   .exact⟨by rw[b];trivial,f h3,λi=>H9 (k.symm.trans i) Ob⟩
  .obtain⟨_,_,t,_,_,_,a⟩|⟨_,_,_,a⟩|⟨_,_,_,a⟩:=h
   .exact KR c _ a x e1
   .exact KR c _ a x e1
   .exact KR c _ a x e1
theorem XK:∀(X:M0) (n:Int),(Rj n X).map Prod.fst=X:=by intro X;induction X<;>intros<;>grind [Rj]
theorem ZD {x:Nd}(h:Bf x=jD):okN x/\x.text.size<=1048576:=by
 rw[Bf,zF,zG]at h;obtain⟨b,hq⟩:=h;have a:T x.aD<=1048576:=by
  have:BY x.op<=3:=by unfold BY;repeat' split;all_goals omega
  omega
 have nn:T x.aB=0->okN x:=λh0=>⟨Oa,a,λs hs=>by rw[zd h0]at hs;cases hs⟩
 unfold Jq VG at hq
 repeat' split at hq
 all_goals first
  |(cases hq;done)
  |(simp only[zF,zG]at hq;exact⟨nn Oa,Oa⟩)
  |(simp only[zF,zG]at hq;have q:=hq.1.1;rw[Co,zF,zG]at q;exact⟨nn Oa,Oa⟩)
  |(simp only[zF,zG]at hq;obtain⟨s1,s2⟩:=FN hq.1.1;exact⟨⟨Oa,a,λs hs=>by have:=s2 s hs;unfold maxLen;omega⟩,Oa⟩)
theorem Abb (a:jB):GdM [] [] [] U 0 0 U 0 0 U 0 0 a:=⟨⟨⟨rfl,Ob,λx hx=>Q9,λj h=>H9 h Ox⟩,λj h=>H9 h Ox⟩,⟨rfl,Ob,λx hx=>Q9,λj h=>H9 h Ox⟩,⟨rfl,Ob,λj h=>H9 h Ox⟩⟩
theorem AhM (a b e:L3)(n c m d k f:Nat)(w:jB)
  (j:∀i,Ai w i->Calls jZ 56 #[jM #[Y a n c,Y b m d,Y e k f]] i λr w'=>r=jN (.bool jE)/\Ai i w'):
  Calls jZ 30 #[jM #[Y a n c,Y b m d,Y e k f]] w (OpM [] [] [] w):=by
 have h:=(AE w<|Nx a n c b m d e k f).alloc Ox<|Nx U 0 0 U 0 0 U 0 0;have g:=Ag.new (jK w<|Nx a n c b m d e k f) #[Y U 0 0,Y U 0 0,Y U 0 0] 70;simp only[G0]at g;go_enter func30,ntmps30
 go_wp2_with fail
 generalize jK (jK w (Nx a n c b m d e k f)) (Nx U 0 0 U 0 0 U 0 0)=t at h g|-;refine(Aa (Ab j) _ h).mono ?_;rintro r u ⟨rfl,b1⟩;replace g:=g.aA b1 NLN;obtain⟨x,y,z⟩:=At g;have A:=λk=>g.frozen k;have l:=(((h.trans<|b1.mono h.size).setCell (p:=⟨R (Z w)+1,0,U⟩) (zU _)<|Y U 0 0).setCell (p:=⟨R (Z w)+1,1,U⟩) (zU _)<|Y U 0 0).setCell (p:=⟨R (Z w)+1,2,U⟩) (zU _)<|Y U 0 0;go_wp2_with fail
 obtain⟨o,q,s⟩:=At<|Aa<|Ab<|((g.set 0<|Y U 0 0).set 1<|Y U 0 0).set 2<|Y U 0 0;refine G2 (v:= jM #[Y U 0 0,Y U 0 0,Y U 0 0]) (by simp[results,results30,go_sem,o,q,s]) rfl ⟨⟨U,0,0,U,0,0,U,0,0,rfl,Abb _,λ_ _ _ _ _ _=>Abb _⟩,Aa<|Ab l⟩
theorem AhN (X:M0):T (Ei<|Et [] X)<=T X:=by
 have l1:∀(X:M0) (ls:L8),T (Et ls X)=T X:=λX=>by induction X<;>grind [Et]
 have a:∀(X:M0),T (Ei X)<=T X:=λX=>by induction X<;>grind [Ei]
 grind
theorem Acq:∀(X:M0) (b:Nat),∀s∈DA b X,∃x∈X,s.aC=x.aC/\s.name=x.name:=by intro X;induction X<;>intros<;>grind [DA]
theorem SG (a b e:L3)(n c m d k f:Nat)(N:L6)(L:L9)(T:L2)(w:jB)(E:IN w a n c N)(P:Po w b m d L)(h3:AP w e k f T)(ar:NmQ w a N)(S:∀x∈N,Cu x.num/\ja x.aB<=1048576):
  Calls jZ 30 #[jM #[Y a n c,Y b m d,Y e k f]] w λr w'=>∃o,PZ N L T o/\OpM o.1 o.2.1 o.2.2 w r w':=by
 obtain⟨v,hv⟩:=AhL N L T;have W:∀g,Ai w g->Calls jZ 56 #[jM #[Y a n c,Y b m d,Y e k f]] g λr w'=>r=jN (.bool v)/\Ai g w':=λg p=>
  (J3 a b e n c m d k f N L T g (E.below p NLN) (P.below p NLN)<|h3.below p NLN).mono λr w' ⟨⟨v',C,au⟩,F⟩=>⟨by rw[C,au.bH hv],F⟩
 cases v with
 |false=>exact(AhM a b e n c m d k f w W).mono λr w' h=>⟨_,.inl ⟨hv,rfl⟩,h⟩
 |true=>
   obtain⟨aa,l,f1,f2,_⟩:CE N L=jD/\∃Es:L8,ja Es=ja N/\(∀j,(h:j<ja Es)->AZ N j Es[j])/\True:=by
    obtain⟨_,h⟩|⟨aa,l,f1,f2,_⟩:=hv
    all_goals grind
   obtain⟨_,i⟩:=AdB hv S f1 f2;have ab:=BQ aa;have ac:∀j,(h:j<ja L)->∃x,(OE l 0 L)[j]? =Q x/\x.aC=L[j].aC/\x.name=L[j].name/\TrS N L[j].cond x.cond/\TrS N L[j].aG x.aG:=λj ad=>by
    have ae:∀k:Int,(k= -1\/(0<=k/\k<ja N))->TrS N k (BU l k):=λk af=>by
     obtain h|⟨h,aQ⟩:=af
     .exact .inl ⟨h,by rw[BU,H8 h]⟩
     .have G:k.toNat<ja l:=Oa;exact .inr ⟨k.toNat,l[k.toNat],Oa,by rw[BU,H7 Oa];exact zM G,f2 _ G,(f2 _ G).ok S⟩
    have C:=ab.dJ L[j]<|zI ad;exact⟨_,Ajp l L 0 j ad,rfl,rfl,ae _ C.1,ae _ C.2⟩
   obtain⟨X,ag⟩:∃X,X=OE l 0 L:=⟨_,rfl⟩
   rw[<-ag]at ac i;have ah:=Xt i.en;have av:=Rk X [] ah;have H:∀q∈Lw [] X,q.1∈Ei (Et [] X):=λq hq=>by grind [XK]
   have D:Mi []<|Ei<|Et [] X:=KO _ []<|MS X [] [] (λn c hc=>by simp at hc) rfl i.ty;have ai:Li (Lw [] X)=(Ic 0<|Ei<|Et [] X).map Kr:=by rw[av];exact Va _ 0
   have aj:Dr (Li<|Lw [] X)=Dr (Ic 0<|Ei<|Et [] X):=by rw[ai,AeX]
   have aw:DF X=(Li<|Lw [] X).map λq=>PF (Dr<|Li<|Lw [] X) q.1:=by rw[Aci X ah,z3];rfl
   obtain⟨ax,I,ay⟩:=Ahy i.en i.nm;have J:=Aaq i.gd;have ak:=Aho i.ty;have al:Di (DF X)<=4000:=zB (AeZ X) i.aL;have az:ja (DF X)<=600:=zB (Ae6 X) (by rw[i.len];exact i.sm);have t:=Ae7 ak J ax I al az;have u:=BQ t;have aA:∀g,Ai w g->Calls jZ 57 #[jM #[Y a n c,Y b m d,Y e k f]] g (StA (Lw [] X) g):=λg p=>
    XG a b e n c m d k f N L g (E.below p NLN) (ar.below E p) ab.bK (P.below p NLN) X (by rw[i.len]) ac i.ty (λx hx af=>(i.nm x hx).2 Oa) (Akz g)
   have aD:ja (Lw [] X)<=600:=by grind [AhN,Ei,WtX.sm,Et,XK,Po.len,IN.len,WtX.len]
   have aE:∀q∈Li (Lw [] X),∀m,usS m q.1=jD->m∈Dr (Li<|Lw [] X):=λq hq m hm=>by
    rw[aj];rw[ai]at hq;obtain⟨K,h0,rfl⟩:=zc.1 hq;have e1:(Kr K).1=K.1:=by unfold Kr;split<;>rfl
    rw[e1]at hm;obtain q|q:=PG (Ei<|Et [] X) [] D K h0 m hm
    all_goals grind
   have aF:∀s∈DA 0 (DF X),s.name.size<=1048576:=λs hs=>by
    obtain⟨x,hx,e1,e2⟩:=Acq (DF X) 0 s hs;obtain⟨_,q,_⟩|⟨q,_⟩|⟨q,_⟩:=u.stm s hs
    .omega
    .rw[e2,(I x hx).2 Oa];exact zE _
    .rw[e2,(I x hx).2 Oa];exact zE _
   obtain⟨aH,z,A⟩:=Gu u;obtain⟨n1,aR,O⟩:=Vd (no5 t) z A (DF X) 0 Bn [] [] (λj y hy=>by rw[zY];exact hy) ak (i.lt.sub ay) J;rw[List.nil_append]at O;have aI:=Abc t z A O;refine(Afh a b e n c m d k f w (Lw [] X) aD (λq hq=>⟨(KR _ [] D q.1<|H q hq).1,(KR _ [] D q.1<|H q hq).2.1⟩) (λq hq=>(KR _ [] D q.1<|H q hq).2.2) W aA (DF X) aw al (by rw[aj];exact(Zx _ 0).2) aE (Yw []<|DF X) (by rw[Aa3];omega) (λx hx=>ZD<|LY (DF X) 0 J x hx) aF ?_).mono λr w' h=>⟨_,.inr ⟨hv,l,f1,f2,rfl⟩,by rw[<-ag];exact h⟩
   intro g aJ n' c' aK aM aN ao ap;have aq:=ao.len;have aO:=ap.len;refine(Pd aJ aK n' c' aM aN _ _ (λx hx=>zq.1 aI x hx) g ao ap aH (by rw[z,aq]) A (by rw[<-aq];exact u.n) (by rw[<-aO];exact u.m) (RU t z A)<|by rw[Ku t z A];exact u.n).mono ?_;rintro r w' (⟨B,aS,ns,ts,tt,aT,lv,aP,e1,e2,M,_,F⟩|⟨e1,_⟩)
   .rw[O]at e1;have e3:Yw [] (DF X)=tt:=congrArg (λq=>q.2.2)<|K7 e1;exact⟨⟨B,aP,_,0,0,e2,by rw[e3];exact M.types⟩,F⟩
   grind
theorem AZ.st_one {i:Nat}{e:Ex}(t:AZ N i e):∀{f:Ex},AZ N i f->e.st=f.st:=by
 induction t with
 |int h b d=>grind [AZ.cC]
 |text h b d=>grind [AZ.cC]
 |bool h b d=>grind [AZ.cC]
 |name h b d=>grind [AZ.cC]
 |attr h b d=>grind [AZ.cC]
 |lett h b d=>grind [AZ.cC]
 |set h b d a n c=>intro f u;obtain⟨o,r⟩|⟨o,r⟩|⟨o,r⟩|⟨o,r⟩|⟨o,r⟩|⟨o,r⟩|⟨o,r⟩|⟨o,r⟩|⟨o,r⟩|⟨o,r⟩:=u.cC h<;>first|omega|(obtain⟨_,_,_,r⟩:=r;subst r;rfl)
 |un h b d hi t x=>grind [Ex.st,AZ.cC]
 |bin h b d hi t u g j=>
   intro f v;obtain⟨o,r⟩|⟨o,r⟩|⟨o,r⟩|⟨o,r⟩|⟨o,r⟩|⟨o,r⟩|⟨o,r⟩|⟨o,r⟩|⟨o,k,l,m,p,q,s,w,r⟩|⟨o,r⟩:=v.cC h<;>first|omega|skip
   grind [Ex.st]
 |ite h b d hi t u v g j y=>
   intro f z;obtain⟨o,r⟩|⟨o,r⟩|⟨o,r⟩|⟨o,r⟩|⟨o,r⟩|⟨o,r⟩|⟨o,r⟩|⟨o,r⟩|⟨o,r⟩|⟨o,k,l,A,m,p,B,q,s,w,v',r⟩:=z.cC h<;>first|omega|skip
   grind [Ex.st]
section
variable{aS aO aZ aW:jG}{G:Nat->Prop}
end
section
open Go.RowKit Go.Extern.Stop Go.Stop Go.Extern
variable{aS aO aZ aW:jG}
end
section
variable{aS aO aZ aW:jG}{G:Nat->Prop}
end
section
variable{aS aO aZ aW:jG}{G:Nat->Prop}
end
section
variable{G:Nat->Prop}
end
section
variable{G:Nat->Prop}
end
section
variable{G:Nat->Prop}
end
section
variable{aS aO aZ aW:jG}{G:Nat->Prop}
end
section
variable{aS aO aZ aW:jG}{G:Nat->Prop}
end
section
variable{aS aO aZ aW:jG}{G:Nat->Prop}
end
section
variable{G:Nat->Prop}
end
section
variable{G:Nat->Prop}
end
section
variable{aS aO aZ aW:jG}{G:Nat->Prop}
end
section
variable{aS aO aZ aW:jG}
end
section
variable{aS aO aZ aW:jG}{G:Nat->Prop}
end
section
variable{G:Nat->Prop}
end
section
variable{aS aO aZ aW:jG}{G:Nat->Prop}
end
def IK (x:Sx):Sx:=⟨0,x.aC,x.name,x.cond.map Ex.st,x.aG.map Ex.st⟩
theorem Aju (ls:L8)(o:M3):(o.map Ex.st).map (BP<|ls.map Ex.st)=(o.map<|BP ls).map Ex.st:=by cases o<;>grind [LU]
theorem Ajv (ls:L8)(x:Sx):FX (ls.map Ex.st) (IK x)=IK (FX ls x):=by simp only[FX,IK,Aju]
theorem Ajw (ls:L8)(x:Sx):TX (ls.map Ex.st) (IK x)=(TX ls x).map Ex.st:=by
 unfold TX;by_cases h:x.aC=1
 .rw[H8<|show(IK x).aC=1 from h,H8 h];simp only[IK];cases x.cond<;>simp[Ex.st]
 simp_all[IK]
theorem AhP:∀(X:M0) (ls:L8),Et (ls.map Ex.st) (X.map IK)=(Et ls X).map IK:=by intro X;induction X<;>intros<;>grind [Et,Ajw,Ajv]
theorem AhQ (b:Bool)(o:M3):Lh b (o.map Ex.st)=Lh b o:=by cases o with|none=>rfl|some e=>exact Zv b e
theorem AhR:∀(X:M0),Ei (X.map IK)=(Ei X).map IK:=by intro X;induction X<;>intros<;>grind [Ei,IK,AhQ]
theorem Ajx (n:Int):∀(e:Ex),usE n e.st=usE n e:=by intro e;induction e<;>intros<;>grind [Ex.st,usE]
theorem Ajy (n:Int)(o:M3):usO n (o.map Ex.st)=usO n o:=by cases o with|none=>rfl|some e=>exact Ajx n e
theorem Ajz (n:Int)(x:Sx):usS n (IK x)=usS n x:=by simp only[usS,IK,Ajy]
theorem Afm (o:M3):JS (o.map Ex.st)=JS o:=by cases o with|none=>rfl|some e=>exact PE e
theorem ZE:∀(a:M0) (n:Int),Ic n (a.map IK)=(Ic n a).map λq=>(IK q.1,q.2)
 |[],n=>rfl
 |x ::a,n=>by
  have b:((Ic (n+1) a).map λq=>(IK q.1,q.2)).any (λq=>usS n q.1)=(Ic (n+1) a).any λq=>usS n q.1:=by grind [Ajz,List.any_map]
  rw[List.map_cons,Ic,Ic,ZE a<|n+1,ZE a n,b];simp only[show(IK x).aC=x.aC from rfl,show(IK x).cond=x.cond.map Ex.st from rfl,Afm]
  grind
theorem AjA (K:List<|Sx×Int):Dr (K.map λq=>(IK q.1,q.2))=Dr K:=by
 unfold Dr;rw[List.filter_map,z3];rfl
theorem AjB (l:L2):∀(e:Ex),Eu l e.st=(Eu l e).st:=by intro e;induction e<;>intros<;>grind [Ex.st,Eu]
theorem AjC (l:L2)(x:Sx):(IK<|PF l x)=IK (PF l<|IK x):=by
 have h:∀o:M3,(o.map<|Eu l).map Ex.st=((o.map Ex.st).map<|Eu l).map Ex.st:=λo=>by cases o<;>grind [AjB,Aks]
 grind [PF,IK]
theorem AhS (X:M0):(Zw<|X.map IK).map IK=(Zw X).map IK:=by
 unfold Zw;rw[ZE,AjA,z3,z3,z3]
 grind [List.map_congr_left,AjC]
theorem Abg (X:M0):(DF<|X.map IK).map IK=(DF X).map IK:=by
 unfold DF;rw[show([]:L8)=([]:L8).map Ex.st from rfl,AhP,AhR,AhS];rfl
theorem Abd (o:M3):BK (o.map Ex.st)=BK o:=by cases o with|none=>rfl|some e=>exact Kp e
theorem Ajq (o:M3)(b:Nat):Pn (o.map Ex.st) b=Pn o b:=by cases o with|none=>rfl|some e=>exact Rg e b
theorem Ajr (o:M3)(b:Nat):JW (o.map Ex.st) b=JW o b:=by cases o with|none=>rfl|some e=>simp only[Option.map,JW,Kp]
theorem Abe:∀(X:M0) (b:Nat),Ea b (X.map IK)=Ea b X:=by intro X;induction X<;>intros<;>grind [Ea,Abd,Ajq,IK]
theorem Abf:∀(X:M0) (b:Nat),DA b (X.map IK)=DA b X:=by intro X;induction X<;>intros<;>grind [Abd,DA,Ajr,IK]
theorem AhO (ts:L2):∀(e:Ex),Eh ts e.st=Eh ts e:=by intro e;induction e<;>intros<;>grind [Ex.st,AeP,Eh]
theorem Ajs (ts:L2)(o:M3):Xw ts (o.map Ex.st)=Xw ts o:=by cases o with|none=>rfl|some e=>exact AhO ts e
theorem Ajt (ts:L2)(o:M3):(o.map Ex.st).bind (AX ts)=o.bind (AX ts):=by cases o with|none=>rfl|some e=>exact AeP ts e
theorem Afj:∀(X:M0) (ts:L2),Yw ts (X.map IK)=Yw ts X:=by intro X;induction X<;>intros<;>grind [Ajt,Ajs,Yw,IK]
theorem Afk {X Y:M0}(h:X.map IK=Y.map IK):Ea 0 (DF X)=Ea 0 (DF Y)/\DA 0 (DF X)=DA 0 (DF Y)/\Yw [] (DF X)=Yw [] (DF Y):=by
 have e:(DF X).map IK=(DF Y).map IK:=by rw[<-Abg X,h,Abg Y]
 exact⟨by rw[<-Abe,e,Abe],by rw[<-Abf,e,Abf],by rw[<-Afj,e,Afj]⟩
theorem Afl {a:L8}(b:T Es=T N)(c:T a=T N)(d:∀j,(h:j<T Es)->AZ N j Es[j])(hF:∀j,(h:j<T a)->AZ N j a[j]):∀(L:L9) (i:Nat),(OE Es i L).map IK=(OE a i L).map IK:=by
 have f:∀k,(BU Es k).map Ex.st=(BU a k).map Ex.st:=λk=>by grind [BU,AZ.st_one]
 intro L
 induction L<;>grind [OE,IK]
theorem PZ.bH {N:L6}{L:L9}{T:L2}{o p:L6×L9×L2}(h:PZ N L T o)(k:PZ N L T p):o=p:=by
 obtain⟨a,rfl⟩|⟨a,Es,e1,e2,rfl⟩:=h<;>obtain⟨b,rfl⟩|⟨b,c,f1,f2,rfl⟩:=k
 all_goals grind [Afl,Afk,Ld.bH]
end Go.Proofs.YtnjpihpohilnjaaGreatDoor

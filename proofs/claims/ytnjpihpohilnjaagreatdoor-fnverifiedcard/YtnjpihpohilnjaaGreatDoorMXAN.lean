import Derived.Test.YtnjpihpohilnjaaGreatDoorMXAI
import Derived.Test.YtnjpihpohilnjaaGreatDoorMXAB
open List renaming length->T,length->ja
open Option renaming none->U,some->Q
open Array renaming size->R,size->jh
open Go renaming World->jB,Value->jF,Addr->jG
open Bool renaming true->jD,false->jE
open ByteArray renaming empty->jW
namespace Go.Proofs.YtnjpihpohilnjaaGreatDoor
open Proofs.Tryz
open Value renaming int->V,int->jc,slice->Y,string->jC,ownBlock->jL,agg->jM,pointer->jP,tuple->jQ
open IntKind renaming i64->X
open World renaming heap->Z,cell?->jI,setCell->jJ,alloc->jK,ownsRow->jO,drew->jR
open Addr renaming mk->jA
open Obj renaming cells->jH
open Proofs.Tryz renaming prog->jZ
set_option maxRecDepth 100000
set_option maxHeartbeats 6400000
open Go.RowKit
set_option linter.unusedVariables false
variable{nm:K9}{t c:Int}{ns:L4}{Es:L8}{ts tt:L2}{N:L6}{L:L9}{st:MH}{a j:Nat}{x:Nd}{s:St}{h k:jF}{w:jB}
structure CdR (Es:L8) (ns:L4) (ts tt:L2) (s:St) (ns7:L4) (ts7 tt7:L2):Prop where
 cd:Ij Es (CB ns ts,ts,tt) s= .ok (CB ns7 ts7,ts7,tt7)
 len:T ns7=T ts7
 cS:∀d∈CB ns7 ts7,1<=d.cS/\d.cS<=4
 few:T ts7<=601
 room:T tt7+Bv Es s.aG<=4000
 sp:Ii Es (T tt7) s.aG
theorem AaJ {b:jB}{c a:Nat}{j d f:jF}{t:TypeId}(F:Ag b a #[j,k] t)(R:Ag b c #[d,f] t)(h:c≠a)(x y:jF):Ag (jJ (jJ b (jA a 0 U) x) (jA a 1 U) y) a #[x,y] t/\Ag (jJ (jJ b (jA a 0 U) x) (jA a 1 U) y) c #[d,f] t/\Ag (jR<|jJ (jJ b (jA a 0 U) x) (jA a 1 U) y) a #[x,y] t/\Ag (jR<|jJ (jJ b (jA a 0 U) x) (jA a 1 U) y) c #[d,f] t:=by
 have g:=(F.set 0 x).set 1 y;have i:=(R.aF (p:=(jA a 0 U)) h x).aF (p:=(jA a 1 U)) h y;exact⟨g,i,⟨g.out⟩,⟨i.out⟩⟩
theorem Ab3 {d:Func}{g:Array jF}{r:Except (Int×Int) Cs}{w0 c b:jB}{f:Int×Int}{i:jF}(R:Ag c a #[h,i] 109)(j:jh (Z w0)=a)(k:Below a w0 c)(hq:r= .error f)(l:f.1≠0)(m:b=jJ (jJ c (jA a 0 U)<|jc X f.1) (jA a 1 U) (jc X f.2)\/b=jR (jJ (jJ c (jA a 0 U)<|jc X f.1) (jA a 1 U)<|jc X f.2))(n:∀V:jB,jI V (jA a 0 U)=Q (jc X f.1)->jI V (jA a 1 U)=Q (jc X f.2)->(results d g).run jZ V= .ok (jQ #[Y U 0 0,jP U,jM #[jc X f.1,jc X f.2]]) V):bodyPost jZ d (CkM r w0) Exit.ret { tmps:=g,defers:= [] } b:=by
 have o:=(R.set 0<|jc X f.1).set 1<|jc X f.2;have q:=(k.setCell (p:=(jA a 0 U)) (zy a)<|jc X f.1).setCell (p:=(jA a 1 U)) (zy a)<|jc X f.2;have e:Ag b a #[jc X f.1,jc X f.2] 109/\Below a w0 b:=by
  obtain rfl|rfl:=m
  .grind
  .exact⟨⟨o.out⟩,q.drew⟩
 exact G2 (n b (e.1.cell 0)<|e.1.cell 1) rfl (.inr ⟨f,hq,rfl,l,by show Below _ _ _;rw[j];exact e.2⟩)
theorem MA (a b:L3)(n c m d:Nat)(N:L6)(L:L9)(b9:∀x∈N,FdX x)(w0:jB)(ca:IN w0 a n c N)(bk:Po w0 b m d L)(Es:L8)(cb:T Es=n)(bl:∀j,(h:j<T Es)->AZ N j Es[j])(dh:n<=4000)(hm:m<=600)(cc:LK Es L)(ce:DJ Es L<=4000):
  Calls jZ 62 #[Y a n c,Y b m d] w0 (CkM (Fc Es (Ju,[],[]) L) w0):=by
 obtain⟨di,dj,dk,dl,dm⟩:=info_parts If;obtain⟨dn,dp,dq,dr,ds⟩:=info_parts GB;have bm:=Ab λ(o:Nat) (ns:L4) (ts tt:L2) (ai lv dt:jF)=>Ab2 a n c N b9 w0 ca (R (Z w0)+3) Oa Es cb bl dh o ns ts tt ai lv dt;have du:=Ab cc;have cf:=Ab (show ∀(y:Nat) (e:Ex),Es[y]? =Q e->e.pos=y from λy e h=>by obtain⟨dv,hh⟩:=zP.1 h;rw[<-hh];exact(bl y dv).pos);have dw:=Ab ce;have cg:=Ab bk.len;have bn:=((Ag.new w0 #[jc X 0,jc X 0] 109).alloc<|jH #[Y U 0 0,Y U 0 0] 177).alloc<|jH #[jc X 0,jc X 0] 109;have a1:=(Ag.new (jK w0<|jH #[jc X 0,jc X 0] 109) #[Y U 0 0,Y U 0 0] 177).alloc<|jH #[jc X 0,jc X 0] 109;have aE:=Ag.new (jK (jK w0<|jH #[jc X 0,jc X 0] 109)<|jH #[Y U 0 0,Y U 0 0] 177) #[jc X 0,jc X 0] 109;have bo:=(((AE w0<|jH #[jc X 0,jc X 0] 109).alloc Ox<|jH #[Y U 0 0,Y U 0 0] 177).alloc O0<|jH #[jc X 0,jc X 0] 109)
 have a2:R (Z<|jK (jK (jK w0<|jH #[jc X 0,jc X 0] 109)<|jH #[Y U 0 0,Y U 0 0] 177)<|jH #[jc X 0,jc X 0] 109)=R (Z w0)+3:=Ox;simp only[G0]at a1 aE;clear b9 ca bl cb cc ce;go_enter func62,ntmps62
 go_wp2_with fail
 generalize (jK (jK (jK w0 (jH #[jc X 0,jc X 0] 109)) (jH #[Y U 0 0,Y U 0 0] 177)) (jH #[jc X 0,jc X 0] 109))=dx at bn a1 aE bo a2|-;have ao:R (Z w0)<R (Z w0)+1/\R (Z w0)+1<R (Z w0)+1+1/\R (Z w0)+1+1<R (Z w0)+3:=Oa
 have bp:Lm (R (Z w0)+3) (R (Z w0)+1) [] [] [] (Y U 0 0) (Y U 0 0) (Y U 0 0) dx:=⟨a1,H3,H3,H3,Oa,λq h=>Qy⟩
 clear a1;generalize dy:R (Z w0)+1=o at ao bp aE|-;generalize dz:o+1=I at ao aE|-;generalize dA:R (Z w0)+3=B at ao bp bm a2|-;generalize a3:R (Z w0)=g at ao bn bo|-;have P:=Ab a3;have dB:=Ab (Oa:g<=o/\R (Z w0)<=B);clear dy dz dA a3;go_loopw [8,17] (λv i wr=>∃ (k:Nat) (ns:L4) (ts tt:L2) (ai lv:jF) (fc br:Int),k<=m/\i=jc X k/\Hid (Fc Es (Ju,[],[]) (L.take k)= .ok (CB ns ts,ts,tt)/\T ns=T ts)/\Lm B o ns ts tt ai lv v wr/\Ag wr I #[jc X fc,jc X br] 109/\Ag wr g #[jc X 0,jc X 0] 109/\Below g w0 wr/\B<=R (Z wr)) (λ_ i _=>m-(intOf i).toNat)
 case atStart=>exact⟨0,[],[],[],_,_,0,0,zE _,rfl,Ab ⟨by rw[AaI];rfl,rfl⟩,bp,aE,bn,bo,Oa⟩
 case round=>
  obtain⟨k,ns,ts,tt,ai,lv,fc,br,ey,rfl,ap,a4,ch,aF,aq,ci⟩:=hrel;obtain⟨bt,bu,rfl,_⟩:=Ae a4.types;by_cases bv:k<m
  .have ez:(k:Int)<(m:Int):=Oa;have ar:k<T L:=by rw[Aa cg];exact bv
   have a3:=Aa P;obtain⟨bs,os,rfl,dD,cj,ck,cm,co⟩:=bk.cells k ar;have c0:=(aq.cell (p:=⟨bs,os+k*4,U⟩) (Oa:bs<g)).trans cj;have c1:=(aq.cell (p:=⟨bs,os+k*4+1,U⟩) (Oa:bs<g)).trans ck;have c2:=(aq.cell (p:=⟨bs,os+k*4+2,U⟩) (Oa:bs<g)).trans cm;have c3:=(aq.cell (p:=⟨bs,os+k*4+3,U⟩) (Oa:bs<g)).trans co;have cp:=bk.bC _<|zI ar;clear cj ck cm co dD;obtain⟨l1,bw,cq⟩:=Kc (Aa ap).1;have room:=Ab4 Es L k ar;have cr:∀d∈CB ns ts,1<=d.cS/\d.cS<=4:=cq Ad4;have cs:T tt=DJ Es (L.take k):=by simpa using l1
   have dE:T ts<=k:=by rw[zg]at bw;simp at bw;omega
   obtain⟨aH,ab⟩:=Aa du k ar;rw[<-cs]at aH ab room;have bx:=Ab (show ∀bz,Fb Es (CB ns ts,ts,tt) L[k]= .ok bz->Fc Es (Ju,[],[]) (L.take<|k+1)= .ok bz from λbz e=>by rw[zT ar,NJ,(Aa ap).1];exact e);have au:=Ab (show ∀f,Fb Es (CB ns ts,ts,tt) L[k]= .error f->Fc Es (Ju,[],[]) L= .error f from λf e=>Za Es L _ (k+1)<|by rw[zT ar,NJ,(Aa ap).1];exact e);have a5:=Ab bv;have a6:=Ab (Aa ap).2;have dF:=Aa dw;have aI:=Ab (Oa:T tt+(Bv Es L[k].cond+Bv Es L[k].aG)<=4000);have aj:=Ab (Oa:T ts<=600);have aJ:=Ab cr;clear l1 bw cq cs dE room cr dF ap bv a3;generalize L[k]=s at c0 c1 c2 c3 cp aH ab bx au aI;clear ar;obtain⟨H,nm,cd,O⟩:=s;dsimp only at c0 c1 c2 c3 cp aH ab aI;have C:Ls B g o I (R<|Z wr) ns ts tt ai lv (Y bt (T tt) bu) #[jc X H,jC nm,jc X cd,jc X O] fc br w0<|jK wr<|Yu H nm cd O:=⟨a4.below<|BRN.alloc NLN _,ch.alloc _,aF.alloc _,Ag.new wr _ _,aq.alloc Oa _,⟨ao.1,ao.2.1,ao.2.2,ci⟩⟩
   have dG:B<=R (Z wr):=ci;clear a4 ch aF aq;go_upto_if 23 with fail
   generalize jK wr (Yu H nm cd O)=wz at C|-;generalize R (Z wr)=dH at C dG|-;have dI:=Ab (show T tt+Bv Es cd+Bv Es O<=4000 by have:=Aa aI;omega);have ct:=Ab C;clear C;go_cut [8] (λv dJ=>∃ (D:L4) (z W:L2) (aK aM:jF) (cu cv:Int),Hid (CdR Es ns ts tt ⟨H,nm,cd,O⟩ D z W)/\Ls B g o I dH D z W aK aM v #[jc X H,jC nm,jc X cd,jc X O] cu cv w0 dJ)
   case first=>
    have C:=Aa ct;obtain⟨a2,dK,dL,dN,dO⟩:=BO C.S;obtain hc|⟨y,e,hc,he,cw,cx⟩:=aH
    .subst hc;have ak:=Ab<|show CdR Es ns ts tt ⟨H,nm,-1,O⟩ ns ts tt from⟨rfl,Aa a6,Aa aJ,Ht,by have:=Aa dI;rw[show Bv Es (-1)=0 from rfl]at this;omega,by rw[show Bv Es (-1)=0 from rfl,zX]at ab;exact ab⟩;go_wp2
     go_meet
     exact⟨ns,ts,tt,ai,lv,_,_,ak,C⟩
    .subst hc;have dP:=Ab<|Aa bm o ns ts tt ai lv (Y bt (T tt) bu) (Aa aJ) (Aa a6) Ht (H2<|Aa aI) y e he cw cx;have cy:=Ab (show Ij Es (CB ns ts,ts,tt) ⟨H,nm,y,O⟩=FM H nm (CB ns ts,ts,tt) y (Bz (CB ns ts) e) (DE (CB ns ts) e) by rw[QI he,Aa cf y e he]);have dQ:=Ab<|Jx (k:=(y:Int)) rfl he;rw[Jx (k:=(y:Int)) rfl he]at ab;have al:=a6;have eA:(0 :Int)<=(y:Int):=Oa;clear he cx;go_wp2_with fail
     refine(Aa dP _ (by show Below _ _ _;rw[Aa P];exact C.low) C.M C.cJ).mono ?_;rintro r w2 (⟨a7,dR,aN,rfl,bA,K2,b2⟩|⟨⟨aO,a8⟩,dR,aN,rfl,dS,bB,b2⟩)
     .have aP:=C.tree bA K2 b2;obtain⟨eB,eC,rfl,_⟩:=Ae bA;have bD:=Ab aN;clear bA K2 aN;obtain⟨a9,bE⟩:∃l,l=tt++a7:=⟨_,rfl⟩
      rw[<-bE]at aP|-;have ba:=Ab bE;clear bE;obtain⟨eD,eE⟩:=Bo aP.F;have eF:=λj=>aP.F.frozen j;have eG:=λj=>(aP.F.set 0<|jc X 0).frozen j;have J:=aP.fault 0 0;obtain⟨eH,eI⟩:=Bo J.F;obtain⟨u20,u21,u22,u23,eJ⟩:=BO J.S;obtain⟨ae,bb,bc⟩:=AaB<|Aa bD;obtain⟨eK,rfl,eL,eM⟩:=J.M.readX (i:=y) (t:=ae) (by rw[Aa ba,bc];exact AaA cw bb);have cz:T tt+e.aL=T a9:=by rw[Aa ba,zC,bc,Ms]
      rw[cz]at ab;have bd:=Ab (show T a9+Bv Es O<=4000 by have:=Aa aI;have:=Aa dQ;omega);have dT:=Ab<|Qv (Aa aJ) e ae bb;have aQ:=Ab (show Ij Es (CB ns ts,ts,tt) ⟨H,nm,y,O⟩=FM H nm (CB ns ts,ts,tt) y (.ok ae) a7 by rw[Aa cy,bb,bc]);clear bc bb cz;by_cases ay:H=1
      .subst ay;by_cases av:nm∈(Bn:L4)
       .have bf:=(EM nm Bn 0<|zp 0).2 av;have aw:=Ab (Aa au (8,(y:Int))<|by rw[Fb,Aa aQ,NI<|AaF av];rfl);clear av;go_wp2_with fail
        refine(GK _ _).mono ?_;rintro r cA ⟨rfl,b4⟩;have E:=J.below b4;obtain⟨cB,cC,cD,cE,cF⟩:=BO E.S;generalize AH nm Bn 0=cG at bf|-;have G:=E.below BRN.drew;obtain⟨aR,aS⟩:=Bo G.Rr;have aT:=λj=>G.Rr.frozen j;obtain⟨bF,bG,bH,bI,bJ⟩:=BO G.S;obtain⟨bK,bL⟩:=Bo E.Rr;have bM:=λj=>E.Rr.frozen j;go_wp2_with fail
        go_region
        all_goals
         go_wp2_with fail
         exact Ab3 (f:=(8,y)) E.Rr (by rw[Aa P]) E.low (Aa aw) Ox (.inr rfl) λV g0 g1=>Q0
       .have bf: ¬ (0<=AH nm Bn 0):=λh=>av<|(EM nm Bn 0<|zp 0).1 h;obtain⟨ax,cn,rfl,_⟩:=Ae J.M.aB;by_cases az:nm∈ns
        .have bN:=(EM nm ns 0<|zp 0).2 az;have aw:=Ab (Aa au (8,(y:Int))<|by rw[Fb,Aa aQ,NI<|AaG (Aa al) az];rfl);clear av az;go_wp2_with fail
         refine(GK _ _).mono ?_;rintro r cA ⟨rfl,b4⟩;have E:=J.below b4;obtain⟨cB,cC,cD,cE,cF⟩:=BO E.S;generalize AH nm Bn 0=cG at bf|-;go_wp2_with fail
         refine(My o ax (T ns) cn ns nm _ E.M.dC.2 E.M.row.lt rfl (by have:=Aa al;have:=Aa aj;omega) E.M.dC.1).mono ?_;rintro r af ⟨rfl,b5⟩;have w:=E.below b5;obtain⟨dU,dV,dW,dX,dY⟩:=BO w.S;generalize AH nm ns 0=dZ at bN|-;have G:=w.below BRN.drew;obtain⟨aR,aS⟩:=Bo G.Rr;have aT:=λj=>G.Rr.frozen j;obtain⟨bF,bG,bH,bI,bJ⟩:=BO G.S;obtain⟨bK,bL⟩:=Bo w.Rr;have bM:=λj=>w.Rr.frozen j;go_wp2_with fail
         go_region
         all_goals
          go_wp2_with fail
          exact Ab3 (f:=(8,y)) w.Rr (by rw[Aa P]) w.low (Aa aw) Ox (.inr rfl) λV g0 g1=>Q0
        .have bN: ¬ (0<=AH nm ns 0):=λh=>az<|(EM nm ns 0<|zp 0).1 h;have ag:=Ab<|(Aa aQ).trans<|AaC (st:=(CB ns ts,ts,tt)) (t:=ae) (ys:=a7)<|AaH (Aa al) av az;clear av az;go_wp2_with fail
         refine(GK _ _).mono ?_;rintro r cA ⟨rfl,b4⟩;have E:=J.below b4;obtain⟨cB,cC,cD,cE,cF⟩:=BO E.S;generalize AH nm Bn 0=cG at bf|-;go_wp2_with fail
         refine(My o ax (T ns) cn ns nm _ E.M.dC.2 E.M.row.lt rfl (by have:=Aa al;have:=Aa aj;omega) E.M.dC.1).mono ?_;rintro r af ⟨rfl,b5⟩;have w:=E.below b5;obtain⟨dU,dV,dW,dX,dY⟩:=BO w.S;generalize AH nm ns 0=dZ at bN|-;obtain⟨d0,cl,rfl,_⟩:=Ae w.M.aU;obtain⟨eN,eO⟩:=Bo w.M.row;have G:=w.below BRN.drew;obtain⟨eP,eQ⟩:=Bo G.M.row;obtain⟨eR,eS,eT,eU,eV⟩:=BO G.S;have eW:B<=R (Z af):=w.cJ;have eX:T ns<=1000:=by have:=Aa al;have:=Aa aj;omega
         have eY:T ts<=1000:=Ht;have eZ:o<R (Z af):=w.M.row.lt;have cH:g<=o:=H2 w.cV;have e0:g<=B:=H2 w.cV;go_wp2_with fail
         have cI:jO (jR<|jK af<|jH #[jC nm] 9) B 9 1 (Y ax (T ns) cn) (T ns)<|ns.map Value.string:=(w.M.aB.alloc _).drew;go_region_law (refine step_append_lies _ rfl _ _ 30 rfl B 9 dn (jC jW) 1 16 underlying30 dp dq dr ds rfl Ob (Y ax (T ns) cn) (T ns) (ns.map Value.string) rfl cI ⟨R<|Z af,0,U⟩ 1 1 [jC nm] rfl rfl (DP af _ _ _ rfl) He Ob O2 Oa O0 _ rfl ?_;intro b1 c1 aV cK aa hat e1;have bO:Ag aV o #[Y ax (T ns) cn,Y d0 (T ts) cl] 177:=⟨(aa.block o O0 λe=>Ac w.M.row w.M.aB Ob e.symm).trans (w.M.row.alloc<|jH #[jC nm] 9).out⟩;have d1:jI aV (jA o 0 U)=Q (Y ax (T ns) cn)/\World.frozen? aV (jA o 0 U)=jE:=⟨bO.cell 0,bO.frozen 0⟩;obtain⟨d2,d3⟩:=d1)
         all_goals
          have bP:(jK af<|jH #[jC nm] 9).grownBy aV<|jL<|Value.slice ax (T ns) cn:=⟨aa.os,aa.tape,aa.output,aa.size,aa.block⟩
          obtain⟨_,cL,cN,e2⟩:=w.M.pushN w.cJ cK bP (hat.imp id λe=>by rw[e];show R (Z<|jK af _)=_;simp);have cO:=(((Below.refl g af).alloc Oa<|jH #[jC nm] 9).grown bP O0 λq hq=>H2<|(w.M.aB.lt q hq).1).setCell (p:=(jA o 0 U)) cH<|Y (Q<|jA b1 0 U) (T ns+1) c1;have ah:=w.dM w.M.aB Ob Ob cL cN cO;clear aa bP hat cK cI bO cL cN cO d2 d3;generalize jJ aV (jA o 0 U) (Y (Q (jA b1 0 U)) (T ns+1) c1)=bg at ah|-;obtain⟨e4,e5⟩:=Bo ah.M.row;have e6:B<=R (Z bg):=ah.cJ;go_wp2_with (at_builtin;refine G6 _ rfl _ _ 44 rfl B 3 di (jc X 0) 1 8 underlying44 dj dk dl dm rfl Ob _ _ _ rfl (G1 ah.M.aU _) ⟨R<|Z bg,0,U⟩ 1 1 [jc X ae] rfl rfl ?c1 ?c2 Ob ?c3 ?c4 ?c5 (R (Z bg)+1) Ox ?_)
          case c1=>exact DP _ _ _ _ Ox
          case c2=>intro u hu;simp at hu;subst hu;rfl
          case c3=>unfold maxLen;omega
          case c4=>omega
          case c5=>simp;omega
          intro g7 d4 e7 cP aa hat e8;obtain⟨cQ,cT,cU,A⟩:=ah.M.cM ah.cJ cP aa hat;have cW:=(((Below.refl g bg).alloc Oa<|jH #[jc X ae] 3).grown aa O0 λq hq=>H2<|(ah.M.aU.lt q hq).1).setCell (p:=(jA o 1 U)) cH<|Y (Q<|jA g7 0 U) (T ts+1) d4;have cX:=ah.dM ah.M.aU Ob Ob cT cU cW;obtain⟨e9,fa⟩:=Bo cQ;have fb:=λj=>cQ.frozen j;obtain⟨fd,fe,ff,fg,fh⟩:=BO cX.S;clear aa hat cP cT cU cW;have ak:=Ab<|show CdR Es ns ts tt ⟨1,nm,y,O⟩ (ns++[nm]) (ts++[ae]) a9 from⟨by rw[Aa ag,Aa ba,<-QJ<|Aa al],by rw[zC,zC,Aa al];rfl,λd h=>by rw[<-QJ<|Aa al]at h;exact(zO.1 h).elim (Aa aJ d) (λh=>by simp at h;subst h;exact Aa dT),by rw[zC];have:=Aa aj;simp;omega,Aa bd,ab⟩;go_wp2
          go_meet
          exact⟨_,_,_,_,_,_,_,ak,cX⟩
      .have fi:(H==1)=jE:=zA.2 ay;by_cases bh:ae=1
       .subst bh;have ag:=Ab<|(Aa aQ).trans<|WH (nm:=nm) (st:=(CB ns ts,ts,tt)) (ys:=a7) ay;have ak:=Ab<|show CdR Es ns ts tt ⟨H,nm,y,O⟩ ns ts a9 from⟨by rw[Aa ag,Aa ba],Aa a6,Aa aJ,Ht,Aa bd,ab⟩;clear ay ag;go_wp2
        go_meet
        exact⟨_,_,_,_,_,_,_,ak,J⟩
       .have fj:(ae !=1)=jD:=zV.2 bh;have aw:=Ab (Aa au (9,(y:Int))<|by rw[Fb,Aa aQ,TF ay bh];rfl);clear ay bh;have G:=J.below BRN.drew;obtain⟨aR,aS⟩:=Bo G.Rr;have aT:=λj=>G.Rr.frozen j;obtain⟨bF,bG,bH,bI,bJ⟩:=BO G.S;obtain⟨bK,bL⟩:=Bo J.Rr;have bM:=λj=>J.Rr.frozen j;go_wp2_with fail
        go_region
        all_goals
         go_wp2_with fail
         exact Ab3 (f:=(9,y)) J.Rr (by rw[Aa P]) J.low (Aa aw) Ox (.inr rfl) λV g0 g1=>Q0
     .have bQ:=C.F.below b2 C.cV.2.2.1;have d5:=C.Rr.below b2<|H2 C.cV;have d6:=C.low.trans<|b2.mono<|H2 C.cV;have fk:(aO !=0)=jD:=zV.2 bB;have d7:=Ab bB;have bD:=Ab aN;clear bB aN;have bR:g≠I:=H2 C.cV;obtain⟨cY,cZ⟩:=Bo bQ;have c6:=λj=>bQ.frozen j;have bS:=(d6.setCell (p:=(jA I 0 U)) (by have:=C.cV;show g<=I;omega)<|jc X aO).setCell (p:=(jA I 1 U)) (by have:=C.cV;show g<=I;omega)<|jc X a8;obtain⟨bT,ac,bU,aW⟩:=AaJ bQ d5 bR (jc X aO)<|jc X a8;obtain⟨d8,q1⟩:=Bo bT;obtain⟨d9,ea⟩:=Bo ac;have eb:=λj=>ac.frozen j;obtain⟨ec,ed⟩:=Bo bU;obtain⟨aR,aS⟩:=Bo aW;have aT:=λj=>aW.frozen j;obtain rfl|⟨_,_,_,rfl⟩:=dS
      all_goals
       go_wp2_with fail
       go_region
      all_goals
       go_wp2_with fail
       exact Ab3 (f:=(aO,a8)) ac (by rw[Aa P]) bS (Aa au (aO,a8)<|by rw[Fb,Aa cy,WG<|Aa bD,AaD];rfl) (Aa d7) (by first|exact .inr rfl|exact .inl rfl) λV g0 g1=>Q0
   case rest=>
    obtain⟨D,z,W,aK,aM,cu,cv,ak,A⟩:=hcut;obtain⟨c7,c8,c9,da,bV,db⟩:=Aa ak;dsimp only at bV db;have ag:=Ab c7;have bW:=Ab c8;have ee:=Ab c9;have ef:=Ab da;have bd:=Ab bV;obtain⟨eg,eh,rfl,_⟩:=Ae A.M.types;obtain⟨a2,dK,dL,dN,dO⟩:=BO A.S;clear c7 c8 c9 da bV ak aH ab ct;obtain hg|⟨ad,e3,hg,aA,dc,dd⟩:=db
    .subst hg;have bX:T (D)=T (z):=Aa bW;go_wp2
     go_roundw
     case rel=>exact⟨k+1,D,z,W,aK,aM,_,_,Aa a5,O1,Ab ⟨Aa bx _<|by rw[Fb,Aa ag];exact OF,bX⟩,A.M,A.F,A.Rr,A.low,A.cJ⟩
     case measure=>have:=Aa a5;simp[intOf];omega
    .subst hg;have ei:=Ab<|Aa bm o D z W aK aM (Y eg (T W) eh) (Aa ee) (Aa bW) (H2<|Aa ef) (H2<|Aa bd) ad e3 aA dc dd;have ej:=Ab (show ∀f,Bz (CB D z) e3= .error f->DR Es (CB D z,z,W) ⟨H,nm,cd,ad⟩= .error f from λf h=>by rw[I9 aA];show JP 4 _ _ _ _ (Bz (CB D z) e3) _=_;rw[h];rfl);have ek:=Ab (show ∀t,Bz (CB D z) e3= .ok t->t≠4->DR Es (CB D z,z,W) ⟨H,nm,cd,ad⟩= .error (9,(ad:Int))from λt h el=>by rw[I9 aA];show JP 4 _ _ _ _ (Bz (CB D z) e3) _=_;rw[h,Aa cf ad e3 aA];exact H7 el);have em:=Ab (show Bz (CB D z) e3= .ok 4->DR Es (CB D z,z,W) ⟨H,nm,cd,ad⟩= .ok (CB D z,z,W++DE (CB D z) e3)from λh=>by rw[I9 aA];show JP 4 _ _ _ _ (Bz (CB D z) e3) _=_;rw[h];exact TG);have fl:(0 :Int)<=(ad:Int):=Oa;clear aA dd;go_wp2_with fail
     refine(Aa ei _ (by show Below _ _ _;rw[Aa P];exact A.low) A.M A.cJ).mono ?_;rintro r fm (⟨en,eo,aX,rfl,bY,de,b3⟩|⟨⟨aY,bi⟩,eo,aX,rfl,ep,bZ,b3⟩)
     .have aZ:=A.tree bY de b3;obtain⟨fn,fo,rfl,_⟩:=Ae bY;have b0:=Ab aX;clear bY de aX;obtain⟨eq,b6⟩:∃l,l=W++en:=⟨_,rfl⟩
      rw[<-b6]at aZ|-;have df:=Ab b6;clear b6;obtain⟨fp,fq⟩:=Bo aZ.F;have fr:=λj=>aZ.F.frozen j;have fs:=λj=>(aZ.F.set 0<|jc X 0).frozen j;have K:=aZ.fault 0 0;obtain⟨ft,fu⟩:=Bo K.F;obtain⟨u30,u31,u32,u33,fv⟩:=BO K.S;obtain⟨a0,aC,b7⟩:=AaB<|Aa b0;obtain⟨fw,rfl,gc,fx⟩:=K.M.readX (i:=ad) (t:=a0) (by rw[Aa df,b7];exact AaA dc aC);have er:=Ab b7;have dg:=Ab aC;clear b7 aC;by_cases aD:a0=4
      .have es:=Ab (Aa em<|by rw[<-aD];exact Aa dg);have bX:T (D)=T (z):=Aa bW;have et:(a0 !=4)=jE:=by rw[aD];rfl
       clear aD;go_wp2
       go_roundw
       case rel=>exact⟨k+1,D,z,eq,aK,aM,_,_,Aa a5,O1,Ab ⟨Aa bx _<|by rw[Fb,Aa ag,Aa df,Aa er];exact Aa es,bX⟩,K.M,K.F,K.Rr,K.low,K.cJ⟩
       case measure=>have:=Aa a5;simp[intOf];omega
      .have aC:=Aa dg;have et:(a0 !=4)=jD:=zV.2 aD;have aw:=Ab (Aa au (9,(ad:Int))<|by rw[Fb,Aa ag];exact Aa ek a0 aC aD);clear aD aC;have G:=K.below BRN.drew;obtain⟨aR,aS⟩:=Bo G.Rr;have aT:=λj=>G.Rr.frozen j;obtain⟨bF,bG,bH,bI,bJ⟩:=BO G.S;obtain⟨bK,bL⟩:=Bo K.Rr;have bM:=λj=>K.Rr.frozen j;go_wp2_with fail
       go_region
       all_goals
        go_wp2_with fail
        exact Ab3 (f:=(9,ad)) K.Rr (by rw[Aa P]) K.low (Aa aw) Ox (.inr rfl) λV g0 g1=>Q0
     .have b8:=A.F.below b3 A.cV.2.2.1;have bj:=A.Rr.below b3<|H2 A.cV;have eu:=A.low.trans<|b3.mono<|H2 A.cV;have fy:(aY !=0)=jD:=zV.2 bZ;have ev:=Ab bZ;have b0:=Ab aX;clear bZ aX;have bR:g≠I:=H2 A.cV;obtain⟨cY,cZ⟩:=Bo b8;have c6:=λj=>b8.frozen j;have bS:=(eu.setCell (p:=(jA I 0 U)) (by have:=A.cV;show g<=I;omega)<|jc X aY).setCell (p:=(jA I 1 U)) (by have:=A.cV;show g<=I;omega)<|jc X bi;obtain⟨bT,ac,bU,aW⟩:=AaJ b8 bj bR (jc X aY)<|jc X bi;obtain⟨d8,q1⟩:=Bo bT;obtain⟨d9,ea⟩:=Bo ac;have eb:=λj=>ac.frozen j;obtain⟨ec,ed⟩:=Bo bU;obtain⟨aR,aS⟩:=Bo aW;have aT:=λj=>aW.frozen j;obtain rfl|⟨_,_,_,rfl⟩:=ep
      all_goals
       go_wp2_with fail
       go_region
      all_goals
       go_wp2_with fail
       exact Ab3 (f:=(aY,bi)) ac (by rw[Aa P]) bS (Aa au (aY,bi)<|by rw[Fb,Aa ag];exact Aa ej _<|WG<|Aa b0) (Aa ev) (by first|exact .inr rfl|exact .inl rfl) λV g0 g1=>Q0
  .have e:k=m:=Oa;subst e;have ew:=Ab (show Fc Es (Ju,[],[]) L= .ok (CB ns ts,ts,tt) by rw[<-(Aa ap).1,<-Aa cg,z2]);obtain⟨cY,cZ⟩:=Bo aF;have c6:=λj=>aF.frozen j;have bj:=aF.set 0<|jc X 0;have f1:=λj=>bj.frozen j;have ac:=bj.set 1<|jc X 0;have ex:jI (jJ (jJ wr (jA g 0 U)<|jc X 0) (jA g 1 U)<|jc X 0) (jA g 0 U)=Q (jc X 0):=ac.cell 0;have s1:jI (jJ (jJ wr (jA g 0 U)<|jc X 0) (jA g 1 U)<|jc X 0) (jA g 1 U)=Q (jc X 0):=ac.cell 1;go_wp2_with fail
   refine G2 (v:= jQ #[Y bt (T tt) bu,jP<|Q<|jA o 0 U,jM #[jc X 0,jc X 0]]) (by simp[results,results62,go_sem,ex,s1]) rfl (.inl ⟨B,o,ns,ts,tt,ai,lv,_,Aa ew,(Aa ap).2,rfl,?_,?_,?_⟩)
   .exact(a4.set (jA g 0 U) _ (Oa:g<B) (Oa:g≠o)).set (jA g 1 U) _ (Oa:g<B) (Oa:g≠o)
   .rw[Aa P];exact(Aa dB).1
   .show Below _ _ _;rw[Aa P];exact(aq.setCell (p:=(jA g 0 U)) (zy g) _).setCell (p:=(jA g 1 U)) (zy g) _
def Mt (v v':jF):Prop:=(v= .nilIface/\v'= .nilIface)\/∃t u t' u',v= .iface t u/\v'= .iface t' u'
def rvX (D:M8) (x:Nd):Nd:=if x.op=5 then (match J8 D x.text with
 |some d=>⟨if d.isLet then 7 else 6,d.num,⟨#[]⟩,[],[]⟩
 |none=>⟨6,0,⟨#[]⟩,[],[]⟩)else x
theorem Aef {l:L4}(h:T l=0):l=[]:=S4
def YE (N:L6) (L:L9) (r:CkR):Prop:=
 (GM N L=jE/\r= .error (10,0))\/(GM N L=jD/\∃Es:L8,T Es=T N/\(∀j,(h:j<T Es)->AZ N j Es[j])/\r=match Fc Es (Ju,[],[]) L with
  |.error f=> .error f
  |.ok st=> .ok (N.map<|rvX st.1,L,st.2.2))
theorem Aeg {a:L8}(m:T Es=T N)(n:T a=T N)(l:∀j,(h:j<T Es)->AZ N j Es[j])(hF:∀j,(h:j<T a)->AZ N j a[j]):∀(L:L9) (st:Cs),Fc Es st L=Fc a st L:=by
 have o:∀(k:Int),(BU Es k=U/\BU a k=U)\/∃e f,BU Es k=Q e/\BU a k=Q f/\e.pos=f.pos/\∀b,Bz b e=Bz b f/\DE b e=DE b f:=λk=>by
  unfold BU;by_cases d:k= -1
  .grind
  .rw[H7 d,H7 d];by_cases p:k.toNat<T N
   .have l1:k.toNat<T Es:=Oa;have i:k.toNat<T a:=Oa;refine .inr ⟨_,_,zM l1,zM i,?_,λb=>(l _ l1).cY (hF _ i) b⟩
    grind [Ex.pos,AZ.pos]
   grind
 have q:∀st s,Fb Es st s=Fb a st s:=λst s=>by
  have c:Ij Es st s=Ij a st s:=by
   simp only[Ij,OD]
   grind
  have g:∀st,DR Es st s=DR a st s:=λst=>by
   simp only[DR,IF]
   grind
  grind [Fb]
 intro L
 induction L<;>grind [Fc]
theorem YE.bH {r q:CkR}(h:YE N L r)(k:YE N L q):r=q:=by
 obtain⟨a,rfl⟩|⟨a,Es,c,h3,rfl⟩:=h
 .obtain⟨_,rfl⟩|⟨b,_⟩:=k
  all_goals grind
 .obtain⟨b,_⟩|⟨_,d,f,g,rfl⟩:=k
  all_goals grind [Aeg]
theorem WL:∀{os:N9} {f:Nat} {K:L2},Ed f os= .ok K->∀o∈os,∃t,o= .ok t
 |.error c ::_,f,K,h,o,ho=>Qy
 |.ok t ::r,f,K,h,o,ho=>by
  obtain⟨b,a,_⟩:=NG h;obtain e|e:=zh.1 ho
  .grind
  .exact WL a o e
theorem AaK {c:Nat}{e:Ex}{a:M8}(h:Aed Es c e)(ht:Bz a e= .ok t)(b:c<=j)(d:j<c+e.aL):∃t,Ge Es a j= .ok t:=by
 have hs:=h a;rw[Gh,ht]at hs;exact WL hs _<|zc.2 ⟨j,by rw[List.mem_range'_1];exact⟨b,d⟩,rfl⟩
theorem Aeh {st b:Cs}(h:Ij Es st s= .ok b):st.1<+:b.1/\∀(a:Nat) (e:Ex),s.cond=a->Es[a]? =Q e->∃t,Bz st.1 e= .ok t:=by
 obtain⟨d,nm,cd,f⟩:=s;refine⟨?_,λa e hc he=>?_⟩
 .simp only[Ij,OD]at h;cases c:BU Es cd with
  |none=>grind
  |some e=>
    rw[c]at h;simp only[FM]at h;split at h
    .grind [UR]
    .obtain⟨_,rfl⟩:=I6 h
     grind
 .dsimp only at hc;subst hc;rw[QI he]at h;unfold FM at h;split at h
  .grind [UR]
  .exact⟨_,(I6 h).1⟩
theorem Ab7 {st b:Cs}(h:DR Es st s= .ok b):b.1=st.1/\∀(a:Nat) (e:Ex),s.aG=a->Es[a]? =Q e->∃t,Bz st.1 e= .ok t:=by
 obtain⟨f,nm,cd,c⟩:=s;refine⟨?_,λa e hc he=>?_⟩
 .simp only[DR,IF]at h;cases d:BU Es c with
  |none=>grind
  |some e=>
    rw[d]at h;obtain⟨_,rfl⟩:=I6 h;rfl
 .dsimp only at hc;subst hc;rw[I9 he]at h;exact⟨_,(I6 h).1⟩
theorem Kd {Es:L8}{L:L9}(hs:LK Es L):∀k,k<=T L->∀{st:Cs},Fc Es (Ju,[],[]) (L.take k)= .ok st->∀j,j<DJ Es (L.take k)->∃a t,a<+:st.1/\Ge Es a j= .ok t
 |0,_,st,h,j,hj=>by simp[DJ]at hj
 |k+1,hk,st,h,j,hj=>by
  have d:k<T L:=Oa;obtain⟨s1,s2⟩:=hs k d;have ec:∀(A:L9) (s:St),DJ Es (A++[s])=DJ Es A+(Bv Es s.cond+Bv Es s.aG):=λA s=>by simp[DJ]
  rw[zT d]at h hj;rw[NJ]at h;rw[ec]at hj;cases h0:Fc Es (Ju,[],[]) (L.take k)with
  |error f=>rw[h0]at h;cases h
  |ok st0=>
    rw[h0]at h
    change (Ij Es st0 L[k]).bind (λs1=>DR Es s1 L[k])= .ok st at h
    cases b:Ij Es st0 L[k]with
    |error f=>rw[b]at h;cases h
    |ok g=>
      rw[b]at h
      change DR Es g L[k]= .ok st at h
      obtain⟨l,c1⟩:=Aeh b;obtain⟨m,c2⟩:=Ab7 h;by_cases q1:j<DJ Es (L.take k)
      .obtain⟨a,t,n,ht⟩:=Kd hs k Oa h0 j q1
       grind
      .by_cases q2:j<DJ Es (L.take k)+Bv Es L[k].cond
       .obtain e0|⟨c,e,e0,he,hc,i⟩:=s1
        .grind [Bv]
        .obtain⟨t,ht⟩:=c1 c e e0 he
         grind [AaK,Jx]
       .obtain e0|⟨c,e,e0,he,hc,i⟩:=s2
        .grind [Bv]
        .obtain⟨t,ht⟩:=c2 c e e0 he
         grind [AaK,Jx]
theorem Zg (h:GM N L=jD)(b:T Es=T N)(a:∀j,(h:j<T Es)->AZ N j Es[j]){st:Cs}(hc:Fc Es (Ju,[],[]) L= .ok st){j:Nat}(hx:N[j]? =Q x)(k:x.op=5):(J8 st.1 x.text).isSome:=by
 have g:j<T N:=(zP.1 hx).1;obtain⟨c,t,⟨E,l⟩,ht⟩:=Kd (TE h b a) (T L) NLN (by rw[z2];exact hc) j (by rw[z2,NH h b a];exact g);have f:j<T Es:=Oa;rw[Ge,zM f]at ht;have hi:=a j f;have e:Es[j]= .name j x.text:=by grind [AZ.cC]
 rw[e]at ht
 change cR (Bz c<|.name j x.text)= .ok t at ht
 rw[Bz]at ht;cases i:J8 c x.text with
 |none=>rw[i]at ht;cases ht
 |some d=>grind [Jv]
noncomputable def PA (ns:L4) (x:Nd):Nd:=if x.op=5 then (if AH x.text Bn 0<0 then ⟨7,AH x.text ns 0,⟨#[]⟩,x.aB,x.aD⟩else ⟨6,AH x.text Bn 0,⟨#[]⟩,x.aB,x.aD⟩)else x
theorem AiR (c:T ns=T ts)(a:Bq x=jD)(hs:x.op=5->(J8 (CB ns ts) x.text).isSome):PA ns x=rvX (CB ns ts) x:=by
 unfold PA rvX;by_cases b:x.op=5
 .rw[H8 b,H8 b];rw[Bq,zF,zG]at a;obtain⟨g,a⟩:=a;rw[H7 Oa,H7 Oa,H7 Oa,H7 Oa,H8 b]at a;simp only[zF,zG]at a;have d:=Aef a.2;have f:x.aD=[]:=by simp_all[List.eq_nil_of_length_eq_zero,BY]
  rw[d,f];have hs:=hs b;rw[CB,Jv]at hs|-;obtain⟨e1,e2⟩|⟨j,_,e1,e2⟩:=Mw x.text
  .rw[e1,H8 Ob,e2];rw[e2]at hs;obtain⟨_,e3⟩|⟨j,t,e3,_,e4⟩:=NE x.text ns ts 0 c
   all_goals grind
  grind
 grind
def NmS (w:jB) (a:L3) (N:L6):Prop:=∀j,j<T N->∀b off,a=Q (jA b off U)->∀an nn cn,jI w ⟨b,off+j*5+3,U⟩=Q (Y an nn cn)->ZS w an cn
theorem Cv.nms {lo n c:Nat}{a:L3}{f i:L7}(h:Cv w lo (Y a n c) N f i)(p:T N=n):NmS w a N:=λj d b q l an nn cn hc=>by
 have m:j<T f:=by rw[h.len];exact d
 have r:j<T i:=by rw[h.bY];exact d
 have o:=Zs N f i j d m r 3 Ob;simp only[nd5,Z3,Z4]at o;have e0:q=0:=by
  obtain⟨_,h0⟩|⟨g,cap,s,hv,_⟩:=h.aN.2
  .omega
  .simp only[Value.slice.injEq]at hv;rw[l]at hv;simp only[Option.some.injEq,Addr.mk.injEq]at hv;exact hv.1.2.1
 subst l e0 p;rw[zY,h.aN.cellAt (g:=b) (n:=T N) (j*5+3) Oa,o]at hc;have k:=h.aB j d m;obtain⟨x,cx,hu⟩:=AA k;rw[hu]at hc k;simp only[Option.some.injEq,Value.slice.injEq]at hc;rw[<-hc.1,<-hc.2.2];exact ZS.bG k
set_option maxHeartbeats 51200000
theorem Ab5 {a:L3}{n c:Nat}(h:IN w a n c N)(hF:∀x∈N,Bq x=jD)(l:∀x∈N,x.num<=9223372036854775807)(m:∀(i:Nat) (x:Nd),N[i]? =Q x->∀k∈x.aD,0<=k/\k<(i:Int)):
  ∃Es:L8,T Es=T N/\(∀j,(h:j<T Es)->AZ N j Es[j])/\∀e∈Es,e.fit w:=by
 have:∀k,k<=T N->∃Es:L8,T Es=k/\(∀j,(h:j<T Es)->AZ N j Es[j])/\∀e∈Es,e.fit w:=by
  intro k
  induction k with
  |zero=>simp_all
  |succ k o=>
    intro s;obtain⟨Es,g,p,q⟩:=o Oa;have d:k<T N:=Oa;have hx:N[k]? =Q N[k]:=zM d;obtain⟨b,t,_,_,an,nn,cn,u,v,y,_,_,_,_,_,r,_⟩:=h.cells k d;obtain⟨e,_,ht,z⟩:=AiQ (w:=w) hx (hF _<|zI d) (m k _ hx) (l _<|zI d) g p q r;refine⟨Es++[e],by simp[g],λj A=>?_,λf B=>?_⟩
    all_goals grind
 simp_all
theorem OG (h:Bq x=jD):T x.aB<=1048576:=by grind [Bq,FN]
theorem okM (h:Bq x=jD)(ht:x.text.size<=1048576):okN (PA ns x)/\(PA ns x).text.size<=1048576:=by
 have b:∀s∈x.aB,s.size<=maxLen:=λs hs=>by
  have a:=h;rw[Bq,zF]at a;have a:=a.2
  repeat' split at a
  all_goals
   first
    |cases a;done
    |simp only[zF,zG]at a;have e:=Aef a.2;rw[e]at hs;cases hs;done
    |simp only[zF,zG]at a;have:=(FN a.1.1).2 s hs;unfold maxLen;omega
 have c:T x.aD<=1048576:=by
  have a:=h;rw[Bq,zF,zG]at a;have a:=a.1;unfold BY at a;omega
 have ok:okN x:=⟨OG h,c,b⟩
 unfold PA;split
 .split
  .exact⟨ok,zE _⟩
  .exact⟨ok,zE _⟩
 grind
def KpW (lo:Nat) (w W:jB):Prop:=∀q,lo<=q->q<R (Z w)->(Z W)[q]? =(Z w)[q]?
def CmF (q:CkR) (lo:Nat) (e:Ending) (w':jB):Prop:=
 (∃f:Int×Int,q= .error f/\e= .returned (jQ #[jM #[Y U 0 0,Y U 0 0,Y U 0 0],jM #[V X f.1,V X f.2]]))\/
 (∃N L T x n cx y m cy z p cz,q= .ok (N,L,T)/\e= .returned (jQ #[jM #[Y x n cx,Y y m cy,Y z p cz],jM #[V X 0,V X 0]])/\(∀x∈N,(-9223372036854775808<=x.num/\x.num<=9223372036854775807)/\ja x.aB<=1048576)/\∀W,KpW lo w' W->(IN W x n cx N/\NmS W x N)/\Po W y m cy L/\AP W z p cz T)
theorem Ze (h:Bq x=jD): 0<=x.num:=by grind [VG,QK]
def CkN (lo mb tb:Nat) (vT:Array jF) (ns:L4) (x:Nd) (u:L3) (cu:Nat) (ku:L3) (ck:Nat) (wr wx:jB):Prop:=∃ (o7 n7:Int) (t7:K9),PA ns x=⟨o7,n7,t7,x.aB,x.aD⟩/\Ag wx mb #[V X o7,V X n7,jC t7,Y u (T x.aB) cu,Y ku (T x.aD) ck] 170/\Ag wx tb vT 70/\jO wx lo 9 1 (Y u (T x.aB) cu) (T x.aB) (x.aB.map Value.string)/\jO wx lo 3 1 (Y ku (T x.aD) ck) (T x.aD) (Ak x.aD)/\Ai wr wx
theorem Qb (a b:L3)(n c m d:Nat)(N:L6)(L:L9)(w:jB)(z:IN w a n c N)(t:Po w b m d L)(cJ:∀x∈N,x.num<=9223372036854775807):
  Calls jZ 55 #[jM #[Y a n c,Y b m d]] w λr w'=>(∃q,YE N L q/\CmF q (R<|Z w) r w')/\Ai w w':=by
 have W:=Ab z.len;have b5:=Ab t.len;have cK:=Ab cJ;obtain⟨dv,dw,dx,dy,dz⟩:=info_parts Zf;have b6:=((Ag.new w #[Y a n c,Y b m d] 106).alloc<|Nx U 0 0 U 0 0 U 0 0).alloc<|jH #[V X 0,V X 0] 109;have RT:=(Ag.new (jK w<|jH #[Y a n c,Y b m d] 106) #[Y U 0 0,Y U 0 0,Y U 0 0] 70).alloc<|jH #[V X 0,V X 0] 109;have bf:=Ag.new (jK (jK w<|jH #[Y a n c,Y b m d] 106)<|Nx U 0 0 U 0 0 U 0 0) #[V X 0,V X 0] 109;simp only[G0]at RT bf;have av:=((AE w<|jH #[Y a n c,Y b m d] 106).alloc Ox<|Nx U 0 0 U 0 0 U 0 0).alloc O0<|jH #[V X 0,V X 0] 109;have bg:=z.below av NLN;have bh:=t.below av NLN;have b7:=Ab z;have cL:=Ab t;clear z t cJ;have dA:∃cM,cM=jK (jK (jK w<|jH #[Y a n c,Y b m d] 106)<|Nx U 0 0 U 0 0 U 0 0) (jH #[V X 0,V X 0] 109):=⟨_,rfl⟩
 go_enter func55,ntmps55
 go_wp2_with fail
 obtain⟨cM,cN⟩:=dA;rw[<-cN]at b6 RT bf av bg bh|-;clear cN;refine(NK _ _ _ _ _ _ N L _ bg bh).mono ?_;rintro r w2 ⟨rfl,ag⟩;have cO:=bg.below ag NLN;have dB:=bh.below ag NLN;have b8:=b6.aA ag NLN;have aw:=RT.aA ag NLN;have ah:=bf.aA ag NLN;have aK:=av.trans<|ag.mono av.size;clear bg bh b6 RT bf av ag;cases aL:GM N L with
 |false=>
  have aa:=Ab aL;clear aL;obtain⟨ab,ac,ad,_⟩:=Ia aw;have ae:=λk=>aw.frozen k;obtain⟨u0,u1⟩:=Bo ah;have b9:=λk=>ah.frozen k;go_wp2_with fail
  have ca:=((((aw.set 0<|Y U 0 0).set 1<|Y U 0 0).set 2<|Y U 0 0).aF (p:=⟨R (Z w)+1+1,0,U⟩) P4<|V X 10).aF (p:=⟨R (Z w)+1+1,1,U⟩) P4<|V X 0;have cb:=((((ah.aF (p:=⟨R (Z w)+1,0,U⟩) P8<|Y U 0 0).aF (p:=⟨R (Z w)+1,1,U⟩) P8<|Y U 0 0).aF (p:=⟨R (Z w)+1,2,U⟩) P8<|Y U 0 0).set 0<|V X 10).set 1<|V X 0;have cc:=((((aK.setCell (p:=⟨R (Z w)+1,0,U⟩) (zU _)<|Y U 0 0).setCell (p:=⟨R (Z w)+1,1,U⟩) (zU _)<|Y U 0 0).setCell (p:=⟨R (Z w)+1,2,U⟩) (zU _)<|Y U 0 0).setCell (p:=⟨R (Z w)+1+1,0,U⟩) P7<|V X 10).setCell (p:=⟨R (Z w)+1+1,1,U⟩) P7<|V X 0;obtain⟨e0,e1,e2,_⟩:=Ia ca;obtain⟨g0,g1⟩:=Bo cb;exact G2 (v:= jQ #[jM #[Y U 0 0,Y U 0 0,Y U 0 0],jM #[V X 10,V X 0]]) (by simp[results,results55,go_sem,e0,e1,e2,g0,g1]) rfl ⟨⟨_,.inl ⟨Aa aa,rfl⟩,.inl ⟨(10,0),rfl,rfl⟩⟩,cc⟩
 |true=>
  have aa:=Ab aL;have C:=Ab<|QF aL;clear aL;obtain⟨Es,aM,aO,_⟩:=Ab5 cO (Aa C).bK (Aa cK) (Aa C).aD;have cd:=Ab (MA a b n c m d N L (λx hx=>fdB<|(Aa C).bK x hx) w2 cO dB Es (by rw[aM,Aa W]) aO (by rw[<-Aa W];exact(Aa C).n) (by rw[<-Aa b5];exact(Aa C).m) (TE (Aa aa) aM aO)<|by rw[NH (Aa aa) aM aO];exact(Aa C).n);have bi:=Ab aM;have bj:=Ab aO;obtain⟨dC,dD⟩:=Bo b8;clear aM aO;go_wp2_with fail
  refine(Aa cd).mono ?_;rintro r g (⟨B,bk,ns,ts,tt,eo,lv,ep,aP,bl,rfl,ai,eq,hb3⟩|⟨f,aP,rfl,dE,hb3⟩)
  .have aj:=Ab aP;have cP:=Ab bl;clear aP bl cd;obtain⟨F,G,rfl,_⟩:=Ae ai.types;obtain⟨ce,cn,rfl,dF⟩:=ai.nmsX;have cQ:=b8.aA hb3 NLN;have cf:=aw.aA hb3 NLN;have bm:=ah.aA hb3 NLN;have K:=aK.trans<|hb3.mono aK.size;have dG:R (Z w)+1+1<R (Z w2):=ah.lt;have er:=hb3.size;clear b8 aw ah dC dD;have aQ:=(AE g<|jH #[V X 0,V X 0] 109).alloc Ox<|Nx U 0 0 U 0 0 F (T tt) G;have ak:=Ag.new (jK g<|jH #[V X 0,V X 0] 109) #[Y U 0 0,Y U 0 0,Y F (T tt) G] 70;simp only[G0]at ak;have cg:=(Aa cL).below (K.trans<|aQ.mono K.size) NLN;have ch:∃ax,ax=jK (jK g<|jH #[V X 0,V X 0] 109) (Nx U 0 0 U 0 0 F (T tt) G):=⟨_,rfl⟩
   have q1:jI (jK (jK g<|jH #[V X 0,V X 0] 109)<|Nx U 0 0 U 0 0 F (T tt) G) ⟨R<|Z w,1,U⟩=Q (Y b m d):=(cQ.aA aQ NLN).cell 1;have es:m<=600:=by rw[<-Aa b5];exact(Aa C).m
   go_wp2_with (at_builtin;refine LM rfl _ _ rfl _ _ 0 [] rfl (World.ownsRow_nil _ (R (Z g)+1+1) _ _) b m d L rfl cg Oa Ox ?_)
   intro et aR bn aS;obtain⟨ax,ay⟩:=ch;have eu:R (Z ax)=R (Z g)+1+1:=by rw[ay];simp
   rw[<-ay]at aQ ak cg aS q1;clear ay q1;obtain⟨D,E,rfl,_⟩:=Ae bn;have ci:=ak.below aS Oa;obtain⟨cS,s1,s2,_⟩:=Ia ci;have cT:Ai g aR:=aQ.trans<|aS.mono Oa;have ev:R (Z g)+1+1<=R (Z aR):=H2 aS.size;have cU:=ci.set 1<|Y D m E;have af:=cT.setCell (p:=⟨R (Z g)+1,1,U⟩) (zU _)<|Y D m E;have bo:=Ah bn ⟨R (Z g)+1,1,U⟩ (Y D m E) (λq hq=>by have:=(bn.lt q hq).1;show q≠R (Z g)+1;omega);have dH:jI (jJ aR ⟨R (Z g)+1,1,U⟩<|Y D m E) ⟨R<|Z w,0,U⟩=Q (Y a n c):=(cQ.aA af NLN).cell 0;have dI:∃A,A=jJ aR ⟨R (Z g)+1,1,U⟩ (Y D m E):=⟨_,rfl⟩
   go_wp2_with fail
   obtain⟨A,cj⟩:=dI;have dJ:R (Z A)=R (Z aR):=by rw[cj];simp
   rw[<-cj]at cU af bo|-;clear cj dH cS s1 s2 ci bn aS cT ak aQ cg;have ew:n<=4000:=by rw[<-Aa W];exact(Aa C).n
   have ex:=Ab<|(Aa b7).below (K.trans<|af.mono K.size) NLN;have dK:Ai w A:=K.trans<|af.mono K.size;have dL:=Cv.nil A<|R<|Z A;have ey:R (Z w)+1+1<R (Z g):=Oa;go_loopw [41] (λi wr=>∃ (k:Nat) (bp:jF) (nw br:L7),k<=n/\i=V X k/\Ag wr (R (Z g)+1) #[bp,Y D m E,Y F (T tt) G] 70/\Hid (Cv wr (R<|Z A) bp ((N.take k).map<|PA ns) nw br)/\Below (R (Z g)+1) A wr/\Hid (∀q,q<R (Z A)->q≠R (Z g)+1->(Z wr)[q]? =(Z A)[q]?)) (λi _=>n-(intOf i).toNat)
   case atStart=>exact⟨0,Y U 0 0,[],[],Oa,rfl,cU,Ab dL,BRN,Ab λ_ _ _=>rfl⟩
   case round=>
    obtain⟨k,bp,nw,br,bs,rfl,bt,az,aT,bu⟩:=hrel;have cV:Ai w wr:=dK.trans<|aT.mono Oa;have zW:=aT.size;by_cases ck:k<n
    .have ez:(k:Int)<(n:Int):=Oa;have bv:k<T N:=by rw[Aa W];exact ck
     obtain⟨eA,eB,dM,eC,an,nn,bw,bx,bz,bA,c0,c1,c2,c3,c4,bB,cl⟩:=((Aa b7).below cV NLN).cells k bv;have cm:=Ab<|(Aa C).bK _<|zI bv;have cW:=Ab (show(N.take<|k+1).map (PA ns)=(N.take k).map (PA ns)++[PA ns N[k]] by rw[zT bv,zk];rfl);have bD:=Ab (show T ((N.take k).map<|PA ns)=k by rw[zN,zg];omega);have bE:=Ab (show jO wr (R<|Z A) 170 5 bp k (Yv ((N.take k).map<|PA ns) nw br) by have:=(Aa az).aN;rwa[Aa bD]at this);obtain⟨J,M,rfl,_⟩:=Ae<|Aa bE;have cX:=Ab ck;generalize N[k]=x at c0 c1 c2 bB cl cm cW;have dN:nn<=1048576:=by rw[bB.len];exact OG<|Aa cm
     have aU:=AE wr<|EQ x.op x.num x.text an nn bw bx bz bA;have cY:=Ab<|Zd x an nn bw bx bz bA _ (bB.below aU NLN) (cl.below aU NLN) dN;have co:=Ag.new wr #[V X x.op,V X x.num,jC x.text,Y an nn bw,Y bx bz bA] 170;have dO:∃aC,aC=jK wr (EQ x.op x.num x.text an nn bw bx bz bA):=⟨_,rfl⟩
     clear ck bv bB cl;rw[dM];go_wp2_with fail
     refine(Aa cY).mono ?_;rintro r h ⟨⟨u,l,o,s,rfl,bF,bG⟩,bH⟩;obtain⟨aC,cZ⟩:=dO;rw[<-cZ]at aU co bF bG bH;clear cZ cY c0 c1 c2 c3 c4;have c6:=co.aA bH NLN;have aE:=aU.trans<|bH.mono aU.size;have dP:=c6.alloc<|EQ x.op x.num x.text u (T x.aB) l o (T x.aD) s;have al:=Ag.new h #[V X x.op,V X x.num,jC x.text,Y u (T x.aB) l,Y o (T x.aD) s] 170;have O:=(bt.aA aE NLN).alloc<|EQ x.op x.num x.text u (T x.aB) l o (T x.aD) s;have I:=aE.alloc aE.size<|EQ x.op x.num x.text u (T x.aB) l o (T x.aD) s;have bI:=Aj bF (AE h<|EQ x.op x.num x.text u (T x.aB) l o (T x.aD) s) NLN;have bJ:=Aj bG (AE h<|EQ x.op x.num x.text u (T x.aB) l o (T x.aD) s) NLN;obtain⟨cp,cq,cr,cs,ct⟩:=Cm dP;obtain⟨m0,aV,aW,aX,aY⟩:=Cm al;have bL:=λk=>al.frozen k;obtain⟨ab,ac,ad,_⟩:=Ia O;have ae:=λk=>O.frozen k;have eD:R (Z wr)<R (Z aC)/\R (Z aC)<=R (Z h):=⟨co.lt,bH.size⟩
     go_upto_if 49 with fail
     go_cut [] (λdQ=>Hid<|CkN (R<|Z aC) (R<|Z h) (R (Z g)+1) #[Y J k M,Y D m E,Y F (T tt) G] ns x u l o s wr dQ)
     case first=>
      by_cases h5:x.op=5
      .have e5:(x.op==5)=jD:=zD.2 h5;have dR:=Ab h5;have c8:R (Z wr)≠R (Z h):=Oa;have bO:R (Z g)+1≠R (Z h):=Oa;have bP:R (Z wr)<=R (Z h):=Oa;have cu:=Ag.new h #[V X 6,V X x.num,jC ⟨#[]⟩,Y u (T x.aB) l,Y o (T x.aD) s] 170;have bQ:=c6.alloc<|jH #[V X 6,V X x.num,jC ⟨#[]⟩,Y u (T x.aB) l,Y o (T x.aD) s] 170;have aG:=(bt.aA aE NLN).alloc<|jH #[V X 6,V X x.num,jC ⟨#[]⟩,Y u (T x.aB) l,Y o (T x.aD) s] 170;have bR:=aE.alloc aE.size<|jH #[V X 6,V X x.num,jC ⟨#[]⟩,Y u (T x.aB) l,Y o (T x.aD) s] 170;have bS:∀q,jL (Value.slice u (T x.aB) l)=Q q->q≠R (Z h):=λq hq=>H2<|(bF.lt q hq).2;have bT:∀q,jL (Value.slice o (T x.aD) s)=Q q->q≠R (Z h):=λq hq=>H2<|(bG.lt q hq).2;have ao:=Aj bF (AE h<|jH #[V X 6,V X x.num,jC ⟨#[]⟩,Y u (T x.aB) l,Y o (T x.aD) s] 170) NLN;have ap:=Aj bG (AE h<|jH #[V X 6,V X x.num,jC ⟨#[]⟩,Y u (T x.aB) l,Y o (T x.aD) s] 170) NLN;obtain⟨cv,cw,i2,cx,cy⟩:=Cm bQ;have dS:∃c9,c9=jK h (jH #[V X 6,V X x.num,jC ⟨#[]⟩,Y u (T x.aB) l,Y o (T x.aD) s] 170):=⟨_,rfl⟩
       clear h5;go_wp2_with fail
       obtain⟨c9,da⟩:=dS;rw[<-da]at cu bQ aG bR ao ap|-;clear da m0 aV aW aX aY bL ab ac ad ae cp cq cr cs ct cv cw i2 cx cy;refine(GK x.text _).mono ?_;rintro r dT ⟨rfl,aq⟩;have bU:=cu.aA aq NLN;have db:=bQ.aA aq NLN;have bV:=aG.aA aq NLN;have dc:=bR.trans (aq.mono bR.size);have dd:=Aj ao aq NLN;have de:=Aj ap aq NLN;clear cu bQ aG bR ao ap aq;obtain⟨m0,aV,aW,aX,aY⟩:=Cm bU;have bL:=λk=>bU.frozen k;obtain⟨ab,ac,ad,_⟩:=Ia bV;have ae:=λk=>bV.frozen k;obtain⟨cp,cq,cr,cs,ct⟩:=Cm db;have df:=Ab (show PA ns x=if AH x.text Bn 0<0 then ⟨7,AH x.text ns 0,⟨#[]⟩,x.aB,x.aD⟩else ⟨6,AH x.text Bn 0,⟨#[]⟩,x.aB,x.aD⟩ by rw[PA,H8<|Aa dR]);by_cases bX:AH x.text Bn 0<0
       .have aZ:=Ab<|(Aa df).trans<|H8 bX;generalize AH x.text Bn 0=H at bX;have a0:=(bU.set 1<|V X H).set 0<|V X 7;have cz:=(db.aF (p:=⟨R<|Z h,1,U⟩) c8<|V X H).aF (p:=⟨R<|Z h,0,U⟩) c8<|V X 7;have a6:=(bV.aF (p:=⟨R<|Z h,1,U⟩) bO<|V X H).aF (p:=⟨R<|Z h,0,U⟩) bO<|V X 7;have P:=(dc.setCell (p:=⟨R<|Z h,1,U⟩) bP<|V X H).setCell (p:=⟨R<|Z h,0,U⟩) bP<|V X 7;have a7:=Ah (Ah dd ⟨R<|Z h,1,U⟩ (V X H) bS) ⟨R<|Z h,0,U⟩ (V X 7) bS;have a8:=Ah (Ah de ⟨R<|Z h,1,U⟩ (V X H) bT) ⟨R<|Z h,0,U⟩ (V X 7) bT;obtain⟨cv,cw,i2,cx,cy⟩:=Cm cz;have dU:∃a9,a9=jJ (jJ dT ⟨R<|Z h,1,U⟩<|V X H) ⟨R<|Z h,0,U⟩ (V X 7):=⟨_,rfl⟩
        go_wp2_with fail
        obtain⟨a9,dg⟩:=dU;rw[<-dg]at a0 cz a6 P a7 a8|-;clear dg m0 aV aW aX aY bL ab ac ad ae cp cq cr cs ct cv cw i2 cx cy;have cA:∀q,q<R (Z g)->(Z a9)[q]? =(Z g)[q]? :=λq hq=>((P.block q Oa).trans<|Aa bu q Oa Oa).trans<|af.block q hq;have dV:bk<R (Z g):=ai.row.lt;have dh:jI a9 (jA bk 0 U)=Q (Y ce (T ns) cn):=(G9 (w:=g)<|cA bk dV).trans<|ai.row.cell 0;have nms:Nms a9 ce ns:=λj ar=>by
         obtain⟨di,dW,z,t,h3⟩:=dF j ar;exact⟨di,dW,z,H2 P.size,(G9 (w:=g)<|cA di t).trans h3⟩
        have dX:T ns<=1048576:=by
         have bY:=(Kc<|Aa aj).2.1;have dY:=Aa cP;have cB:=(Aa C).m;simp at bY;omega
        refine(My bk ce (T ns) cn ns x.text _ dh (H2 P.size) rfl dX nms).mono ?_;rintro r eE ⟨rfl,aH⟩;have cC:=a0.aA aH NLN;have dZ:=a6.aA aH NLN;have d0:=P.trans<|aH.mono P.size;have d1:=Aj a7 aH NLN;have d2:=Aj a8 aH NLN;clear a0 cz a6 P a7 a8 aH cA dh nms;have au:=aZ;generalize AH x.text ns 0=aI at au aZ|-;obtain⟨m0,aV,aW,aX,aY⟩:=Cm cC;have bL:=λk=>cC.frozen k;have d3:=cC.set 1<|V X aI;have d4:=dZ.aF (p:=⟨R<|Z h,1,U⟩) bO<|V X aI;have d5:=d0.setCell (p:=⟨R<|Z h,1,U⟩) bP<|V X aI;have d6:=Ah d1 ⟨R<|Z h,1,U⟩ (V X aI) bS;have d7:=Ah d2 ⟨R<|Z h,1,U⟩ (V X aI) bT;go_wp2
        go_meet
        exact Ab ⟨7,aI,⟨#[]⟩,Aa au,d3,d4,d6,d7,d5⟩
       .have aZ:=Ab<|(Aa df).trans<|H7 bX;have au:=aZ;generalize AH x.text Bn 0=H at bX au aZ;have a0:=bU.set 1<|V X H;have a6:=bV.aF (p:=⟨R<|Z h,1,U⟩) bO<|V X H;have P:=dc.setCell (p:=⟨R<|Z h,1,U⟩) bP<|V X H;have a7:=Ah dd ⟨R<|Z h,1,U⟩ (V X H) bS;have a8:=Ah de ⟨R<|Z h,1,U⟩ (V X H) bT;go_wp2
        go_meet
        exact Ab ⟨6,H,⟨#[]⟩,Aa au,a0,a6,a7,a8,P⟩
      .have e5:(x.op==5)=jE:=zA.2 h5;have d8:=Ab<|show CkN (R<|Z aC) (R<|Z h) (R (Z g)+1) #[Y J k M,Y D m E,Y F (T tt) G] ns x u l o s wr _ from⟨x.op,x.num,x.text,by rw[PA,H7 h5],al,O,bI,bJ,I⟩;clear h5;go_wp2
       go_meet
       exact d8
     case rest=>
      obtain⟨ba,bb,bc,dj,al,O,bI,bJ,I⟩:=Aa hcut;have au:=Ab dj;clear dj hcut cm;generalize wc=aJ at al O bI bJ I|-;obtain⟨m0,aV,aW,aX,aY⟩:=Cm al;obtain⟨ab,ac,ad,_⟩:=Ia O;have ae:=λk=>O.frozen k;have eF:R (Z h)<R (Z aJ):=al.lt;have dk:=Aj (Aa bE) I NLN;go_wp2_with (at_builtin;refine G6 _ rfl _ _ 67 rfl (R<|Z A) 170 dv (jM #[V X 0,V X 0,jC jW,Y U 0 0,Y U 0 0]) 5 80 underlying67 dw dx dy dz rfl Ob _ _ _ rfl (G1 dk _) ⟨R<|Z aJ,0,U⟩ 1 1 [V X ba,V X bb,jC bc,Y u (T x.aB) l,Y o (T x.aD) s] rfl rfl ?c1 ?c2 Ob ?c3 ?c4 ?c5 (R (Z aJ)+1) Ox ?_)
      case c1=>exact Ab6 _ _ _ _ _ _ _ _ Ox
      case c2=>intro v hv;simp at hv;obtain rfl|rfl|rfl|rfl|rfl:=hv<;>rfl
      case c3=>unfold maxLen;omega
      case c4=>omega
      case c5=>simp;omega
      intro g7 c7 bZ dl bd hat eG;have b0:Ai aJ<|jK aJ<|EQ ba bb bc u (T x.aB) l o (T x.aD) s:=BRN.alloc NLN _;have aG:=(O.alloc<|EQ ba bb bc u (T x.aB) l o (T x.aD) s).grown bd λe=>Ac O dk Ob e.symm;obtain⟨cS,s1,s2,_⟩:=Ia aG;have dm:=((Aa az).bM (w':=jK aJ<|EQ ba bb bc u (T x.aB) l o (T x.aD) s) λq z t=>(b0.block q<|zL t I.size).trans<|I.block q t)
      have cD:=(Aa az).bW;have ao:=Aj bI b0 NLN;have ap:=Aj bJ b0 NLN;have dn:=dm.bN (x:=⟨ba,bb,bc,x.aB,x.aD⟩) (u:= Y u (T x.aB) l) (k:= Y o (T x.aD) s) (Fq ao Oa) (Fq ap Oa) (λj ar q hq e=>by have z:=(cD.2.1 j ar q hq).2;have t:=(ao.lt q e).1;omega) (λj ar q hq e=>by have z:=(cD.2.2 j ar q hq).2;have t:=(ap.lt q e).1;omega) (v':= Y (Q<|jA g7 0 U) (k+1) c7) (w2:=bZ) (by rw[Aa bD];have cB:=dl;rw[<-dJ,<-List.map_take]at cB;exact cB) bd;have d9:=aG.set 0<|Y (Q<|jA g7 0 U) (k+1) c7;have dp:∀q,q<R (Z A)->q≠R (Z g)+1->(Z<|jJ bZ ⟨R (Z g)+1,0,U⟩<|Y (Q<|jA g7 0 U) (k+1) c7)[q]? =(Z A)[q]? :=λq z t=>by
       rw[K0 _ _ q _ t,bd.block q (by have:=I.size;simp;omega) λe=>H2<|((Aa bE).lt q e.symm).1,b0.block q<|H2 I.size,I.block q Oa];exact Aa bu q z t
      have cE:Below (R (Z g)+1) A<|jJ bZ ⟨R (Z g)+1,0,U⟩<|Y (Q<|jA g7 0 U) (k+1) c7:=(((aT.trans<|I.mono Oa).alloc (H2 I.size) _).grown bd (by have:=I.size;simp;omega) λq hq=>H2<|((Aa bE).lt q hq).1).setCell (p:=⟨R (Z g)+1,0,U⟩) NLN _;have ea:=Ab (show Cv (jJ bZ ⟨R (Z g)+1,0,U⟩<|Y (Q<|jA g7 0 U) (k+1) c7) (R<|Z A) (Y (Q<|jA g7 0 U) (k+1) c7) ((N.take<|k+1).map<|PA ns) (nw++[Y u (T x.aB) l]) (br++[Y o (T x.aD) s]) by
       rw[Aa cW,Aa au];exact dn.bM λq z t=>K0 _ _ q _ (Oa:q≠R (Z g)+1))
      have eb:=Ab dp;clear dn dm cD ao ap dp bd hat dl;go_wp2
      go_roundw
      case rel=>exact⟨k+1,_,_,_,Aa cX,O1,d9,ea,cE,eb⟩
      case measure=>have:=Aa cX;simp[intOf];omega
    .have e:k=n:=Oa;subst e;obtain⟨J,M,rfl,_⟩:=Ae (Aa az).aN;have bD:=Ab (show T ((N.take k).map<|PA ns)=k by rw[zN,zg];have:=Aa W;omega);have ec:=Ab (show N.take k=N by rw[<-Aa W,z2]);have cF:=(cf.aA af NLN).below aT Oa;have cG:=(bm.aA af NLN).below aT Oa;obtain⟨ed,eH,eI,_⟩:=Ia bt;obtain⟨ab,ac,ad,_⟩:=Ia cF;have ae:=λj=>cF.frozen j;obtain⟨u0,u1⟩:=Bo cG;have b9:=λj=>cG.frozen j;have dq:T ((N.take k).map<|PA ns)=k:=Aa bD;rw[dq]at az ed bt;clear dq;have ee:=((((cF.set 0<|Y J k M).set 1<|Y D m E).set 2<|Y F (T tt) G).aF (p:=⟨R (Z w)+1+1,0,U⟩) P4<|V X 0).aF (p:=⟨R (Z w)+1+1,1,U⟩) P4<|V X 0;have ef:=((((cG.aF (p:=⟨R (Z w)+1,0,U⟩) P8<|Y J k M).aF (p:=⟨R (Z w)+1,1,U⟩) P8<|Y D m E).aF (p:=⟨R (Z w)+1,2,U⟩) P8<|Y F (T tt) G).set 0<|V X 0).set 1<|V X 0;have cE:=((((cV.setCell (p:=⟨R (Z w)+1,0,U⟩) (zU _)<|Y J k M).setCell (p:=⟨R (Z w)+1,1,U⟩) (zU _)<|Y D m E).setCell (p:=⟨R (Z w)+1,2,U⟩) (zU _)<|Y F (T tt) G).setCell (p:=⟨R (Z w)+1+1,0,U⟩) P7<|V X 0).setCell (p:=⟨R (Z w)+1+1,1,U⟩) P7<|V X 0;have dr:∀q,R (Z w2)<=q->(Z<|jJ (jJ (jJ (jJ (jJ wr ⟨R (Z w)+1,0,U⟩<|Y J k M) ⟨R (Z w)+1,1,U⟩<|Y D m E) ⟨R (Z w)+1,2,U⟩<|Y F (T tt) G) ⟨R (Z w)+1+1,0,U⟩<|V X 0) ⟨R (Z w)+1+1,1,U⟩<|V X 0)[q]? =(Z wr)[q]? :=λq z=>by
      have a1:q≠R (Z w)+1:=Oa;have a2:q≠R (Z w)+1+1:=Oa;rw[K0 _ _ q _ a2,K0 _ _ q _ a2,K0 _ _ q _ a1,K0 _ _ q _ a1,K0 _ _ q _ a1]
     have bl:=Aa cP;have ds:=Ab (show ∀y∈N.map (PA ns),okN y/\y.text.size<=1048576 from λy hy=>by
      obtain⟨x,hx,rfl⟩:=zc.1 hy;exact okM ((Aa C).bK x hx)<|(Aa b7).bC x hx)
     have eg:=Ab (show ∀y∈N.map (PA ns),(-9223372036854775808<=y.num/\y.num<=9223372036854775807)/\T y.aB<=1048576 from λy hy=>by
      refine⟨?_,(Aa ds y hy).1.1⟩;obtain⟨x,hx,rfl⟩:=zc.1 hy;have a1:=Ze<|(Aa C).bK x hx;have a2:=Aa cK x hx;have a3:=(Kc<|Aa aj).2.1;have a4:=(Aa C).m;have a5:=QB x.text ns 0<|zp _;have eJ:=QB x.text Bn 0<|zp _;have eK:T (Bn:L4)=6:=rfl;simp only[List.length_nil]at a3;unfold PA;split
      .split<;>dsimp only<;>omega
      .omega)
     have b1:jO wr (R (Z g)+1+1) 113 4 (Y D m E) m<|EC L:=Ad bo λq hq=>Aa bu q (bo.lt q hq).2<|H2<|(bo.lt q hq).1;have cH:=Aj ai.types af NLN;have b2:jO wr B 3 1 (Y F (T tt) G) (T tt)<|Ak tt:=Ad cH λq hq=>Aa bu q (cH.lt q hq).2<|H2<|(ai.types.lt q hq).2;have eL:R (Z w2)<=B:=H2 ai.low;have eh:T tt<=1048576:=by
      have bY:=(Kc<|Aa aj).1;rw[NH (Aa aa) (Aa bi)<|Aa bj]at bY;have dY:=(Aa C).n;simp at bY;omega
     have ei:=Ab (show ∀S:jB,KpW (R<|Z w2) wr S->(IN S J k M (N.map<|PA ns)/\NmS S J (N.map<|PA ns))/\Po S D m E L/\AP S F (T tt) G tt from λS bs=>by
      have cI:=(Aa az).bM (w':=S) λq z t=>bs q Oa t;rw[Aa ec]at cI;exact⟨⟨cI.nds (by rw[zN];exact Aa W) Oa<|Aa ds,cI.nms<|by rw[zN];exact Aa W⟩,FF (Ad b1 λq hq=>bs q (H2<|(b1.lt q hq).1) (b1.lt q hq).2) (Aa b5) Oa (Aa cL).bC,MB (Ad b2 λq hq=>bs q (H2<|(b2.lt q hq).1) (b2.lt q hq).2) rfl eh⟩)
     have ej:=Ab dr;have dt:=Ab (show N.map (PA ns)=N.map (rvX<|CB ns ts)from List.map_congr_left λx hx=>AiR bl ((Aa C).bK x hx) λh5=>by obtain⟨j,ar,ek⟩:=zw hx;exact Zg (Aa aa) (Aa bi) (Aa bj) (Aa aj) (j:=j) (by rw[zM ar,ek]) h5);clear dr b1 b2 cH;go_wp2_with fail
     obtain⟨e0,e1,e2,_⟩:=Ia ee;obtain⟨g0,g1⟩:=Bo ef;exact G2 (v:= jQ #[jM #[Y J k M,Y D m E,Y F (T tt) G],jM #[V X 0,V X 0]]) (by simp[results,results55,go_sem,e0,e1,e2,g0,g1]) rfl ⟨⟨.ok (N.map<|rvX<|CB ns ts,L,tt),.inr ⟨Aa aa,Es,Aa bi,Aa bj,by rw[Aa aj]⟩,.inr ⟨_,_,_,_,_,_,_,_,_,_,_,_,rfl,rfl,by rw[<-Aa dt];exact Aa eg,λS el=>by rw[<-Aa dt];exact Aa ei S λq z t=>(el q Oa<|by simpa using t).trans<|Aa ej q z⟩⟩,cE⟩
  .have aj:=Ab aP;clear aP cd;have cf:=aw.aA hb3 NLN;have bm:=ah.aA hb3 NLN;have K:=aK.trans<|hb3.mono aK.size;have b3:=cf.alloc<|jH #[V X f.1,V X f.2] 109;have b4:=bm.alloc<|jH #[V X f.1,V X f.2] 109;have ak:=Ag.new g #[V X f.1,V X f.2] 109;have du:=K.alloc K.size<|jH #[V X f.1,V X f.2] 109;have eM:(f.1 !=0)=jD:=zV.2 dE;have dG:R (Z w)+1+1<R (Z g):=bm.lt;have ch:∃ax,ax=jK g (jH #[V X f.1,V X f.2] 109):=⟨_,rfl⟩
   obtain⟨em,en⟩:=Bo ak;obtain⟨ab,ac,ad,_⟩:=Ia b3;have ae:=λk=>b3.frozen k;obtain⟨u0,u1⟩:=Bo b4;have b9:=λk=>b4.frozen k;obtain⟨ax,ay⟩:=ch;go_wp2_with fail
   rw[<-ay]at b3 b4 ak du em en ab ac ad ae u0 u1 b9|-;clear ay;go_region
   all_goals
    have ca:=((((b3.set 0<|Y U 0 0).set 1<|Y U 0 0).set 2<|Y U 0 0).aF (p:=⟨R (Z w)+1+1,0,U⟩) P4<|V X f.1).aF (p:=⟨R (Z w)+1+1,1,U⟩) P4<|V X f.2;have cb:=((((b4.aF (p:=⟨R (Z w)+1,0,U⟩) P8<|Y U 0 0).aF (p:=⟨R (Z w)+1,1,U⟩) P8<|Y U 0 0).aF (p:=⟨R (Z w)+1,2,U⟩) P8<|Y U 0 0).set 0<|V X f.1).set 1<|V X f.2;have cc:=(((((du.setCell (p:=⟨R (Z w)+1,0,U⟩) (zU _)<|Y U 0 0).setCell (p:=⟨R (Z w)+1,1,U⟩) (zU _)<|Y U 0 0).setCell (p:=⟨R (Z w)+1,2,U⟩) (zU _)<|Y U 0 0).setCell (p:=⟨R (Z w)+1+1,0,U⟩) P7<|V X f.1).setCell (p:=⟨R (Z w)+1+1,1,U⟩) P7<|V X f.2).drew;go_wp2_with fail
    obtain⟨e0,e1,e2,_⟩:=Ia ca;obtain⟨g0,g1⟩:=Bo cb;exact G2 (v:= jQ #[jM #[Y U 0 0,Y U 0 0,Y U 0 0],jM #[V X f.1,V X f.2]]) (by simp[results,results55,go_sem,e0,e1,e2,g0,g1]) rfl ⟨⟨.error f,.inr ⟨Aa aa,Es,Aa bi,Aa bj,by rw[Aa aj]⟩,.inl ⟨f,rfl,rfl⟩⟩,cc⟩
def toO:Rs->N7
 |.ok t=>Q t
 |.error _=>U
theorem PS (f:Int×Int)(o:N7):toO (ofO f o)=o:=by cases o<;>rfl
theorem VE (r:Rs):(toO r).getD 0=gX r:=by cases r<;>rfl
theorem Aga (h5:∀x∈N,x.op≠5)(q:T ns=T ts){i:Nat}{e:Ex}(t:AZ N i e):AX ts e=toO (Bz (CB ns ts) e)/\Eh ts e=DE (CB ns ts) e:=by
 induction t with
 |int|text|bool|attr|set=>exact⟨rfl,rfl⟩
 |name h b d=>exact H9 b<|h5 _<|zn h
 |@lett i x h b d=>
   have a:AX ts (.lett i x.num)=toO (Bz (CB ns ts)<|.lett i x.num):=by rw[AX,Bz,Ad7 q,PS]
   exact⟨a,by rw[Eh,DE,a,VE]<;>(intros;contradiction)⟩
 |@un i k x e h b d hi t r=>
   obtain⟨c,i2⟩:=r;have a:AX ts (.un i x.op e)=toO (Bz (CB ns ts)<|.un i x.op e):=by
    rw[AX,Bz,c];cases Bz (CB ns ts) e with
    |error f=>rfl
    |ok u=>exact(PS _ _).symm
   exact⟨a,by rw[Eh,DE,i2,a,VE]⟩
 |@bin i k l x e f h b d hi t u j n=>
   obtain⟨c,i2⟩:=j;obtain⟨o,p⟩:=n;have a:AX ts (.bin i x.op e f)=toO (Bz (CB ns ts)<|.bin i x.op e f):=by
    rw[AX,Bz,c,o];cases Bz (CB ns ts) e with
    |error f=>rfl
    |ok u=>cases Bz (CB ns ts) f with
     |error f=>rfl
     |ok v=>exact(PS _ _).symm
   exact⟨a,by rw[Eh,DE,i2,p,a,VE]⟩
 |@ite i k l m x e f g h b d hi t u v j n s=>
   obtain⟨c,i2⟩:=j;obtain⟨o,p⟩:=n;obtain⟨w,y⟩:=s;have a:AX ts (.ite i e f g)=toO (Bz (CB ns ts)<|.ite i e f g):=by
    rw[AX,Bz,c,o,w];cases Bz (CB ns ts) e with
    |error f=>rfl
    |ok u=>cases Bz (CB ns ts) f with
     |error f=>rfl
     |ok v=>cases Bz (CB ns ts) g with
      |error f=>rfl
      |ok z=>exact(PS _ _).symm
   exact⟨a,by rw[Eh,DE,i2,p,y,a,VE]⟩
theorem Ae8 (h5:∀x∈N,x.op≠5){i:Nat}{e f:Ex}(t:AZ N i e)(u:AZ N i f)(ts:L2):AX ts e=AX ts f/\Eh ts e=Eh ts f:=by
 have l:T (ts.map λ_=>jW)=T ts:=Ox;have a:=Aga h5 l t;have b:=Aga h5 l u;have c:=t.cY u<|CB (ts.map λ_=>jW) ts;exact⟨by rw[a.1,b.1,c.1],by rw[a.2,b.2,c.2]⟩
theorem Nn (h:CE N L=jD):∃S,Av (N.map Nd.aD) 0 S (T N)/\Au S=L.flatMap Ao:=by
 simp only[CE,zF,zG]at h;obtain⟨⟨⟨d,⟨f,h3⟩,g⟩,h5⟩,a⟩:=h;obtain⟨S,b,ht⟩:∃S,Fk (N.map Nd.aD) (T N) [] 0=Q S/\Au S=L.flatMap Ao:=by
  rw[GN]at a;cases hq:Fk (N.map Nd.aD) (T N) [] 0 with
  |none=>rw[hq]at a;cases a
  |some S=>rw[hq]at a;exact⟨S,rfl,K8 a⟩
 obtain⟨hF,_⟩:=CZ (T N) (.nil 0) (λp c=>(by cases c)) b;rw[zY]at hF;exact⟨S,hF,ht⟩
theorem NM.noC (a:NM N L):noC L:=λs hs=>by
 obtain q|q|q:=a.stm s hs
 .right;omega
 .right;omega
 .exact .inl q.2
theorem Ku (h:CE N L=jD)(a:T Es=T N)(b:∀j,(h:j<T Es)->AZ N j Es[j]):DJ Es L=T N:=by
 obtain⟨S,hF,ht⟩:=Nn h;exact WF (BQ h).noC hF ht a b
theorem RU (h:CE N L=jD)(a:T Es=T N)(b:∀j,(h:j<T Es)->AZ N j Es[j]):LK Es L:=by
 obtain⟨S,hF,ht⟩:=Nn h;exact QG (BQ h).noC hF ht a b
theorem no5 (h:CE N L=jD):∀x∈N,x.op≠5:=λx hx e=>by
 have:=(BQ h).bK x hx;simp[Bf,Jq,e]at this
theorem Aie {ys:L2}(h:nm ∉ st.1):WT 1 nm st (Q t) ys=Q (st.1++[nm],st.2.1++[t],st.2.2++ys):=by
 unfold WT;rw[H8 rfl];exact H7 h
theorem Adb {ys:L2}(h:nm∈st.1):WT 1 nm st (Q t) ys=U:=by
 unfold WT;rw[H8 rfl];exact H8 h
theorem Agb {a:Int}{ys:L2}(b:a≠1):WT a nm st (Q 1) ys=Q (st.1,st.2.1,st.2.2++ys):=by
 unfold WT;rw[H7 b];exact H8 rfl
theorem Adc {a:Int}{t:Int}{ys:L2}(b:a≠1)(ht:t≠1):WT a nm st (Q t) ys=U:=by
 unfold WT;rw[H7 b];exact H7 ht
theorem Agc (a:Int)(nm:K9)(st:MH)(ys:L2):WT a nm st U ys=U:=by
 unfold WT;split<;>rfl
theorem Add {b:Int}{e:Ex}(he:Es[a]? =Q e):Cw Es st ⟨b,nm,a,c⟩=WT b nm st (AX st.2.1 e) (Eh st.2.1 e):=by
 rw[Cw,H7 (Oa:¬ (a:Int)= -1)];show(match Es[(a:Int).toNat]? with|some e=>_|none=>_)=_
 rw[zS,he]
theorem Aaj {b:Int}{e:Ex}(he:Es[a]? =Q e):Ca Es st ⟨b,nm,c,a⟩=ckG st (AX st.2.1 e) (Eh st.2.1 e):=by
 rw[Ca,H7 (Oa:¬ (a:Int)= -1)];show(match Es[(a:Int).toNat]? with|some e=>_|none=>_)=_
 rw[zS,he]
def RlO (o:L0 MH) (r:Except (Int×Int) Cs):Prop:=(∃ns ts tt,T ns=T ts/\o=Q (Bn++ns,ts,tt)/\r= .ok (CB ns ts,ts,tt))\/(o=U/\∃f,r= .error f)
def Alk (Es:L8):Prop:=∀(mm:Nat) (e:Ex),Es[mm]? =Q e->∀(ns:L4) (ts:L2),T ns=T ts->AX ts e=toO (Bz (CB ns ts) e)/\Eh ts e=DE (CB ns ts) e
theorem Agd (T:Alk Es)(a:ja ns=ja ts){k:Nat}(hs:Ii Es k s.cond):RlO (Cw Es (Bn++ns,ts,tt) s)<|Ij Es (CB ns ts,ts,tt) s:=by
 obtain⟨c,nm,cd,i⟩:=s;obtain hc|⟨d,e,hc,he,_⟩:=hs<;>dsimp only at hc<;>subst hc
 .exact .inl ⟨ns,ts,tt,a,H8 rfl,rfl⟩
 .obtain⟨g,i2⟩:=T d e he ns ts a;rw[Add he,QI he];dsimp only;rw[g,i2];cases Bz (CB ns ts) e with
  |error f=>exact .inr ⟨Agc _ _ _ _,f,AaD⟩
  |ok t=>
    by_cases b:c=1
    .subst b;by_cases hm:nm∈Bn++ns
     .exact .inr ⟨Adb hm,_,NI<|(zO.1 hm).elim AaF<|AaG a⟩
     .exact .inl ⟨ns++[nm],ts++[t],_,by simp[a],(Aie hm).trans<|by rw[zl],by rw[AaC<|AaH a (λh=>hm<|Z5 _ h) λh=>hm<|Z0 _ h,QJ a]⟩
    .by_cases ht:t=1
     .subst ht;exact .inl ⟨ns,ts,_,a,Agb b,WH b⟩
     .exact .inr ⟨Adc b ht,_,TF b ht⟩
theorem Ade (T:Alk Es)(a:ja ns=ja ts){k:Nat}(hs:Ii Es k s.aG):RlO (Ca Es (Bn++ns,ts,tt) s)<|DR Es (CB ns ts,ts,tt) s:=by
 obtain⟨d,nm,cd,g⟩:=s;obtain hc|⟨b,e,hc,he,_⟩:=hs<;>dsimp only at hc<;>subst hc
 .exact .inl ⟨ns,ts,tt,a,H8 rfl,OF⟩
 .obtain⟨c,i2⟩:=T b e he ns ts a;rw[Aaj he,I9 he];dsimp only;rw[c,i2];cases Bz (CB ns ts) e with
  |error f=>exact .inr ⟨rfl,f,rfl⟩
  |ok t=>
    by_cases ht:t=4
    .subst ht;exact .inl ⟨ns,ts,_,a,rfl,TG⟩
    .exact .inr ⟨H7 ht,_,H7 ht⟩
theorem Aby {Es:L8}(T:Alk Es):∀(L:L9),(∀s∈L,∃k a,Ii Es k s.cond/\Ii Es a s.aG)->∀{ns:L4} {ts tt:L2},ja ns=ja ts->RlO (CP Es (Bn++ns,ts,tt) L) (Fc Es (CB ns ts,ts,tt) L)
 |[],_,ns,ts,tt,hl=> .inl ⟨ns,ts,tt,hl,rfl,rfl⟩
 |s ::L,h,ns,ts,tt,hl=>by
  obtain⟨k,a,hc,hg⟩:=h s (za ..);rw[CP,Fc,LP,Fb];obtain⟨g,i,b,c,e1,e2⟩|⟨e1,f,e2⟩:=Agd T (tt:=tt) hl hc
  .rw[e1,e2];show RlO ((Ca Es _ s).bind _)<|(DR Es _ s).bind _;obtain⟨j,l,m,d,g1,g2⟩|⟨g1,f,g2⟩:=Ade T (tt:=b) c hg
   .rw[g1,g2];exact Aby T L (λs hs=>h s<|zi _ hs) d
   .rw[g1,g2];exact .inr ⟨rfl,f,rfl⟩
  .rw[e1,e2];exact .inr ⟨rfl,f,rfl⟩
theorem Ys (h5:∀x∈N,x.op≠5)(a:∀j,(h:j<T Es)->AZ N j Es[j])(hs:LK Es L):RlO (CP Es (Bn,[],[]) L)<|Fc Es (Ju,[],[]) L:=by
 have:=Aby (Es:=Es) (λb e he ns ts c=>by obtain⟨h,rfl⟩:=zP.1 he;exact Aga h5 c<|a b h) L (λs h=>by obtain⟨k,d,rfl⟩:=zw h;exact⟨_,_,hs k d⟩) (ns:= []) (ts:= []) (tt:= []) rfl
 rwa[List.append_nil,AaI]at this
def AkR (o:L0 MH) (w:jB) (r:Ending) (w':jB):Prop:=
 (∃ (B lb:Nat) (ns:L4) (ts tt:L2) (nv lv tv:jF),o=Q (Bn++ns,ts,tt)/\r= .returned (jQ #[tv,jP<|Q<|jA lb 0 U,jM #[V X 0,V X 0]])/\Lm B lb ns ts tt nv lv tv w'/\R (Z w)<=lb/\Ai w w')\/
 (o=U/\(∃code a,r= .returned (jQ #[Y U 0 0,jP U,jM #[V X code,V X a]])/\code≠0)/\Ai w w')
theorem Pd (a b:L3)(n c m d:Nat)(N:L6)(L:L9)(k:∀x∈N,Cp x=jD)(w0:jB)(p:IN w0 a n c N)(q:Po w0 b m d L)(Es:L8)(s:T Es=n)(l:∀j,(h:j<T Es)->AZ N j Es[j])(t:n<=4000)(hm:m<=600)(o:LK Es L)(u:DJ Es L<=4000):
  Calls jZ 62 #[Y a n c,Y b m d] w0 (AkR (CP Es (Bn,[],[]) L) w0):=by
 refine(MA a b n c m d N L (λx hx=>fdU<|k x hx) w0 p q Es s l t hm o u).mono ?_;have R:=Ys (λx hx e=>by have:=k x hx;simp[Cp,e]at this) l o;rintro r w' (⟨B,v,ns,ts,tt,w,lv,y,g,z,i,A,C,D⟩|⟨f,g,i,E,F⟩)
 .obtain⟨G,I,J,H,e1,e2⟩|⟨_,f,e2⟩:=R
  .rw[g]at e2;simp only[Except.ok.injEq,Prod.mk.injEq]at e2;obtain⟨e3,rfl,rfl⟩:=e2;have e4:=congrArg (List.map Dc.name)<|List.append_cancel_left e3;rw[(Mx ns ts 0 z).2,(Mx G ts 0 H).2]at e4;subst e4;exact .inl ⟨B,v,ns,ts,tt,w,lv,y,e1,i,A,C,D⟩
  .rw[g]at e2;cases e2
 .obtain⟨_,_,_,_,_,e2⟩|⟨e1,_⟩:=R
  .rw[g]at e2;cases e2
  .exact .inr ⟨e1,⟨f.1,f.2,i,E⟩,F⟩
theorem Abc (h:CE N L=jD)(b:T Es=T N)(a:∀j,(h:j<T Es)->AZ N j Es[j])(hc:CP Es (Bn,[],[]) L=Q st):N.all Cp=jD:=by
 have c:=BQ h;have sp:=RU h b a;have R:=Ys (no5 h) a sp;rw[hc]at R;rw[zq];intro x hx;refine(Kg x).2 ⟨c.bK x hx,λp=>?_⟩;obtain⟨j,f,rfl⟩:=zw hx;obtain⟨ns,ts,tt,l,_,e2⟩|⟨e,_⟩:=R
 .have hm:=(Kc e2).2.1;obtain⟨g,t,⟨E,n⟩,ht⟩:=Kd sp (T L) NLN (by rw[z2];exact e2) j (by rw[z2,Ku h b a];exact f);have i:j<T Es:=Oa;rw[Ge,zM i]at ht;have u:=a j i;obtain⟨o,r⟩|⟨o,r⟩|⟨o,r⟩|⟨o,r⟩|⟨o,r⟩|⟨o,r⟩|⟨o,r⟩|⟨o,r⟩|⟨o,r⟩|⟨o,r⟩:=u.cC (zM f)<;>first|omega|skip
  rw[r]at ht;cases hq:ltT g N[j].num with
  |none=>change cR (ofO (7,_)<|ltT g N[j].num)= .ok t at ht;rw[hq]at ht;cases ht
  |some y=>
    unfold ltT at hq;split at hq
    .obtain⟨d,hd,_⟩:=Option.map_eq_some_iff.1 hq;have l1:=(zP.1 hd).1;have k:=congrArg T n;have q:T (UT 0 ns ts)=T ts:=by have:=congrArg T (Mx ns ts 0 l).1;rwa[zN]at this
     have s:T (CB ns ts)=6+T (UT 0 ns ts):=by rw[CB,zC];rfl
     have:=c.m;rw[List.length_drop]at l1;rw[zC]at k;simp only[List.length_nil]at hm;dsimp only at k;omega
    .cases hq
 .cases e
theorem Oc {N:L6}(h5:∀x∈N,x.op≠5){Es d:L8}(n:T Es=T N)(o:T d=T N)(l:∀j,(h:j<T Es)->AZ N j Es[j])(hF:∀j,(h:j<T d)->AZ N j d[j]):∀(L:L9) (st:MH),CP Es st L=CP d st L
 |[],st=>rfl
 |s ::L,st=>by
  have m:∀k:Nat,(Es[k]? =U/\d[k]? =U)\/∃e f,Es[k]? =Q e/\d[k]? =Q f/\∀ts,AX ts e=AX ts f/\Eh ts e=Eh ts f:=λk=>by
   by_cases p:k<T N
   .exact .inr ⟨Es[k],d[k],zM _,zM _,Ae8 h5 (l k Oa)<|hF k Oa⟩
   .exact .inl ⟨Z8 Oa,Z8 Oa⟩
  have c:Cw Es st s=Cw d st s:=by
   rw[Cw,Cw];obtain⟨a,b⟩|⟨e,f,a,b,k⟩:=m s.cond.toNat
   .rw[a,b]
   .rw[a,b];dsimp only;rw[(k st.2.1).1,(k st.2.1).2]
  have g:∀i,Ca Es i s=Ca d i s:=λi=>by
   rw[Ca,Ca];obtain⟨a,b⟩|⟨e,f,a,b,k⟩:=m s.aG.toNat
   .rw[a,b]
   .rw[a,b];dsimp only;rw[(k i.2.1).1,(k i.2.1).2]
  rw[CP,CP,LP,LP,c];simp only[g,Oc h5 n o l hF L]
set_option maxHeartbeats 3200000
theorem VF (h:N.all Cp=jD):N.all Bf=jD:=by grind [Kg]
theorem Aak (N:L6)(L:L9):(T N<=4000/\1<=T L/\T L<=600)/\N.all Cp=jD/\Kz N L↔CE N L=jD/\N.all Cp=jD:=by
 rw[<-Sn,ZV,<-Sq,CE]
 grind [VF]
theorem Gu (a:NM N L):∃Es:L8,T Es=T N/\∀j,(h:j<T Es)->AZ N j Es[j]:=by
 have:∀k,k<=T N->∃Es:L8,T Es=k/\(∀j,(h:j<T Es)->AZ N j Es[j])/\∀e∈Es,e.cA:=by
  intro k
  induction k with
  |zero=>simp_all
  |succ k c=>
    intro i;obtain⟨Es,b,d,g⟩:=c Oa;have hx:N[k]? =Q (N[k]' Oa):=zM _;obtain⟨e,_,ht,l⟩:=Ag1 (an:=U) (nn:=0) (cn:=0) hx (a.bK _<|zI _) (a.aD k _ hx) b d g;refine⟨Es++[e],Hf,λj h=>?_,λf m=>?_⟩
    all_goals grind
 obtain⟨Es,n,o,_⟩:=this (T N) NLN
 grind
theorem Ld.bH {T:L2}{b c:Bool}(h:Ld N L T b)(k:Ld N L T c):b=c:=by
 obtain⟨a,rfl⟩|⟨a,Es,a1,a2,rfl⟩:=h
 .obtain⟨_,rfl⟩|⟨d,_⟩:=k
  all_goals grind
 .obtain⟨d,_⟩|⟨_,f,b1,b2,rfl⟩:=k
  all_goals grind [Oc,no5]
theorem Aif {T:L2}(h: ¬ (CE N L=jD/\N.all Cp=jD)):Ld N L T jE:=by
 cases a:CE N L with
 |false=>exact .inl ⟨a,rfl⟩
 |true=>
   obtain⟨Es,b,c⟩:=Gu<|BQ a;refine .inr ⟨a,Es,b,c,?_⟩
   grind [CP,Bn,Abc]
theorem SB (a:CE N L=jD)(b:T Es=T N)(c:∀j,(h:j<T Es)->AZ N j Es[j])(hc:CP Es (Bn,[],[]) L=Q st):T st.2.2=T N:=by
 have:=(TN hc).1
 grind [Ku]
theorem Age {T:L2}(a:CE N L=jD)(d:ja T≠ja N):Ld N L T jE:=by
 obtain⟨Es,b,c⟩:=Gu<|BQ a;refine .inr ⟨a,Es,b,c,?_⟩;cases hc:CP Es (Bn,[],[]) L with
 |none=>rfl
 |some st=>grind [SB]
theorem J3 (a b e:L3)(n c m d k f:Nat)(N:L6)(L:L9)(T:L2)(w:jB)(K:IN w a n c N)(W:Po w b m d L)(h3:AP w e k f T):
  Calls jZ 56 #[jM #[Y a n c,Y b m d,Y e k f]] w λr w'=>(∃v,r= .returned (.bool v)/\Ld N L T v)/\Ai w w':=by
 have D:=Ab K.len;have al:=Ab W.len;have aa:=Ab h3.len;have aR:=K.aJ;have aS:=h3.aJ;have p:=AE w<|Nx a n c b m d e k f;have ab:=K.below p NLN;have ac:=W.below p NLN;have ao:=h3.below p NLN;clear K W h3;go_enter func56,ntmps56
 go_wp2_with fail
 refine(UX _ _ _ _ _ _ N L _ ab ac).mono ?_;rintro r aI ⟨⟨v,rfl,hv⟩,q⟩;have ap:=ab.below q NLN;have aq:=ac.below q NLN;have aK:=ao.below q NLN;have ar:=(Ag.new w #[Y a n c,Y b m d,Y e k f] 70).aA q NLN;have s:=p.trans<|q.mono p.size;have M:v=jD↔CE N L=jD/\N.all Cp=jD:=by rw[hv,<-Aak,Aa D,Aa al]
 clear ab ac ao p q hv;obtain⟨au,q1,q2⟩:=At ar;cases v with
 |false=>
  have g:=Ab (Aif (T:=T) λh=>by have:=M.2 h;cases this);clear M;go_wp2
  go_ret
  exact⟨⟨jE,rfl,Aa g⟩,s⟩
 |true=>
  have av:=Ab<|M.1 rfl;clear M;by_cases ad:k=n
  .subst ad;have aL:((k:Int)!=(k:Int))=jE:=Ox;obtain⟨t,hu⟩:=Aa av;have E:=BQ t;obtain⟨Es,u,z⟩:=Gu E;have aM:k<=4000:=by have:=E.n;rw[Aa D]at this;exact this
   have O:=Ab (Pd a b k c m d N L (λx hx=>zq.1 hu x hx) aI ap aq Es (by rw[u,Aa D]) z aM (by have:=E.m;rw[Aa al]at this;exact this) (RU t u z)<|by rw[Ku t u z];exact E.n);have F:=Ab (show ∀v,v=(match CP Es (Bn,[],[]) L with|none=>jE|some st=>decide (st.2.2=T))->Ld N L T v from λv e=> .inr ⟨t,Es,u,z,e⟩)
   have P:=Ab (show ∀st,CP Es (Bn,[],[]) L=Q st->ja st.2.2=k from λst h=>by rw[SB t u z h,Aa D]);generalize CP Es (Bn,[],[]) L=o at O F P;clear t hu u z E ap aq;go_wp2_with fail
   refine(Aa O).mono ?_;rintro r w2 (⟨B,aT,ns,ts,tt,aU,lv,aV,rfl,rfl,ae,aW,A⟩|⟨rfl,⟨af,aw,rfl,ax⟩,A⟩)
   .have G:=s.trans<|A.mono s.size;have ag:ja tt=k:=Aa P _ rfl;obtain⟨aX,aY,rfl,_⟩:=Ae ae.types;have ah:=Cd ae.types Oa;have ay:=Ab ag;rw[ag]at ah|-;have l:=AE w2<|jH #[V X 0,V X 0] 109;have az:=Ag.new w2 #[V X 0,V X 0] 109;obtain⟨aB,f1⟩:=Bo az;have aC:=ah.below l NLN;have aD:=(aK.below A NLN).below l NLN;have aE:=(ar.aA A NLN).aA l NLN;have ai:=G.trans<|l.mono G.size;clear ae ah ag A O P au q1 q2;go_wp2_with fail
    generalize jK w2 (jH #[V X 0,V X 0] 109)=aN at l az aB f1 aC aD aE ai|-;go_loopw [37] (λi wr=>∃j:Nat,j<=k/\i=V X j/\Ai aN wr/\Hid (tt.take j=T.take j)) (λi _=>k-(intOf i).toNat)
    case atStart=>exact⟨0,zE _,rfl,BRN,Ab rfl⟩
    case round=>
     obtain⟨j,aZ,rfl,H,aF⟩:=hrel;have aG:=ai.trans<|H.mono ai.size;by_cases S:j<k
     .have a0:(j:Int)<(k:Int):=Oa;have aj:j<ja tt:=by rw[Aa ay];exact S
      have ak:j<ja T:=by rw[Aa aa];exact S
      obtain⟨a1,a2,rfl,a3,aO⟩:=(aC.below H NLN).cells j aj;obtain⟨be,a4,rfl,a5,aP⟩:=(aD.below H NLN).cells j ak;obtain⟨au,q1,q2⟩:=At<|aE.aA H NLN;have I:=Ab (show tt[j]=T[j]->tt.take (j+1)=T.take (j+1)from λh=>by rw[zT aj,zT ak,Aa aF,h]);have J:=Ab (show tt[j]≠T[j]->tt≠T from λh e=>h<|by subst e;rfl);have aH:=Ab S;generalize tt[j]=x at aO I J;generalize T[j]=y at aP I J;clear S aj ak;by_cases C:x=y
      .have aQ:(x !=y)=jE:=by rw[C];simp
       have g:=Ab<|Aa I C;clear C I J;go_wp2
       go_roundw
       case rel=>exact⟨j+1,Aa aH,O1,H,g⟩
       case measure=>have:=Aa aH;simp[intOf];omega
      .have aQ:(x !=y)=jD:=zV.2 C;have g:=Ab<|Aa F jE (zH<|Aa J C).symm;clear C I J;go_wp2
       go_ret
       exact⟨⟨jE,rfl,Aa g⟩,aG⟩
     .have e:j=k:=Oa;subst e;have g:=Ab<|Aa F jD (zJ<|by have:=Aa aF;rwa[zf<|by rw[Aa ay];exact NLN,zf<|by rw[Aa aa];exact NLN]at this).symm;go_wp2
      go_ret
      exact⟨⟨jD,rfl,Aa g⟩,aG⟩
   .have ec:(af !=0)=jD:=zV.2 ax;have g:=Ab<|Aa F jE rfl;have G:=s.trans<|A.mono s.size;have l:=AE w2<|jH #[V X af,V X aw] 109;obtain⟨aB,f1⟩:=Bo<|Ag.new w2 #[V X af,V X aw] 109;clear ax O F P;go_wp2
    go_ret
    exact⟨⟨jE,rfl,Aa g⟩,(G.trans<|l.mono G.size)⟩
  .have aL:((k:Int)!=(n:Int))=jD:=zV.2 Oa;have g:=Ab (Age (T:=T) (Aa av).1<|by rw[Aa aa,Aa D];exact ad);clear ad;go_wp2
   go_ret
   exact⟨⟨jE,rfl,Aa g⟩,s⟩
theorem Lc.bH {N:L6}{L:L9}{T:L2}{c d:De}(h:Lc N L T c)(k:Lc N L T d):c=d:=by
 obtain⟨a,rfl⟩|⟨a,Es,a1,a2,rfl⟩:=h
 .obtain⟨_,rfl⟩|⟨b,_⟩:=k
  all_goals grind [Ld.bH]
 .obtain⟨b,rfl⟩|⟨_,f,b1,b2,rfl⟩:=k
  all_goals grind [AbH,Ld.bH]
theorem FI:Tu Aw:=⟨Ob,by simp[Aw],λs hs=>H9 hs<|by simp[Aw]⟩
theorem V5 (n:Int):Tu ⟨1,n,⟨#[]⟩,[]⟩:=⟨by show(⟨#[]⟩:K9).size<=255;decide,Ox,λs hs=>H9 hs Ox⟩
theorem AdQ (hF:∀x∈N,Bf x=jD){i:Nat}{e:Ex}(t:AZ N i e):∀a,∀j∈Ar e a,Tu j.val:=by
 have fld:∀{i:Nat} {x:Nd},N[i]? =Q x->Jq x=jD:=λh=>by
  have:=hF _<|zn h
  grind [Bf]
 have g:∀{A B:M9},(∀j∈A,Tu j.val)->(∀j∈B,Tu j.val)->∀j∈A++B,Tu j.val:=λo p j k=>(zO.1 k).elim (o j)<|p j;have d:∀{i:I5},Tu i.val->∀j∈ [i],Tu j.val:=λh j k=>by rw[zR.1 k];exact h
 induction t with
 |int h b f=>exact λa=>d ⟨by show(⟨#[]⟩:K9).size<=255;decide,by simp[exV],λs hs=>H9 hs<|by simp[exV]⟩
 |@text i x h b f=>
   have hq:=fld h;rw[Jq,H7 Oa,H7 Oa,H7 Oa,VG,H7 Oa,H8 b]at hq;simp only[zF,zG]at hq;have hs:x.text.size<=32:=by grind [Co]
   exact λa=>d ⟨(Oa:x.text.size<=255),by simp[exV],λs hs=>H9 hs<|by simp[exV]⟩
 |bool h b f=>exact λa=>d<|V5 _
 |@set i x h b f a n c=>
   have hq:=fld h;rw[Jq,H7 Oa,H7 Oa,H7 Oa,VG,H7 Oa,H7 Oa,H7 Oa,H8 b]at hq;simp only[zF,zG]at hq;obtain⟨s1,s2⟩:=YS hq.1.1;exact λa=>d ⟨by show(⟨#[]⟩:K9).size<=255;decide,(Oa:T x.aB<=255),λs hs=>H2<|s2 s hs⟩
 |name h b f=>grind [Jq]
 |attr h b f=>exact λa=>d FI
 |lett h b f=>exact λa=>d FI
 |un h b f hi t q=>exact λa=>g (q a)<|d FI
 |bin h b f hi t u l m=>grind [Ar,V5,FI]
 |ite h b f hi t u v l m r=>exact λa=>g (g (g (g (l _)<|d FI)<|m _)<|d FI)<|r _
theorem Qk {N:L6}(hF:∀x∈N,Bf x=jD){Es:L8}(d:T Es=T N)(f:∀j,(h:j<T Es)->AZ N j Es[j]):∀(L:L9),(∀s∈L,(s.cond= -1\/(0<=s.cond/\s.cond<T Es))/\(s.aG= -1\/(0<=s.aG/\s.aG<T Es)))->(∀s∈L,s.aC=3\/s.cond≠-1)->∀k a,∀j∈CY Es k a L,Tu j.val
 |[],_,_,k,a=>λj b=>H9 b (by simp[CY])
 |s ::L,hR,hK,k,a=>by
  have m:=Qk hF d f L (λx hx=>hR x<|zi _ hx) λx hx=>hK x<|zi _ hx;obtain⟨n,o⟩:=hR s (za ..);have p:=hK s (za ..);have q:∀{A B:M9},(∀j∈A,Tu j.val)->(∀j∈B,Tu j.val)->∀j∈A++B,Tu j.val:=λg l j b=>(zO.1 b).elim (g j)<|l j;have r:∀{i:I5},Tu i.val->∀j∈ [i],Tu j.val:=λh j b=>by rw[zR.1 b];exact h
  have at_:∀c:Int,0<=c/\c<T Es->∀a,∀j∈Ar (DH Es c) a,Tu j.val:=λc hc=>by grind [DH,AdQ]
  have t:∀a,∀j∈FE Es s.aG a,Tu j.val:=λa=>by grind [FE,FI]
  grind [LD,CY,FI]
theorem Mn {p:Vl->Prop} :∀(L:M9) (s:De),(∀j∈L,p j.val)->(∀v∈s.aI,p v)->∀v∈(Bb s L).aI,p v
 |[],s,_,h=>h
 |i ::L,s,hL,h=>by
  refine Mn L (Bh s i) (λj a=>hL j<|zi _ a) λv hv=>?_
  grind [Qd,Bh]
theorem Ql:∀(L:M9) (s:De),T (Bb s L).aI<=T s.aI+T L
 |[],s=>NLN
 |i ::L,s=>by
  have a:=Ql L<|Bh s i;have b:=Tp s i;show T (Bb (Bh s i) L).aI<=_
  grind
theorem Lc.aJ {T:L2}{c:De}(h:Lc N L T c):ja c.aI<=65535/\(∀v∈c.aI,Tu v)/\ja c.aK<=65535/\c.aE<=600:=by
 obtain⟨_,rfl⟩|⟨hv,Es,d,f,rfl⟩:=h
 .grind
 .have g:CE N L=jD:=by
   obtain⟨_,h⟩|⟨h,_⟩:=hv
   all_goals grind
  have a:=BQ g;have i:∀s∈L,(s.cond= -1\/(0<=s.cond/\s.cond<ja Es))/\(s.aG= -1\/(0<=s.aG/\s.aG<ja Es)):=by rw[d];exact a.dJ
  have j:∀t∈L,t.aC=3\/t.cond≠-1:=λt ht=>H2<|a.stm t ht;have k:VT Es L<=13200:=by have:=YJ Es L i;have:=Aav g d f;have:=a.m;omega
  have b:=Nu Es L ⟨[],0,[]⟩ j;simp only[List.length_nil,zY]at b;have hm:=a.m;refine⟨zB b.2.1 Oa,?_,zB b.1 Oa,zB b.2.2 hm⟩;rw[P6];exact Mn _ _ (Qk a.bK d f L i j 0 0) λv hv=>H9 hv Ox
end Go.Proofs.YtnjpihpohilnjaaGreatDoor

import Derived.Test.YtppafecmccdplaaGreatMXAR
import Derived.Deep.DeepCutAuto
import Derived.Deep.CutBlock
open Go.Proofs.Tryz
open Option renaming none->T,some->Y
open Go.Value renaming int->U,slice->X,string->Q
open Go.IntKind renaming i64->V
open Go renaming World->Z,Value->jB
open Go.Obj renaming cells->jC
open Go.Proofs.Tryz renaming prog->jL
namespace Go.Proofs.YtppafecmccdplaaGreat
set_option maxRecDepth 100000
set_option maxHeartbeats 6400000
open Go.RowKit
set_option linter.unusedVariables false
variable {c:Nat}{j k:jB}{b:Z}
structure CdR (Es:List Ex) (ns:List ByteArray) (ts tt:List Int) (s:St) (ns7:List ByteArray) (ts7 tt7:List Int):Prop where
 cd:Ic Es (CJ ns ts,ts,tt) s= .ok (CJ ns7 ts7,ts7,tt7)
 len:ns7.length=ts7.length
 typ:∀d∈CJ ns7 ts7,1<=d.typ/\d.typ<=4
 few:ts7.length<=601
 room:tt7.length+Bq Es s.grant<=4000
 sp:Ib Es tt7.length s.grant
theorem Zv {a:Nat}{d f:jB}{t:TypeId}(F:Ah b a #[j,k] t)(R:Ah b c #[d,f] t)(h:c≠a)(x y:jB):Ah ((b.setCell ⟨a,0,T⟩ x).setCell ⟨a,1,T⟩ y) a #[x,y] t/\Ah ((b.setCell ⟨a,0,T⟩ x).setCell ⟨a,1,T⟩ y) c #[d,f] t/\Ah ((b.setCell ⟨a,0,T⟩ x).setCell ⟨a,1,T⟩ y).drew a #[x,y] t/\Ah ((b.setCell ⟨a,0,T⟩ x).setCell ⟨a,1,T⟩ y).drew c #[d,f] t:=by
 have g:=(F.set 0 x).set 1 y;have i:=(R.setFar (p:=⟨a,0,T⟩) h x).setFar (p:=⟨a,1,T⟩) h y;exact⟨g,i,⟨g.out⟩,⟨i.out⟩⟩
theorem AaK {g:Func}{h:Array jB}{r:Except (Int×Int) Cs}{w0 c b:Z}{a:Nat}{f:Int×Int}{k l:jB}(R:Ah c a #[k,l] 89)(m:w0.heap.size=a)(n:Below a w0 c)(o:r= .error f)(q:f.1≠0)(s:b=(c.setCell ⟨a,0,T⟩ (U V f.1)).setCell ⟨a,1,T⟩ (U V f.2)\/b=((c.setCell ⟨a,0,T⟩ (U V f.1)).setCell ⟨a,1,T⟩ (U V f.2)).drew)(t:∀d:Z,d.cell? ⟨a,0,T⟩=Y (U V f.1)->d.cell? ⟨a,1,T⟩=Y (U V f.2)->(results g h).run jL d= .ok (.tuple #[X T 0 0,.pointer T,.agg #[U V f.1,U V f.2]]) d):bodyPost jL g (CkM r w0) Exit.ret { tmps:=h,defers:= [] } b:=by
 have i:=(R.set 0 (U V f.1)).set 1 (U V f.2);have j:=(n.setCell (p:=⟨a,0,T⟩) (z0 a) (U V f.1)).setCell (p:=⟨a,1,T⟩) (z0 a) (U V f.2);have e:Ah b a #[U V f.1,U V f.2] 89/\Below a w0 b:=by
  rcases s with rfl|rfl
  ·exact⟨i,j⟩
  ·exact⟨⟨i.out⟩,j.drew⟩
 exact bodyPost_ret (t b (e.1.cell 0) (e.1.cell 1)) rfl (.inr ⟨f,o,rfl,q,by show Below _ _ _;rw[m];exact e.2⟩)
theorem Mw (a b:Option Addr)(n c m d:Nat)(N:List Nd)(L:List St)(b8:∀x∈N,FdX x)(w0:Z)(b9:IY w0 a n c N)(bj:Ss w0 b m d L)(Es:List Ex)(ca:Es.length=n)(bk:∀j,(h:j<Es.length)->Bu N j Es[j])(db:n<=4000)(hm:m<=600)(cb:LB Es L)(cc:Dq Es L<=4000):
  Calls jL 51 #[X a n c,X b m d] w0 (CkM (EW Es (JE,[],[]) L) w0):=by
 obtain⟨dc,dd,de,df,dg⟩:=info_parts Mi;obtain⟨dh,di,dj,dk,dl⟩:=info_parts JH;have bl:=Ab (fun (o:Nat) (ns:List ByteArray) (ts tt:List Int) (ak lv dm:jB)=>AaJ a n c N b8 w0 b9 (w0.heap.size+3) (by omega) Es ca bk db o ns ts tt ak lv dm);have dn:=Ab cb;have ce:=Ab (show ∀(y:Nat) (e:Ex),Es[y]? =Y e->e.pos=y from fun y e h=>by obtain⟨dp,dq⟩:=zZ.1 h;rw[<-dq];exact(bk y dp).pos);have dr:=Ab cc;have cf:=Ab bj.len;have bm:=((Ah.new w0 #[U V 0,U V 0] 89).alloc (jC #[X T 0 0,X T 0 0] 141)).alloc (jC #[U V 0,U V 0] 89);have a0:=(Ah.new (w0.alloc (jC #[U V 0,U V 0] 89)) #[X T 0 0,X T 0 0] 141).alloc (jC #[U V 0,U V 0] 89);have aF:=Ah.new ((w0.alloc (jC #[U V 0,U V 0] 89)).alloc (jC #[X T 0 0,X T 0 0] 141)) #[U V 0,U V 0] 89;have bn:=(((AN w0 (jC #[U V 0,U V 0] 89)).alloc (by simp) (jC #[X T 0 0,X T 0 0] 141)).alloc (by simp;omega) (jC #[U V 0,U V 0] 89))
 have a1:(((w0.alloc (jC #[U V 0,U V 0] 89)).alloc (jC #[X T 0 0,X T 0 0] 141)).alloc (jC #[U V 0,U V 0] 89)).heap.size=w0.heap.size+3:=by simp
 simp only[World.size_alloc]at a0 aF;clear b8 b9 bk ca cb cc;go_enter func51,ntmps51
 go_wp2_with fail
 generalize (((w0.alloc (jC #[U V 0,U V 0] 89)).alloc (jC #[X T 0 0,X T 0 0] 141)).alloc (jC #[U V 0,U V 0] 89))=ds at bm a0 aF bn a1|-;have aq:w0.heap.size<w0.heap.size+1/\w0.heap.size+1<w0.heap.size+1+1/\w0.heap.size+1+1<w0.heap.size+3:=by omega
 have bo:Lm (w0.heap.size+3) (w0.heap.size+1) [] [] [] (X T 0 0) (X T 0 0) (X T 0 0) ds:=⟨a0,World.ownsRow_nil _ _ _ _,World.ownsRow_nil _ _ _ _,World.ownsRow_nil _ _ _ _,by omega,fun q h=>(by cases h)⟩
 clear a0;generalize dt:w0.heap.size+1=o at aq bo aF|-;generalize du:o+1=I at aq aF|-;generalize dv:w0.heap.size+3=B at aq bo bl a1|-;generalize a2:w0.heap.size=g at aq bm bn|-;have P:=Ab a2;have dw:=Ab (show g<=o/\w0.heap.size<=B by omega);clear dt du dv a2;go_loopw [8,17] (fun v i wr=>∃ (k:Nat) (ns:List ByteArray) (ts tt:List Int) (ak lv:jB) (fc bp:Int),k<=m/\i=U V k/\Hid (EW Es (JE,[],[]) (L.take k)= .ok (CJ ns ts,ts,tt)/\ns.length=ts.length)/\Lm B o ns ts tt ak lv v wr/\Ah wr I #[U V fc,U V bp] 89/\Ah wr g #[U V 0,U V 0] 89/\Below g w0 wr/\B<=wr.heap.size) (fun _ i _=>m-(intOf i).toNat)
 case atStart=>exact⟨0,[],[],[],_,_,0,0,zE _,rfl,Ab ⟨by rw[Zu];rfl,rfl⟩,bo,aF,bm,bn,by omega⟩
 case round=>
  obtain⟨k,ns,ts,tt,ak,lv,fc,bp,hk,rfl,ar,a3,cg,aG,au,ch⟩:=hrel;obtain⟨br,bt,rfl,_⟩:=Ae a3.types;by_cases bu:k<m
  ·have es:(k:Int)<(m:Int):=by omega
   have av:k<L.length:=by rw[Aa cf];exact bu
   have a2:=Aa P;obtain⟨bs,os,rfl,dx,ci,cj,ck,cm⟩:=bj.cells k av;have c0:=(au.cell (p:=⟨bs,os+k*4,T⟩) (by show bs<g;omega)).trans ci;have c1:=(au.cell (p:=⟨bs,os+k*4+1,T⟩) (by show bs<g;omega)).trans cj;have c2:=(au.cell (p:=⟨bs,os+k*4+2,T⟩) (by show bs<g;omega)).trans ck;have c3:=(au.cell (p:=⟨bs,os+k*4+3,T⟩) (by show bs<g;omega)).trans cm;have co:=bj.sizes _ (zH av);clear ci cj ck cm dx;obtain⟨l1,bv,cp⟩:=JV (Aa ar).1;have room:=AaL Es L k av;have cq:∀d∈CJ ns ts,1<=d.typ/\d.typ<=4:=cp Acr;have cr:tt.length=Dq Es (L.take k):=by simpa using l1
   have dy:ts.length<=k:=by rw[zv]at bv;simp at bv;omega
   obtain⟨aH,ad⟩:=Aa dn k av;rw[<-cr]at aH ad room;have bw:=Ab (show ∀bx,ER Es (CJ ns ts,ts,tt) L[k]= .ok bx->EW Es (JE,[],[]) (L.take (k+1))= .ok bx from fun bx e=>by rw[zc av,NB,(Aa ar).1];exact e);have aw:=Ab (show ∀f,ER Es (CJ ns ts,ts,tt) L[k]= .error f->EW Es (JE,[],[]) L= .error f from fun f e=>Yi Es L _ (k+1) (by rw[zc av,NB,(Aa ar).1];exact e));have a4:=Ab bu;have a5:=Ab (Aa ar).2;have dz:=Aa dr;have aI:=Ab (show tt.length+(Bq Es L[k].cond+Bq Es L[k].grant)<=4000 by omega);have al:=Ab (show ts.length<=600 by omega);have aJ:=Ab cq;clear l1 bv cp cr dy room cq dz ar bu a2;generalize L[k]=s at c0 c1 c2 c3 co aH ad bw aw aI;clear av;obtain⟨H,nm,cd,O⟩:=s;dsimp only at c0 c1 c2 c3 co aH ad aI;have C:Ls B g o I wr.heap.size ns ts tt ak lv (X br tt.length bt) #[U V H,Q nm,U V cd,U V O] fc bp w0 (wr.alloc (Xz H nm cd O)):=⟨a3.below (BRN.alloc NLN _),cg.alloc _,aG.alloc _,Ah.new wr _ _,au.alloc (by omega) _,⟨aq.1,aq.2.1,aq.2.2,ch⟩⟩
   have dA:B<=wr.heap.size:=ch;clear a3 cg aG au;go_upto_if 23 with fail
   generalize wr.alloc (Xz H nm cd O)=wz at C|-;generalize wr.heap.size=dB at C dA|-;have dC:=Ab (show tt.length+Bq Es cd+Bq Es O<=4000 by have:=Aa aI;omega);have cs:=Ab C;clear C;go_cut [8] (fun v dD=>∃ (D:List ByteArray) (z W:List Int) (aK aL:jB) (ct cu:Int),Hid (CdR Es ns ts tt ⟨H,nm,cd,O⟩ D z W)/\Ls B g o I dB D z W aK aL v #[U V H,Q nm,U V cd,U V O] ct cu w0 dD)
   case first=>
    have C:=Aa cs;obtain⟨a1,dE,dF,dG,dH⟩:=BN C.S;rcases aH with hc|⟨y,e,hc,he,hp,cv⟩
    ·subst hc;have ao:=Ab (show CdR Es ns ts tt ⟨H,nm,-1,O⟩ ns ts tt from⟨rfl,Aa a5,Aa aJ,by have:=Aa al;omega,by have:=Aa dC;rw[show Bq Es (-1)=0 from rfl]at this;omega,by rw[show Bq Es (-1)=0 from rfl,ze]at ad;exact ad⟩);go_wp2
     go_meet
     exact⟨ns,ts,tt,ak,lv,_,_,ao,C⟩
    ·subst hc;have dI:=Ab (Aa bl o ns ts tt ak lv (X br tt.length bt) (Aa aJ) (Aa a5) (by have:=Aa al;omega) (by have:=Aa aI;omega) y e he hp cv);have cw:=Ab (show Ic Es (CJ ns ts,ts,tt) ⟨H,nm,y,O⟩=FZ H nm (CJ ns ts,ts,tt) y (BF (CJ ns ts) e) (Ds (CJ ns ts) e) by rw[QF he,Aa ce y e he]);have dJ:=Ab (Jg (k:=(y:Int)) rfl he);rw[Jg (k:=(y:Int)) rfl he]at ad;have ap:=a5;have et:(0 :Int)<=(y:Int):=by omega
     clear he cv;go_wp2_with fail
     refine(Aa dI _ (by show Below _ _ _;rw[Aa P];exact C.low) C.M C.sizeX).mono ?_;rintro r w2 (⟨a6,dK,aM,rfl,bz,K2,b2⟩|⟨⟨aN,a7⟩,dK,aM,rfl,dL,bA,b2⟩)
     ·have aO:=C.tree bz K2 b2;obtain⟨eu,ev,rfl,_⟩:=Ae bz;have bB:=Ab aM;clear bz K2 aM;obtain⟨a8,bC⟩:∃l,l=tt++a6:=⟨_,rfl⟩
      rw[<-bC]at aO|-;have a9:=Ab bC;clear bC;obtain⟨ew,ex⟩:=CI aO.F;have ey:=fun j=>aO.F.frozen j;have ez:=fun j=>(aO.F.set 0 (U V 0)).frozen j;have J:=aO.fault 0 0;obtain⟨eA,eB⟩:=CI J.F;obtain⟨u20,u21,u22,u23,eC⟩:=BN J.S;dsimp only;obtain⟨ag,ba,bb⟩:=Zn (Aa bB);obtain⟨eD,rfl,eE,eF⟩:=J.M.readX (i:=y) (t:=ag) (by rw[Aa a9,bb];exact Zm hp ba);have cx:tt.length+e.cnt=a8.length:=by rw[Aa a9,zB,bb,Ew]
      rw[cx]at ad;have bc:=Ab (show a8.length+Bq Es O<=4000 by have:=Aa aI;have:=Aa dJ;omega);have dM:=Ab (Qs (Aa aJ) e ag ba);have aP:=Ab (show Ic Es (CJ ns ts,ts,tt) ⟨H,nm,y,O⟩=FZ H nm (CJ ns ts,ts,tt) y (.ok ag) a6 by rw[Aa cw,ba,bb]);clear bb ba cx;by_cases aA:H=1
      ·subst aA;by_cases ax:nm∈(Bm:List ByteArray)
       ·have bd:=(Eb nm Bm 0 (zq 0)).2 ax;have ay:=Ab (Aa aw (8,(y:Int)) (by rw[ER,Aa aP,NA (Zr ax)];rfl));clear ax;go_wp2_with fail
        refine(GI _ _).mono ?_;rintro r cy ⟨rfl,b4⟩;have E:=J.below b4;obtain⟨cz,cA,cB,cC,cD⟩:=BN E.S;generalize AD nm Bm 0=cE at bd|-;dsimp only;have G:=E.below BRN.drew;obtain⟨aQ,aR⟩:=CI G.Rr;have aS:=fun j=>G.Rr.frozen j;obtain⟨bD,bE,bF,bG,bH⟩:=BN G.S;obtain⟨bI,bJ⟩:=CI E.Rr;have bK:=fun j=>E.Rr.frozen j;go_wp2_with fail
        go_region
        all_goals
         go_wp2_with fail
         exact AaK (f:=(8,y)) E.Rr (by rw[Aa P]) E.low (Aa ay) (by simp) (.inr rfl) fun aT aa ab=>by simp[results,results51,go_sem,aa,ab]
       ·have bd: ¬ (0<=AD nm Bm 0):=fun h=>ax ((Eb nm Bm 0 (zq 0)).1 h);obtain⟨az,cn,rfl,_⟩:=Ae J.M.names;by_cases aB:nm∈ns
        ·have bL:=(Eb nm ns 0 (zq 0)).2 aB;have ay:=Ab (Aa aw (8,(y:Int)) (by rw[ER,Aa aP,NA (Zs (Aa ap) aB)];rfl));clear ax aB;go_wp2_with fail
         refine(GI _ _).mono ?_;rintro r cy ⟨rfl,b4⟩;have E:=J.below b4;obtain⟨cz,cA,cB,cC,cD⟩:=BN E.S;generalize AD nm Bm 0=cE at bd|-;dsimp only;go_wp2_with fail
         refine(Mt o az ns.length cn ns nm _ E.M.nmsAtX.2 E.M.row.lt rfl (by have:=Aa ap;have:=Aa al;omega) E.M.nmsAtX.1).mono ?_;rintro r ah ⟨rfl,b5⟩;have w:=E.below b5;obtain⟨dN,dO,dP,dQ,dR⟩:=BN w.S;generalize AD nm ns 0=dS at bL|-;dsimp only;have G:=w.below BRN.drew;obtain⟨aQ,aR⟩:=CI G.Rr;have aS:=fun j=>G.Rr.frozen j;obtain⟨bD,bE,bF,bG,bH⟩:=BN G.S;obtain⟨bI,bJ⟩:=CI w.Rr;have bK:=fun j=>w.Rr.frozen j;go_wp2_with fail
         go_region
         all_goals
          go_wp2_with fail
          exact AaK (f:=(8,y)) w.Rr (by rw[Aa P]) w.low (Aa ay) (by simp) (.inr rfl) fun aT aa ab=>by simp[results,results51,go_sem,aa,ab]
        ·have bL: ¬ (0<=AD nm ns 0):=fun h=>aB ((Eb nm ns 0 (zq 0)).1 h);have ai:=Ab ((Aa aP).trans (Zo (st:=(CJ ns ts,ts,tt)) (t:=ag) (ys:=a6) (Zt (Aa ap) ax aB)));clear ax aB;go_wp2_with fail
         refine(GI _ _).mono ?_;rintro r cy ⟨rfl,b4⟩;have E:=J.below b4;obtain⟨cz,cA,cB,cC,cD⟩:=BN E.S;generalize AD nm Bm 0=cE at bd|-;dsimp only;go_wp2_with fail
         refine(Mt o az ns.length cn ns nm _ E.M.nmsAtX.2 E.M.row.lt rfl (by have:=Aa ap;have:=Aa al;omega) E.M.nmsAtX.1).mono ?_;rintro r ah ⟨rfl,b5⟩;have w:=E.below b5;obtain⟨dN,dO,dP,dQ,dR⟩:=BN w.S;generalize AD nm ns 0=dS at bL|-;dsimp only;obtain⟨dT,cl,rfl,_⟩:=Ae w.M.lets;obtain⟨eG,eH⟩:=CI w.M.row;have G:=w.below BRN.drew;obtain⟨eI,eJ⟩:=CI G.M.row;obtain⟨eK,eL,eM,eN,eO⟩:=BN G.S;have eP:B<=ah.heap.size:=w.sizeX;have eQ:ns.length<=1000:=by have:=Aa ap;have:=Aa al;omega
         have eR:ts.length<=1000:=by have:=Aa al;omega
         have eS:o<ah.heap.size:=w.M.row.lt;have cF:g<=o:=by have:=w.ord;omega
         have eT:g<=B:=by have:=w.ord;omega
         go_wp2_with fail
         have cG:(ah.alloc (jC #[Q nm] 9)).drew.ownsRow B 9 1 (X az ns.length cn) ns.length (ns.map Value.string):=(w.M.names.alloc _).drew;go_region_law (refine step_append_lies _ rfl _ _ 42 rfl B 9 dh (Q ByteArray.empty) 1 16 underlying42 di dj dk dl rfl (by decide) (X az ns.length cn) ns.length (ns.map Value.string) rfl cG ⟨ah.heap.size,0,T⟩ 1 1 [Q nm] rfl rfl (Dr ah _ _ _ rfl) (by intro u hu;simp at hu;subst hu;rfl) (by decide) (by unfold maxLen;omega) (by omega) (by simp;omega) _ rfl ?_;intro b1 c1 aU cH ac hat eU;have bM:Ah aU o #[X az ns.length cn,X dT ts.length cl] 141:=⟨(ac.block o (by simp;omega) (fun e=>Ac w.M.row w.M.names (by decide) e.symm)).trans (w.M.row.alloc (jC #[Q nm] 9)).out⟩;have dU:aU.cell? ⟨o,0,T⟩=Y (X az ns.length cn)/\aU.frozen? ⟨o,0,T⟩=false:=⟨bM.cell 0,bM.frozen 0⟩;obtain⟨dV,dW⟩:=dU)
         all_goals
          have bN:(ah.alloc (jC #[Q nm] 9)).grownBy aU (Value.slice az ns.length cn).ownBlock:=⟨ac.os,ac.tape,ac.output,ac.size,ac.block⟩
          obtain⟨_,cI,cJ,eV⟩:=w.M.pushN w.sizeX cH bN (hat.imp id (fun e=>by rw[e];show(ah.alloc _).heap.size=_;simp));have cK:=(((Below.refl g ah).alloc (by omega) (jC #[Q nm] 9)).grown bN (by simp;omega) (fun q bO=>by have:=(w.M.names.lt q bO).1;omega)).setCell (p:=⟨o,0,T⟩) cF (X (Y ⟨b1,0,T⟩) (ns.length+1) c1);have aj:=w.of_kept w.M.names (by decide) (by decide) cI cJ cK;clear ac bN hat cH cG bM cI cJ cK dV dW;generalize aU.setCell ⟨o,0,T⟩ (X (Y ⟨b1,0,T⟩) (ns.length+1) c1)=bf at aj|-;obtain⟨eW,eX⟩:=CI aj.M.row;have eY:B<=bf.heap.size:=aj.sizeX;go_wp2_with (at_builtin;refine wpList_append_lies _ rfl _ _ 67 rfl B 3 dc (U V 0) 1 8 underlying67 dd de df dg rfl (by decide) _ _ _ rfl (World.ownsRow.alloc aj.M.lets _) ⟨bf.heap.size,0,T⟩ 1 1 [U V ag] rfl rfl ?c1 ?c2 (by decide) ?c3 ?c4 ?c5 (bf.heap.size+1) (by simp) ?_)
          case c1=>exact Dr _ _ _ _ (by simp)
          case c2=>intro u hu;simp at hu;subst hu;rfl
          case c3=>unfold maxLen;omega
          case c4=>omega
          case c5=>simp;omega
          intro g7 dX eZ cL ac hat e0;obtain⟨cM,cN,cO,A⟩:=aj.M.pushL aj.sizeX cL ac hat;have cP:=(((Below.refl g bf).alloc (by omega) (jC #[U V ag] 3)).grown ac (by simp;omega) (fun q bO=>by have:=(aj.M.lets.lt q bO).1;omega)).setCell (p:=⟨o,1,T⟩) cF (X (Y ⟨g7,0,T⟩) (ts.length+1) dX);have cQ:=aj.of_kept aj.M.lets (by decide) (by decide) cN cO cP;obtain⟨e1,e2⟩:=CI cM;have e4:=fun j=>cM.frozen j;obtain⟨e5,e6,e7,e8,e9⟩:=BN cQ.S;clear ac hat cL cN cO cP;have ao:=Ab (show CdR Es ns ts tt ⟨1,nm,y,O⟩ (ns++[nm]) (ts++[ag]) a8 from⟨by rw[Aa ai,Aa a9,<-QG (Aa ap)],by rw[zB,zB,Aa ap];rfl,fun d h=>by rw[<-QG (Aa ap)]at h;exact(zM.1 h).elim (Aa aJ d) (fun h=>by simp at h;subst h;exact Aa dM),by rw[zB];have:=Aa al;simp;omega,Aa bc,ad⟩);go_wp2
          go_meet
          exact⟨_,_,_,_,_,_,_,ao,cQ⟩
      ·have fa:(H==1)=false:=zA.2 aA;by_cases bg:ag=1
       ·subst bg;have ai:=Ab ((Aa aP).trans (VX (nm:=nm) (st:=(CJ ns ts,ts,tt)) (ys:=a6) aA));have ao:=Ab (show CdR Es ns ts tt ⟨H,nm,y,O⟩ ns ts a8 from⟨by rw[Aa ai,Aa a9],Aa a5,Aa aJ,by have:=Aa al;omega,Aa bc,ad⟩);clear aA ai;go_wp2
        go_meet
        exact⟨_,_,_,_,_,_,_,ao,J⟩
       ·have fb:(ag !=1)=true:=zp.2 bg;have ay:=Ab (Aa aw (9,(y:Int)) (by rw[ER,Aa aP,Tv aA bg];rfl));clear aA bg;have G:=J.below BRN.drew;obtain⟨aQ,aR⟩:=CI G.Rr;have aS:=fun j=>G.Rr.frozen j;obtain⟨bD,bE,bF,bG,bH⟩:=BN G.S;obtain⟨bI,bJ⟩:=CI J.Rr;have bK:=fun j=>J.Rr.frozen j;go_wp2_with fail
        go_region
        all_goals
         go_wp2_with fail
         exact AaK (f:=(9,y)) J.Rr (by rw[Aa P]) J.low (Aa ay) (by simp) (.inr rfl) fun aT aa ab=>by simp[results,results51,go_sem,aa,ab]
     ·have bP:=C.F.below b2 C.ord.2.2.1;have dY:=C.Rr.below b2 (by have:=C.ord;omega);have dZ:=C.low.trans (b2.mono (by have:=C.ord;omega));have fd:(aN !=0)=true:=zp.2 bA;have d0:=Ab bA;have bB:=Ab aM;clear bA aM;have bQ:g≠I:=by have:=C.ord;omega
      obtain⟨cS,cT⟩:=CI bP;have cU:=fun j=>bP.frozen j;have bR:=(dZ.setCell (p:=⟨I,0,T⟩) (by have:=C.ord;show g<=I;omega) (U V aN)).setCell (p:=⟨I,1,T⟩) (by have:=C.ord;show g<=I;omega) (U V a7);obtain⟨bS,ae,bT,aV⟩:=Zv bP dY bQ (U V aN) (U V a7);obtain⟨d1,d2⟩:=CI bS;obtain⟨d3,d4⟩:=CI ae;have d5:=fun j=>ae.frozen j;obtain⟨d6,d7⟩:=CI bT;obtain⟨aQ,aR⟩:=CI aV;have aS:=fun j=>aV.frozen j;dsimp only;rcases dL with rfl|⟨_,_,_,rfl⟩
      all_goals
       go_wp2_with fail
       go_region
      all_goals
       go_wp2_with fail
       exact AaK (f:=(aN,a7)) ae (by rw[Aa P]) bR (Aa aw (aN,a7) (by rw[ER,Aa cw,VW (Aa bB),Zp];rfl)) (Aa d0) (by first|exact .inr rfl|exact .inl rfl) fun aT aa ab=>by simp[results,results51,go_sem,aa,ab]
   case rest=>
    obtain⟨D,z,W,aK,aL,ct,cu,ao,A⟩:=hcut;obtain⟨cV,cW,cX,cY,bU,cZ⟩:=Aa ao;dsimp only at bU cZ;have ai:=Ab cV;have bV:=Ab cW;have d8:=Ab cX;have d9:=Ab cY;have bc:=Ab bU;obtain⟨ea,eb,rfl,_⟩:=Ae A.M.types;obtain⟨a1,dE,dF,dG,dH⟩:=BN A.S;clear cV cW cX cY bU ao aH ad cs;rcases cZ with hg|⟨af,e3,hg,aC,c6,c7⟩
    ·subst hg;have bW:(D).length=(z).length:=Aa bV;go_wp2
     go_roundw
     case rel=>exact⟨k+1,D,z,W,aK,aL,_,_,Aa a4,by go_num,Ab ⟨Aa bw _ (by rw[ER,Aa ai];exact OO),bW⟩,A.M,A.F,A.Rr,A.low,A.sizeX⟩
     case measure=>have:=Aa a4;simp[intOf];omega
    ·subst hg;have ec:=Ab (Aa bl o D z W aK aL (X ea W.length eb) (Aa d8) (Aa bV) (by have:=Aa d9;omega) (by have:=Aa bc;omega) af e3 aC c6 c7);have ed:=Ab (show ∀f,BF (CJ D z) e3= .error f->DL Es (CJ D z,z,W) ⟨H,nm,cd,af⟩= .error f from fun f h=>by rw[IM aC];show Jw 4 _ _ _ _ (BF (CJ D z) e3) _=_;rw[h];rfl);have ee:=Ab (show ∀t,BF (CJ D z) e3= .ok t->t≠4->DL Es (CJ D z,z,W) ⟨H,nm,cd,af⟩= .error (9,(af:Int))from fun t h ef=>by rw[IM aC];show Jw 4 _ _ _ _ (BF (CJ D z) e3) _=_;rw[h,Aa ce af e3 aC];exact if_neg ef);have eg:=Ab (show BF (CJ D z) e3= .ok 4->DL Es (CJ D z,z,W) ⟨H,nm,cd,af⟩= .ok (CJ D z,z,W++Ds (CJ D z) e3)from fun h=>by rw[IM aC];show Jw 4 _ _ _ _ (BF (CJ D z) e3) _=_;rw[h];exact Tw);have fe:(0 :Int)<=(af:Int):=by omega
     clear aC c7;go_wp2_with fail
     refine(Aa ec _ (by show Below _ _ _;rw[Aa P];exact A.low) A.M A.sizeX).mono ?_;rintro r ff (⟨eh,ei,aW,rfl,bX,c8,b3⟩|⟨⟨aX,bh⟩,ei,aW,rfl,ej,bY,b3⟩)
     ·have aY:=A.tree bX c8 b3;obtain⟨fg,fh,rfl,_⟩:=Ae bX;have bZ:=Ab aW;clear bX c8 aW;obtain⟨ek,b0⟩:∃l,l=W++eh:=⟨_,rfl⟩
      rw[<-b0]at aY|-;have c9:=Ab b0;clear b0;obtain⟨fi,fj⟩:=CI aY.F;have fk:=fun j=>aY.F.frozen j;have fl:=fun j=>(aY.F.set 0 (U V 0)).frozen j;have K:=aY.fault 0 0;obtain⟨fm,fn⟩:=CI K.F;obtain⟨u30,u31,u32,u33,fo⟩:=BN K.S;dsimp only;obtain⟨aZ,aD,b6⟩:=Zn (Aa bZ);obtain⟨fp,rfl,gc,fq⟩:=K.M.readX (i:=af) (t:=aZ) (by rw[Aa c9,b6];exact Zm c6 aD);have el:=Ab b6;have da:=Ab aD;clear b6 aD;by_cases aE:aZ=4
      ·have em:=Ab (Aa eg (by rw[<-aE];exact Aa da));have bW:(D).length=(z).length:=Aa bV;have en:(aZ !=4)=false:=by rw[aE];rfl
       clear aE;go_wp2
       go_roundw
       case rel=>exact⟨k+1,D,z,ek,aK,aL,_,_,Aa a4,by go_num,Ab ⟨Aa bw _ (by rw[ER,Aa ai,Aa c9,Aa el];exact Aa em),bW⟩,K.M,K.F,K.Rr,K.low,K.sizeX⟩
       case measure=>have:=Aa a4;simp[intOf];omega
      ·have aD:=Aa da;have en:(aZ !=4)=true:=zp.2 aE;have ay:=Ab (Aa aw (9,(af:Int)) (by rw[ER,Aa ai];exact Aa ee aZ aD aE));clear aE aD;have G:=K.below BRN.drew;obtain⟨aQ,aR⟩:=CI G.Rr;have aS:=fun j=>G.Rr.frozen j;obtain⟨bD,bE,bF,bG,bH⟩:=BN G.S;obtain⟨bI,bJ⟩:=CI K.Rr;have bK:=fun j=>K.Rr.frozen j;go_wp2_with fail
       go_region
       all_goals
        go_wp2_with fail
        exact AaK (f:=(9,af)) K.Rr (by rw[Aa P]) K.low (Aa ay) (by simp) (.inr rfl) fun aT aa ab=>by simp[results,results51,go_sem,aa,ab]
     ·have b7:=A.F.below b3 A.ord.2.2.1;have bi:=A.Rr.below b3 (by have:=A.ord;omega);have eo:=A.low.trans (b3.mono (by have:=A.ord;omega));have fr:(aX !=0)=true:=zp.2 bY;have ep:=Ab bY;have bZ:=Ab aW;clear bY aW;have bQ:g≠I:=by have:=A.ord;omega
      obtain⟨cS,cT⟩:=CI b7;have cU:=fun j=>b7.frozen j;have bR:=(eo.setCell (p:=⟨I,0,T⟩) (by have:=A.ord;show g<=I;omega) (U V aX)).setCell (p:=⟨I,1,T⟩) (by have:=A.ord;show g<=I;omega) (U V bh);obtain⟨bS,ae,bT,aV⟩:=Zv b7 bi bQ (U V aX) (U V bh);obtain⟨d1,d2⟩:=CI bS;obtain⟨d3,d4⟩:=CI ae;have d5:=fun j=>ae.frozen j;obtain⟨d6,d7⟩:=CI bT;obtain⟨aQ,aR⟩:=CI aV;have aS:=fun j=>aV.frozen j;dsimp only;rcases ej with rfl|⟨_,_,_,rfl⟩
      all_goals
       go_wp2_with fail
       go_region
      all_goals
       go_wp2_with fail
       exact AaK (f:=(aX,bh)) ae (by rw[Aa P]) bR (Aa aw (aX,bh) (by rw[ER,Aa ai];exact Aa ed _ (VW (Aa bZ)))) (Aa ep) (by first|exact .inr rfl|exact .inl rfl) fun aT aa ab=>by simp[results,results51,go_sem,aa,ab]
  ·have e:k=m:=by omega
   subst e;have eq:=Ab (show EW Es (JE,[],[]) L= .ok (CJ ns ts,ts,tt) by rw[<-(Aa ar).1,<-Aa cf,yA]);obtain⟨cS,cT⟩:=CI aG;have cU:=fun j=>aG.frozen j;have bi:=aG.set 0 (U V 0);have f1:=fun j=>bi.frozen j;have ae:=bi.set 1 (U V 0);have er:((wr.setCell ⟨g,0,T⟩ (U V 0)).setCell ⟨g,1,T⟩ (U V 0)).cell? ⟨g,0,T⟩=Y (U V 0):=ae.cell 0;have s1:((wr.setCell ⟨g,0,T⟩ (U V 0)).setCell ⟨g,1,T⟩ (U V 0)).cell? ⟨g,1,T⟩=Y (U V 0):=ae.cell 1;go_wp2_with fail
   refine bodyPost_ret (v:= .tuple #[X br tt.length bt,.pointer (Y ⟨o,0,T⟩),.agg #[U V 0,U V 0]]) (by simp[results,results51,go_sem,er,s1]) rfl (.inl ⟨B,o,ns,ts,tt,ak,lv,_,Aa eq,(Aa ar).2,rfl,?_,?_,?_⟩)
   ·exact(a3.set ⟨g,0,T⟩ _ (by show g<B;omega) (by show g≠o;omega)).set ⟨g,1,T⟩ _ (by show g<B;omega) (by show g≠o;omega)
   ·rw[Aa P];exact(Aa dw).1
   ·show Below _ _ _;rw[Aa P];exact(au.setCell (p:=⟨g,0,T⟩) (z0 g) _).setCell (p:=⟨g,1,T⟩) (z0 g) _
end Go.Proofs.YtppafecmccdplaaGreat

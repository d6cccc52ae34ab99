import Derived.Test.YtppafecmccdplaaGreatMXAK
import Derived.Deep.CutBlock
open Go.Proofs.Tryz
open Option renaming none->T,some->Y
open Go.Value renaming int->U,slice->X,string->Q,agg->jE
open Go.IntKind renaming i64->V
open Go renaming World->Z,Addr->jD
open Bool renaming true->R,false->jA
open Go.Obj renaming cells->jC
open ByteArray renaming empty->jK
open Go.Proofs.Tryz renaming prog->jL
namespace Go.Proofs.YtppafecmccdplaaGreat
set_option maxRecDepth 100000
set_option maxHeartbeats 6400000
open Go.RowKit
set_option linter.unusedVariables false
def NxP (X:List Sx) (j:Nat) (ls:List Ex) (D:List (Sx×Int)) (q:Sx×Int) (k:Int):Prop:=(k=3/\D++[q]=Lo [] X)\/(k≠3/\∃ts,Nh X (j+1) ls (D++[q]) ts)
def TrS (N:List Nd) (k:Int) (o:Option Ex):Prop:=(k= -1/\o=T)\/∃ (i:Nat) (e:Ex),k=i/\o=Y e/\Bu N i e/\Ix e
theorem AdJ:(jL.info? 99).map (fun i=>(i.zero,i.size,i.bytes))=Y (Y (jE #[U V 0,Q jK,U V 0,X T 0 0,X T 0 0]),5,80):=by kernel_rfl
def StA (X:List (Sx×Int)) (w:Z) (r:Ending) (w':Z):Prop:=(∃ (ov:Value) (ss:List S5),r= .returned ov/\w'.ownsRow w.heap.size 99 5 ov ss.length (ss.flatMap S5.cs)/\ss.length=X.length/\∀j,(h1:j<ss.length)->(h2:j<X.length)->∃lo hi,StQ w lo hi w' ss[j] X[j])/\An w w'
theorem Su.ans {B:Nat}{w a:Z}{lv b:Value}{f:List K5}{ls:List Ex}{ss:List S5}{d:List (Sx×Int)}(h:Su w B lv b f ls ss d a)(i:w.heap.size<=B)(k:An w a){X:List (Sx×Int)}(e:d=X):StA X w (.returned b) a:=by
 subst e;refine⟨⟨b,ss,rfl,?_,h.lenD.symm,fun j h1 c=>?_⟩,k⟩
 ·refine⟨h.out.1,?_⟩;rcases h.out.2 with q|⟨g,cap,l,h1,c,m⟩
  ·exact .inl q
  ·exact .inr ⟨g,cap,l,h1,zC i c,m⟩
 ·obtain⟨lo,hi,_,q⟩:=h.eachD j h1 c;exact⟨lo,hi,q⟩
theorem Xc (a b e:Option jD)(n c m d k f:Nat)(N:List Nd)(L:List St)(w:Z)(h1:IY w a n c N)(dh:NmQ w a N)(di:∀x∈N,Bb x=R)(b0:Ss w b m d L)(X:List Sx)(dj:X.length=L.length)(dk:∀j,(h:j<L.length)->∃x,X[j]? =Y x/\x.kind=L[j].kind/\x.name=L[j].name/\TrS N L[j].cond x.cond/\TrS N L[j].grant x.grant)(ak:Mg [] X)(dl:∀x∈X,x.kind=2->x.name=⟨#[]⟩)(dm:RwC w):
  Calls jL 46 #[jE #[.slice a n c,.slice b m d,.slice e k f]] w (StA (Lo [] X) w):=by
 obtain⟨ck,cl,cm,co,cp⟩:=info_parts Nq;obtain⟨eg,eh,ei,ej,ek⟩:=info_parts AdJ;have eU:=b0.small;have dn:=Ah.new w #[.slice a n c,.slice b m d,.slice e k f] 69;have dp:=AN w (Nr a n c b m d e k f);have el:(w.alloc (Nr a n c b m d e k f)).heap.size=w.heap.size+1:=by simp
 have dq:=Ab b0.len;have em:=Ab b0;have dr:=Ab h1;have ds:=Ab dh;have a7:=Ab di;have en:=Ab dk;have eo:=Ab dj;have ep:=Ab dl;have dt:=Ab dm;have eq:=Ab ak;clear h1 b0 dh di dk dj dl dm ak;go_enter func46,ntmps46
 go_wp2_with fail
 generalize w.alloc (Nr a n c b m d e k f)=du at dn dp el|-;have er:=Su.nil w (w.heap.size+1) du;go_loopw [3,4,11] (fun lv es i wr=>∃ (j:Nat) (al:List K5) (ls:List Ex) (ss:List S5) (S:List (Sx×Int)) (ts:List Int),j<=m/\i=U V j/\Hid (Nh X j ls S ts)/\Su w (w.heap.size+1) lv es al ls ss S wr/\Ah wr w.heap.size #[.slice a n c,.slice b m d,.slice e k f] 69/\An w wr/\w.heap.size+1<=wr.heap.size) (fun _ _ i _=>m-(intOf i).toNat)
 case atStart=>exact⟨0,[],[],[],[],[],zE _,rfl,Ab (Nh.start X (Aa eq)),er,dn,dp,by omega⟩
 case round=>
  obtain⟨j,al,ls,ss,S,ts,eV,rfl,I,ad,cq,b5,et⟩:=hrel;obtain⟨ae,W,dv,_⟩:=Ae ad.lets;obtain⟨aa,ab,eu,_⟩:=Ae ad.out;rw[<-ad.lenL]at dv;subst dv eu;by_cases cr:j<m
  ·have eW:(j:Int)<(m:Int):=by omega
   have a8:j<L.length:=by rw[Aa dq];exact cr
   obtain⟨bv,bw,rfl,ev,c0,c1,c2,c3⟩:=((Aa em).below b5 NLN).cells j a8;obtain⟨x,dw,dx,dy,dz,dA⟩:=Aa en j a8;have aR:=Ab dw;have aS:=Ab (And.intro dx dy);have b6:=Ab dz;have ct:=Ab dA;generalize L[j]=s at c0 c1 c2 c3 aS b6 ct;obtain⟨C,v,aT,aU⟩:=s;dsimp only at c0 c1 c2 c3 aS b6 ct;have dB:=Ab (show ls.length<=W by
    rcases ad.lets.2 with⟨q,_⟩|⟨_,_,_,q,_,_,a9,_⟩
    ·simp only[Value.slice.injEq]at q;omega
    ·simp only[Value.slice.injEq]at q;have:=ad.lenL;omega)
   have dC:=Ab (ad.ltq ad.lenL.symm);have bx:=Ab ad;have bp:=Ab cq;have ao:=Ab b5;have b7:=Ab cr;have bz:=Ab et;have dD:∀q,(Value.slice ae ls.length W).ownBlock=Y q->q<wr.heap.size:=fun q y=>(ad.lets.lt q y).2;have dE:∀q,(Value.slice aa ss.length ab).ownBlock=Y q->q<wr.heap.size:=fun q y=>(ad.out.lt q y).2;have aV:=Ab (And.intro dD dE);obtain⟨ew,ex,ey⟩:=Ao cq;clear cr a8 dw dx dy dz dA ad dD dE;go_upto_if 22 with fail
   have F:An wr ((wr.alloc (Xz C v aT aU)).alloc (jC #[U V C,Q v,U V 0,.slice T 0 0,.slice T 0 0] 99)):=((AN wr _).alloc (by simp) _)
   have RS:=(Ah.new wr #[U V C,Q v,U V aT,U V aU] 93).alloc (jC #[U V C,Q v,U V 0,.slice T 0 0,.slice T 0 0] 99);have O:=Ah.new (wr.alloc (Xz C v aT aU)) #[U V C,Q v,U V 0,.slice T 0 0,.slice T 0 0] 99;have dF:((wr.alloc (Xz C v aT aU)).alloc (jC #[U V C,Q v,U V 0,.slice T 0 0,.slice T 0 0] 99)).heap.size=wr.heap.size+2:=by simp
   simp only[World.size_alloc]at O;generalize (wr.alloc (Xz C v aT aU)).alloc (jC #[U V C,Q v,U V 0,.slice T 0 0,.slice T 0 0] 99)=t at F RS O dF|-;generalize eX:wr.heap.size=aW at RS O|-;generalize eY:aW+1=g at O|-;obtain⟨aC,dG⟩:∃aC,aC=x.cond.map (AX ls):=⟨_,rfl⟩
   obtain⟨go,dH⟩:∃go,go=x.grant.map (AX ls):=⟨_,rfl⟩
   have bA:=Ab dG;have br:=Ab dH;clear dG dH c0 c1 c2 c3 ev ew ex ey;go_cut [] (fun t=>∃ (ca:Option jD) (cn cc:Nat),Ah t aW #[U V C,Q v,U V aT,U V aU] 93/\Ah t g #[U V C,Q v,U V 0,.slice ca cn cc,.slice T 0 0] 99/\LV w (wr.heap.size+2) t.heap.size t aC ca cn/\An wr t/\wr.heap.size+2<=t.heap.size)
   case first=>
    rcases Aa b6 with⟨cu,bB⟩|⟨i,K,cv,aX,cw,bs⟩
    ·subst cu;have ba:=Ab (show ∃ (ca:Option jD) (cn cc:Nat),Ah t aW #[U V C,Q v,U V (-1),U V aU] 93/\Ah t g #[U V C,Q v,U V 0,.slice ca cn cc,.slice T 0 0] 99/\LV w (wr.heap.size+2) t.heap.size t aC ca cn/\An wr t/\wr.heap.size+2<=t.heap.size from⟨T,0,0,RS,O,by rw[Aa bA,bB];rfl,F,by omega⟩);obtain⟨ap,s1,s2,aq,-⟩:=BN RS;clear RS O F bB;go_wp2
     go_meet
     exact Aa ba
    ·subst cv;obtain⟨a5,ak⟩:∃a5,AE ts K=Y a5:=by
      rcases(Aa I).kinds (Aa aR)with⟨_,e1,bC,aP,a9,_⟩|⟨_,⟨e1,aP,a9⟩,_⟩|⟨_,aP,_⟩
      ·rw[aX]at aP;cases aP;exact⟨_,a9⟩
      ·rw[aX]at aP;cases aP;exact⟨_,a9⟩
      ·rw[aX]at aP;cases aP
     have bD:=Ab (Fd (TS w a n c N (Aa dr) (Aa ds) (Aa a7) cw t.drew ((Aa ao).trans (F.drew.mono (Aa ao).size))) (fun e w' ⟨k,h,_⟩=>⟨_,h⟩));have RT:=(Aa bp).after F NLN;have aY:=(Brw t).drew;have bE:=O.after aY NLN;have bF:=RS.after aY NLN;obtain⟨cx,bC,cy⟩:=Ao RT;obtain⟨ap,s1,s2,aq,-⟩:=BN RS;obtain⟨ar,au,av,aw,ax,ay⟩:=Aq O;have cz:(Tryz.f53.name== "runtime.NumGoroutine")=jA:=by kernel_rfl
     have cA: Tryz.f53.body.isNone=jA:=by kernel_rfl
     have cB:(Tryz.f73.name== "runtime.NumGoroutine")=jA:=by kernel_rfl
     have cC: Tryz.f73.body.isNone=jA:=by kernel_rfl
     have ez:(0 :Int)<=(i:Int):=by omega
     go_wp2_with fail
     go_region_law (first
      |(refine Bf rfl 53 _ func53 cz cA _ _ _ rfl (.slice a n c) (U V (i:Int)) rfl rfl _ (Aa bD) ?_;rintro eA cD ⟨D,cE,bG,aZ⟩;obtain rfl:=AS cE;have af:=aY.trans (aZ.mono NLN);have bH:=Ab (Fd (Aa dt ls ts (Aa I).lt (Aa I).len (Aa I).ok (Aa I).ops ae W (Aa dB) K a5 D cD ak bs (by have:=af.size;omega) (Tl.tq bG) ((Aa dC).below (F.trans (af.mono F.size)) NLN)) (fun e w' ⟨k,h,_⟩=>⟨_,h⟩));have bb:=bE.after aZ NLN;have bI:=bF.after aZ NLN;obtain⟨cF,a8,cG,cH,cI,cJ⟩:=Aq bb;clear bG)
      |(refine Bf rfl 73 _ func73 cB cC _ _ _ rfl (jE #[U V D.op,U V D.num,Q D.text,.slice D.an D.nn D.cn,.slice D.ka D.kn D.kc]) (.slice ae ls.length W) rfl rfl _ (Aa bH) ?_;rintro eB ag ⟨cK,bJ,bc,aD⟩;obtain rfl:=AS bJ;obtain⟨aE,aF,aG,aH,aI,aJ,aK,aL,aM⟩:=cK;dsimp only at bJ bc|-;have a0:=bb.after aD NLN;have bK:=bI.after aD NLN;have bd:=af.trans (aD.mono af.size);obtain⟨cL,l1,cM,cN,cO,cP⟩:=Aq a0;obtain⟨cQ,cS,cT,cU,cV,cW⟩:=Aq (a0.alloc (Bs aE aF aG aH aI aJ aK aL aM));have az:=World.news_of_block (heap_alloc_new ag (Bs aE aF aG aH aI aJ aK aL aM)))
      |(refine step_append_lies _ rfl _ _ 97 rfl ag.heap.size 101 ck (jE #[U V 0,U V 0,Q jK,.slice T 0 0,.slice T 0 0]) 5 80 underlying97 cl cm co cp rfl (by decide) (.slice T 0 0) 0 [] rfl (World.ownsRow_nil _ _ _ _) ⟨ag.heap.size,0,T⟩ 1 1 (K5.cs ⟨aE,aF,aG,aH,aI,aJ,aK,aL,aM⟩) rfl rfl az (by intro u hu;simp[K5.cs]at hu;rcases hu with rfl|rfl|rfl|rfl|rfl<;>rfl) (by decide) (by unfold maxLen;omega) (by omega) (by simp) _ rfl ?_;intro g7 z l aA J hat bL;have ah:=(AN ag (Bs aE aF aG aH aI aJ aK aL aM)).grown J (by simp) (fun q y=>by cases y);have ac:=a0.after ah NLN;have bM:=bK.after ah NLN;have eC:l.cell? ⟨g,3,T⟩=Y (.slice T 0 0):=ac.cell 3;have eD:=ac.frozen 3))
     all_goals
      have bf:=bd.trans (ah.mono bd.size);have eE:=af.size;have eF:=aD.size;have eG:=ah.size;have eH:ag.heap.size<=g7/\g7<l.heap.size:=⟨(aA.lt g7 rfl).1,(aA.lt g7 rfl).2⟩
      have aB:∀hi,Cp w (wr.heap.size+2) hi l (l.setCell ⟨g,3,T⟩ (.slice (Y ⟨g7,0,T⟩) 1 z)):=fun hi=>⟨by simp,fun q y _=>heap_setCell_other l ⟨g,3,T⟩ q _ (by show q≠g;omega),CW.set ac (by decide) _ _⟩
      have bN:AO l (Y ⟨g7,0,T⟩) [(⟨aE,aF,aG,aH,aI,aJ,aK,aL,aM⟩:K5)]:=Et (m:=1) (B:=ag.heap.size) (kc:=z) (by simpa using aA) rfl;have cX:LV w (wr.heap.size+2) l.heap.size (l.setCell ⟨g,3,T⟩ (.slice (Y ⟨g7,0,T⟩) 1 z)) (Y (AX ls K)) (Y ⟨g7,0,T⟩) 1:=(show LV w (wr.heap.size+2) l.heap.size l (Y (AX ls K)) (Y ⟨g7,0,T⟩) 1 from⟨rfl,fun q o h=>by simp only[Option.some.injEq,Addr.mk.injEq]at h;omega,_,bN,(bc.keep (Cp.of_below ah)).monoI (by omega) (by omega)⟩).keep (aB _);have bO:=ac.set 3 (.slice (Y ⟨g7,0,T⟩) 1 z);simp only[zV,zX,zQ]at bO;have cY:=bM.setFar (p:=⟨g,3,T⟩) (by show aW≠g;omega) (.slice (Y ⟨g7,0,T⟩) 1 z);have cZ:=(F.trans (bf.mono F.size)).setCell (p:=⟨g,3,T⟩) (by show wr.heap.size<=g;omega) (.slice (Y ⟨g7,0,T⟩) 1 z);have b8:(l.setCell ⟨g,3,T⟩ (.slice (Y ⟨g7,0,T⟩) 1 z)).heap.size=l.heap.size:=by simp
      have ba:=Ab (show ∃ (ca:Option jD) (cn cc:Nat),Ah (l.setCell ⟨g,3,T⟩ (.slice (Y ⟨g7,0,T⟩) 1 z)) aW #[U V C,Q v,U V (i:Int),U V aU] 93/\Ah (l.setCell ⟨g,3,T⟩ (.slice (Y ⟨g7,0,T⟩) 1 z)) g #[U V C,Q v,U V 0,.slice ca cn cc,.slice T 0 0] 99/\LV w (wr.heap.size+2) (l.setCell ⟨g,3,T⟩ (.slice (Y ⟨g7,0,T⟩) 1 z)).heap.size (l.setCell ⟨g,3,T⟩ (.slice (Y ⟨g7,0,T⟩) 1 z)) aC ca cn/\An wr (l.setCell ⟨g,3,T⟩ (.slice (Y ⟨g7,0,T⟩) 1 z))/\wr.heap.size+2<=(l.setCell ⟨g,3,T⟩ (.slice (Y ⟨g7,0,T⟩) 1 z)).heap.size from⟨_,_,_,cY,bO,by rw[Aa bA,aX,b8];exact cX,cZ,by omega⟩);clear bD RT bE bF aY cx bC cy ap s1 s2 aq ar au av aw ax ay bb bI a0 bK ac bM aZ aD ah af bd bf J hat bL aA az bN bc bH cF a8 cG cH cI cJ cQ cS cT cU cV cW cL l1 cM cN cO cP aB;go_wp2
      go_meet
      exact Aa ba
   case rest=>
    obtain⟨ca,cn,cc,aN,ai,bP,aj,c4⟩:=hcut;clear RS O F dF;obtain⟨ap,s1,s2,aq,-⟩:=BN aN;go_upto_if 37 with fail
    clear ap s1 s2 aq;generalize wc=t at aN ai bP aj c4|-;have RS:=aN;have O:=ai;have F:=aj;clear aN ai aj;go_cut [] (fun t=>∃ (ga:Option jD) (gn gc:Nat),Ah t aW #[U V C,Q v,U V aT,U V aU] 93/\Ah t g #[U V C,Q v,U V 0,.slice ca cn cc,.slice ga gn gc] 99/\LV w (wr.heap.size+2) t.heap.size t aC ca cn/\LV w (wr.heap.size+2) t.heap.size t go ga gn/\An wr t/\wr.heap.size+2<=t.heap.size)
    case first=>
     rcases Aa ct with⟨cu,bB⟩|⟨i,K,cv,aX,cw,bs⟩
     ·subst cu;have ba:=Ab (show ∃ (ga:Option jD) (gn gc:Nat),Ah t aW #[U V C,Q v,U V aT,U V (-1)] 93/\Ah t g #[U V C,Q v,U V 0,.slice ca cn cc,.slice ga gn gc] 99/\LV w (wr.heap.size+2) t.heap.size t aC ca cn/\LV w (wr.heap.size+2) t.heap.size t go ga gn/\An wr t/\wr.heap.size+2<=t.heap.size from⟨T,0,0,RS,O,bP,by rw[Aa br,bB];rfl,F,c4⟩);obtain⟨ap,s1,s2,aq,-⟩:=BN RS;clear RS O F bB bP;go_wp2
      go_meet
      exact Aa ba
     ·subst cv;obtain⟨a5,ak⟩:∃a5,AE ts K=Y a5:=by
       rcases(Aa I).kinds (Aa aR)with⟨_,e1,bC,aP,a9,a1,_⟩|⟨_,_,a1,_⟩|⟨_,aP,a1,_⟩
       ·rw[aX]at a1;cases a1
       ·rw[aX]at a1;exact⟨_,a1⟩
       ·rw[aX]at a1;exact⟨_,a1⟩
      have bD:=Ab (Fd (TS w a n c N (Aa dr) (Aa ds) (Aa a7) cw t.drew ((Aa ao).trans (F.drew.mono (Aa ao).size))) (fun e w' ⟨k,h,_⟩=>⟨_,h⟩));have RT:=(Aa bp).after F NLN;have aY:=(Brw t).drew;have bE:=O.after aY NLN;have bF:=RS.after aY NLN;obtain⟨cx,bC,cy⟩:=Ao RT;obtain⟨ap,s1,s2,aq,-⟩:=BN RS;obtain⟨ar,au,av,aw,ax,ay⟩:=Aq O;have cz:(Tryz.f53.name== "runtime.NumGoroutine")=jA:=by kernel_rfl
      have cA: Tryz.f53.body.isNone=jA:=by kernel_rfl
      have cB:(Tryz.f73.name== "runtime.NumGoroutine")=jA:=by kernel_rfl
      have cC: Tryz.f73.body.isNone=jA:=by kernel_rfl
      have ez:(0 :Int)<=(i:Int):=by omega
      go_wp2_with fail
      go_region_law (first
       |(refine Bf rfl 53 _ func53 cz cA _ _ _ rfl (.slice a n c) (U V (i:Int)) rfl rfl _ (Aa bD) ?_;rintro eA cD ⟨D,cE,bG,aZ⟩;obtain rfl:=AS cE;have af:=aY.trans (aZ.mono NLN);have bH:=Ab (Fd (Aa dt ls ts (Aa I).lt (Aa I).len (Aa I).ok (Aa I).ops ae W (Aa dB) K a5 D cD ak bs (by have:=af.size;omega) (Tl.tq bG) ((Aa dC).below (F.trans (af.mono F.size)) NLN)) (fun e w' ⟨k,h,_⟩=>⟨_,h⟩));have bb:=bE.after aZ NLN;have bI:=bF.after aZ NLN;obtain⟨cF,a8,cG,cH,cI,cJ⟩:=Aq bb;clear bG)
       |(refine Bf rfl 73 _ func73 cB cC _ _ _ rfl (jE #[U V D.op,U V D.num,Q D.text,.slice D.an D.nn D.cn,.slice D.ka D.kn D.kc]) (.slice ae ls.length W) rfl rfl _ (Aa bH) ?_;rintro eB ag ⟨cK,bJ,bc,aD⟩;obtain rfl:=AS bJ;obtain⟨aE,aF,aG,aH,aI,aJ,aK,aL,aM⟩:=cK;dsimp only at bJ bc|-;have a0:=bb.after aD NLN;have bK:=bI.after aD NLN;have bd:=af.trans (aD.mono af.size);obtain⟨cL,l1,cM,cN,cO,cP⟩:=Aq a0;obtain⟨cQ,cS,cT,cU,cV,cW⟩:=Aq (a0.alloc (Bs aE aF aG aH aI aJ aK aL aM));have az:=World.news_of_block (heap_alloc_new ag (Bs aE aF aG aH aI aJ aK aL aM)))
       |(refine step_append_lies _ rfl _ _ 97 rfl ag.heap.size 101 ck (jE #[U V 0,U V 0,Q jK,.slice T 0 0,.slice T 0 0]) 5 80 underlying97 cl cm co cp rfl (by decide) (.slice T 0 0) 0 [] rfl (World.ownsRow_nil _ _ _ _) ⟨ag.heap.size,0,T⟩ 1 1 (K5.cs ⟨aE,aF,aG,aH,aI,aJ,aK,aL,aM⟩) rfl rfl az (by intro u hu;simp[K5.cs]at hu;rcases hu with rfl|rfl|rfl|rfl|rfl<;>rfl) (by decide) (by unfold maxLen;omega) (by omega) (by simp) _ rfl ?_;intro g7 z l aA J hat bL;have ah:=(AN ag (Bs aE aF aG aH aI aJ aK aL aM)).grown J (by simp) (fun q y=>by cases y);have ac:=a0.after ah NLN;have bM:=bK.after ah NLN;have eC:l.cell? ⟨g,4,T⟩=Y (.slice T 0 0):=ac.cell 4;have eD:=ac.frozen 4))
      all_goals
       have bf:=bd.trans (ah.mono bd.size);have eE:=af.size;have eF:=aD.size;have eG:=ah.size;have eH:ag.heap.size<=g7/\g7<l.heap.size:=⟨(aA.lt g7 rfl).1,(aA.lt g7 rfl).2⟩
       have aB:∀hi,Cp w (wr.heap.size+2) hi l (l.setCell ⟨g,4,T⟩ (.slice (Y ⟨g7,0,T⟩) 1 z)):=fun hi=>⟨by simp,fun q y _=>heap_setCell_other l ⟨g,4,T⟩ q _ (by show q≠g;omega),CW.set ac (by decide) _ _⟩
       have bN:AO l (Y ⟨g7,0,T⟩) [(⟨aE,aF,aG,aH,aI,aJ,aK,aL,aM⟩:K5)]:=Et (m:=1) (B:=ag.heap.size) (kc:=z) (by simpa using aA) rfl;have cX:LV w (wr.heap.size+2) l.heap.size (l.setCell ⟨g,4,T⟩ (.slice (Y ⟨g7,0,T⟩) 1 z)) (Y (AX ls K)) (Y ⟨g7,0,T⟩) 1:=(show LV w (wr.heap.size+2) l.heap.size l (Y (AX ls K)) (Y ⟨g7,0,T⟩) 1 from⟨rfl,fun q o h=>by simp only[Option.some.injEq,Addr.mk.injEq]at h;omega,_,bN,(bc.keep (Cp.of_below ah)).monoI (by omega) (by omega)⟩).keep (aB _);have bO:=ac.set 4 (.slice (Y ⟨g7,0,T⟩) 1 z);simp only[zV,zX,zQ]at bO;have cY:=bM.setFar (p:=⟨g,4,T⟩) (by show aW≠g;omega) (.slice (Y ⟨g7,0,T⟩) 1 z);have cZ:=(F.trans (bf.mono F.size)).setCell (p:=⟨g,4,T⟩) (by show wr.heap.size<=g;omega) (.slice (Y ⟨g7,0,T⟩) 1 z);have b8:(l.setCell ⟨g,4,T⟩ (.slice (Y ⟨g7,0,T⟩) 1 z)).heap.size=l.heap.size:=by simp
       have dI:=((bP.keep (Cp.of_below bf)).keep (aB _)).mono (lo':=wr.heap.size+2) (hi':=l.heap.size) NLN bf.size;have ba:=Ab (show ∃ (ga:Option jD) (gn gc:Nat),Ah (l.setCell ⟨g,4,T⟩ (.slice (Y ⟨g7,0,T⟩) 1 z)) aW #[U V C,Q v,U V aT,U V (i:Int)] 93/\Ah (l.setCell ⟨g,4,T⟩ (.slice (Y ⟨g7,0,T⟩) 1 z)) g #[U V C,Q v,U V 0,.slice ca cn cc,.slice ga gn gc] 99/\LV w (wr.heap.size+2) (l.setCell ⟨g,4,T⟩ (.slice (Y ⟨g7,0,T⟩) 1 z)).heap.size (l.setCell ⟨g,4,T⟩ (.slice (Y ⟨g7,0,T⟩) 1 z)) aC ca cn/\LV w (wr.heap.size+2) (l.setCell ⟨g,4,T⟩ (.slice (Y ⟨g7,0,T⟩) 1 z)).heap.size (l.setCell ⟨g,4,T⟩ (.slice (Y ⟨g7,0,T⟩) 1 z)) go ga gn/\An wr (l.setCell ⟨g,4,T⟩ (.slice (Y ⟨g7,0,T⟩) 1 z))/\wr.heap.size+2<=(l.setCell ⟨g,4,T⟩ (.slice (Y ⟨g7,0,T⟩) 1 z)).heap.size from⟨_,_,_,cY,bO,by rw[b8];exact dI,by rw[Aa br,aX,b8];exact cX,cZ,by omega⟩);clear bD RT bE bF aY cx bC cy ap s1 s2 aq ar au av aw ax ay bb bI a0 bK ac bM aZ aD ah af bd bf J hat bL aA az bN bc bH cF a8 cG cH cI cJ cQ cS cT cU cV cW cL l1 cM cN cO cP aB;clear dI;go_wp2
       go_meet
       exact Aa ba
    case rest=>
     obtain⟨ga,gn,gc,aN,ai,bt,bg,aj,eZ⟩:=hcut;clear RS O F c4 bP;go_upto_block 2 with fail
     go_cut [3] (fun lv t=>∃ (A nq:Int) (E:Option jD) (G H:Nat) (aQ:List K5) (P:List Ex) (q:Sx×Int),Ah t g #[U V A,Q v,U V nq,.slice E G H,.slice ga gn gc] 99/\Su w (w.heap.size+1) lv (.slice aa ss.length ab) aQ P ss S t/\Ah t w.heap.size #[.slice a n c,.slice (Y ⟨bv,bw,T⟩) m d,.slice e k f] 69/\An w t/\∃hi,Iv (w.heap.size+1) lv (.slice aa ss.length ab) t (wr.heap.size+2) hi/\StQ w (wr.heap.size+2) hi t ⟨A,v,nq,E,G,H,ga,gn,gc⟩ q/\Hid (NxP X j P S q A))
     case first=>
      have bQ:=(Aa ao).trans (aj.mono (Aa ao).size);have RT:=(Aa bp).after aj NLN;have bR:=(Aa bx).below aj;obtain⟨ar,au,av,aw,ax,ay⟩:=Aq ai;obtain⟨ap,s1,s2,aq,-⟩:=BN aN;rcases(Aa I).kinds (Aa aR)with⟨hk,K,a5,hc,ak,hg,bh⟩|⟨hk,⟨K,hc,ak⟩,hg,bh⟩|⟨hk,hc,hg,bh⟩
      ·obtain rfl:C=1:=by rw[<-(Aa aS).1];exact hk
       obtain rfl:aC=Y (AX ls K):=by rw[Aa bA,hc];rfl
       obtain⟨rfl,bS,a6,bT,bU⟩:=bt;have bs:Ix K:=by
        rcases Aa b6 with⟨_,q⟩|⟨_,e1,_,q,_,a9⟩
        ·rw[hc]at q;cases q
        ·rw[hc]at q;cases q;exact a9
       have aB:Cp w (wr.heap.size+2) wc.heap.size wc (wc.setCell ⟨g,2,T⟩ (U V ls.length)):=⟨by simp,fun q y _=>heap_setCell_other wc ⟨g,2,T⟩ q _ (by show q≠g;omega),CW.set ai (by decide) _ _⟩
       have c5:=Gw aB.1 bT (fun b o e eI=>aB.2.1 b (bS b o e) eI);have c6:=bU.keep aB;have dJ:LV w (wr.heap.size+2) wc.heap.size (wc.setCell ⟨g,2,T⟩ (U V ls.length)) (Y (AX ls K)) ca 1:=⟨rfl,bS,a6,c5,c6⟩
       have dK:=bg.keep aB;have aO:=ai.set 2 (U V ls.length);simp only[zV,zX,zQ]at aO;have b9:=aj.setCell (p:=⟨g,2,T⟩) (by show wr.heap.size<=g;omega) (U V ls.length);have dL:(wc.setCell ⟨g,2,T⟩ (U V ls.length)).heap.size=wc.heap.size:=by simp
       have bi:=Ab ((Aa bx).below b9);have cb:=Ab ((Aa bp).after b9 NLN);have bV:=Ab ((Aa ao).trans (b9.mono (Aa ao).size));obtain⟨gk,ok,rfl,bu,bW⟩:=Bp c5 (by simp);obtain⟨bj,b1,b2,b3,b4⟩:=bW 0 (by simp);simp only[z3,zw,ze]at bj b1 b2 b3 b4;obtain⟨dM,dN,dO,dP,dQ,-⟩:=Aq aO;obtain⟨cd,dR⟩:∃cd,cd=wc.setCell ⟨g,2,T⟩ (U V ls.length):=⟨_,rfl⟩
       have dS:=Ab dR;have bX:=World.ownsRow.alloc (Aa bi).lets (CZ a6);have az:=World.news_of_block (heap_alloc_new (wc.setCell ⟨g,2,T⟩ (U V ls.length)) (CZ a6));rw[dL]at az;have e0:al.length<=1048576:=by have:=(Aa I).sm;have:=(Aa bx).lenL;omega
       have bk:=Ab (⟨dJ,dK,c6,aO,trivial⟩:_/\_/\_/\_/\True);have bY:=Ab (And.intro hc (And.intro ak (And.intro bh bs)));clear dR dJ dK c6 aO bW aB bT c5 bU bS bQ RT bR bg b9 hc ak hg bh bs ai aN aj;go_wp2_with (at_builtin;refine wpList_append_lies _ rfl _ _ 97 rfl (w.heap.size+1) 101 ck (jE #[U V 0,U V 0,Q jK,.slice T 0 0,.slice T 0 0]) 5 80 underlying97 cl cm co cp rfl (by decide) (.slice ae ls.length W) al.length (al.flatMap K5.cs) rfl bX ⟨wc.heap.size,0,T⟩ 1 1 (K5.cs a6) rfl rfl az (by intro u hu;simp[K5.cs]at hu;rcases hu with rfl|rfl|rfl|rfl|rfl<;>rfl) (by decide) (by unfold maxLen;omega) (by omega) (by simp;omega) _ rfl ?_)
       intro g7 c7 l aA J hat bL;rw[<-Aa dS]at J bi cb bV bk;have eJ:cd.heap.size=wc.heap.size:=by rw[Aa dS];exact dL
       have bl:Iv (w.heap.size+1) (.slice ae ls.length W) (.slice aa ss.length ab) cd (wr.heap.size+2) wc.heap.size:=⟨by have:=Aa bz;omega,by omega,fun q y=> .inl (by have:=(Aa aV).1 q y;omega),fun q y=> .inl (by have:=(Aa aV).2 q y;omega)⟩
       obtain⟨dT,c8⟩:=(Aa bi).pushL (zh _) bl (Aa bk).2.2.1 aA J (hat.imp id (fun h=>by rw[h];simp[eJ]));have ac:=((Aa bk).2.2.2.1.alloc (CZ a6)).grown J (fun e=>Ac (Aa bk).2.2.2.1 (Aa bi).lets (by decide) e.symm);have dU:=((Aa cb).alloc (CZ a6)).grown J (fun e=>Ac (Aa cb) (Aa bi).lets (by decide) e.symm);have dV:=((Aa bV).alloc (Aa bV).size (CZ a6)).grown J (by simp;have:=(Aa bV).size;omega) (fun q y=>by have:=((Aa bi).lets.lt q y).1;omega);have dW:Iv (w.heap.size+1) (.slice (Y ⟨g7,0,T⟩) (al.length+1) c7) (.slice aa ss.length ab) l (wr.heap.size+2) wc.heap.size:=⟨bl.1,by have:=J.size;simp at this;omega,fun q y=>by
        have e:g7=q:=by simpa[Value.ownBlock]using y
        subst e;rcases hat with h|h
        ·exact bl.2.2.1 g7 h
        ·right;rw[h];simp,bl.2.2.2⟩
       have bm:=Ab (show ∃ (A nq:Int) (E:Option jD) (G H:Nat) (aQ:List K5) (P:List Ex) (q:Sx×Int),Ah l g #[U V A,Q v,U V nq,.slice E G H,.slice ga gn gc] 99/\Su w (w.heap.size+1) (.slice (Y ⟨g7,0,T⟩) (al.length+1) c7) (.slice aa ss.length ab) aQ P ss S l/\Ah l w.heap.size #[.slice a n c,.slice (Y ⟨bv,bw,T⟩) m d,.slice e k f] 69/\An w l/\∃hi,Iv (w.heap.size+1) (.slice (Y ⟨g7,0,T⟩) (al.length+1) c7) (.slice aa ss.length ab) l (wr.heap.size+2) hi/\StQ w (wr.heap.size+2) hi l ⟨A,v,nq,E,G,H,ga,gn,gc⟩ q/\Hid (NxP X j P S q A)from⟨1,ls.length,_,1,cc,_,_,(Ga ls x,(ls.length:Int)),ac,dT,dU,dV,wc.heap.size,dW,⟨hk.symm,(Aa aS).2.symm,rfl,by show LV _ _ _ _ (x.cond.map (AX ls)) _ _;rw[(Aa bY).1];exact(Aa bk).1.keep (c8 _ _ bl),by show LV _ _ _ _ (x.grant.map (AX ls)) _ _;rw[<-Aa br];exact(Aa bk).2.1.keep (c8 _ _ bl)⟩,Ab (.inr ⟨by decide,_,(Aa I).lett (Aa aR) hk (Aa bY).1 (Aa bY).2.1 (Aa bY).2.2.1 (Aa bY).2.2.2⟩)⟩);clear dT c8 ac dU dV dW bl J hat bL aA bX az bi cb bV bk bj b1 b2 b3 b4 dM dN dO dP dQ ar au av aw ax ay ap s1 s2 aq;go_wp2
       go_meet
       exact Aa bm
      ·obtain rfl:C=2:=by rw[<-(Aa aS).1];exact hk
       obtain rfl:aC=Y (AX ls K):=by rw[Aa bA,hc];rfl
       have eK:=Ab bt;obtain⟨rfl,bS,a6,bT,bU⟩:=bt;have dX:Bi (AX ls K)=R:=Cv _ _ (DR (Aa I).lt K 1 ak);obtain⟨gk,ok,rfl,bu,bW⟩:=Bp bT (by simp);obtain⟨bj,b1,b2,b3,b4⟩:=bW 0 (by simp);simp only[z3,zw,ze]at bj b1 b2 b3 b4;have dY:=Ab (Tl.tq bU);have bn:=Ab (And.intro hc bh);have ce:=Ab ai;have dZ:=Ab bg;have d0:=Ab bQ;have eL:=Ab RT;have eM:=Ab bR;have a7:=Ab aj;have eN:=Ab aN;clear bS bT bU bW hc bh ak hg bg bQ RT bR ai aN aj;go_wp2_with fail
       refine(Gb (Aa dY) dX jA 0 rfl).mono ?_;rintro r du ⟨rfl,a2⟩;dsimp only;clear ar au av aw ax ay ap s1 s2 aq;obtain⟨ar,au,av,aw,ax,ay⟩:=Aq ((Aa ce).after a2 NLN);obtain⟨ap,s1,s2,aq,-⟩:=BN ((Aa eN).after a2 NLN);replace bj:=(a2.cell (p:=⟨gk,ok,T⟩) bu).trans bj;replace b1:=(a2.cell (p:=⟨gk,ok+1,T⟩) bu).trans b1;replace b2:=(a2.cell (p:=⟨gk,ok+2,T⟩) bu).trans b2;replace b3:=(a2.cell (p:=⟨gk,ok+3,T⟩) bu).trans b3;replace b4:=(a2.cell (p:=⟨gk,ok+4,T⟩) bu).trans b4;have bo:=Ab a2;clear a2;cases cf:isB jA (AX ls K)with
       |true=>
        have eO:=Ab ((Aa I).skip (Aa aR) hk (Aa bn).2 (by show La jA (x.cond.map (AX ls))=R;rw[(Aa bn).1];exact cf));clear cf;go_wp2
        go_roundw
        case rel=>exact⟨j+1,al,ls,ss,S,ts,Aa b7,by go_num,eO,(Aa eM).below (Aa bo),(Aa eL).after (Aa bo) NLN,(Aa d0).trans ((Aa bo).mono (Aa d0).size),by have:=(Aa bo).size;have:=Aa bz;omega⟩
        case measure=>have:=Aa b7;simp[intOf];omega
       |false=>
        have d1:=Ab (show La jA (Ga ls x).cond=jA by show La jA (x.cond.map (AX ls))=jA;rw[(Aa bn).1];exact cf);clear cf;go_wp2_with fail
        refine(Gb ((Aa dY).below (Aa bo) NLN) dX R 1 rfl).mono ?_;rintro r M ⟨rfl,d2⟩;have a3:=(Aa bo).trans (d2.mono (Aa bo).size);dsimp only;clear ar au av aw ax ay ap s1 s2 aq bj b1 b2 b3 b4 d2;have aO:=(Aa ce).after a3 NLN;obtain⟨ar,au,av,aw,ax,ay⟩:=Aq aO;have d3:=a3.size;cases cg:isB R (AX ls K)with
        |true=>
         have bZ:=aO.set 0 (U V 3);simp only[zV,zX]at bZ;have c9:=bZ.set 3 (.slice T 0 0);simp only[zV,zX,zQ]at c9;have d4:Cp w (wr.heap.size+2) wc.heap.size M (M.setCell ⟨g,0,T⟩ (U V 3)):=⟨by simp,fun q y _=>heap_setCell_other M ⟨g,0,T⟩ q _ (by show q≠g;omega),CW.set aO (by decide) _ _⟩
         have d5:Cp w (wr.heap.size+2) wc.heap.size (M.setCell ⟨g,0,T⟩ (U V 3)) ((M.setCell ⟨g,0,T⟩ (U V 3)).setCell ⟨g,3,T⟩ (.slice T 0 0)):=⟨by simp,fun q y _=>heap_setCell_other _ ⟨g,3,T⟩ q _ (by show q≠g;omega),CW.set bZ (by decide) _ _⟩
         have a4:=(((Aa a7).trans (a3.mono (Aa a7).size)).setCell (p:=⟨g,0,T⟩) (by show wr.heap.size<=g;omega) (U V 3)).setCell (p:=⟨g,3,T⟩) (by show wr.heap.size<=g;omega) (.slice T 0 0);have eP:((M.setCell ⟨g,0,T⟩ (U V 3)).setCell ⟨g,3,T⟩ (.slice T 0 0)).heap.size=M.heap.size:=by simp
         obtain⟨dM,dN,dO,dP,dQ,e2⟩:=Aq bZ;have bm:=Ab (show ∃ (A nq:Int) (E:Option jD) (G H:Nat) (aQ:List K5) (P:List Ex) (q:Sx×Int),Ah ((M.setCell ⟨g,0,T⟩ (U V 3)).setCell ⟨g,3,T⟩ (.slice T 0 0)) g #[U V A,Q v,U V nq,.slice E G H,.slice ga gn gc] 99/\Su w (w.heap.size+1) (.slice ae ls.length W) (.slice aa ss.length ab) aQ P ss S ((M.setCell ⟨g,0,T⟩ (U V 3)).setCell ⟨g,3,T⟩ (.slice T 0 0))/\Ah ((M.setCell ⟨g,0,T⟩ (U V 3)).setCell ⟨g,3,T⟩ (.slice T 0 0)) w.heap.size #[.slice a n c,.slice (Y ⟨bv,bw,T⟩) m d,.slice e k f] 69/\An w ((M.setCell ⟨g,0,T⟩ (U V 3)).setCell ⟨g,3,T⟩ (.slice T 0 0))/\∃hi,Iv (w.heap.size+1) (.slice ae ls.length W) (.slice aa ss.length ab) ((M.setCell ⟨g,0,T⟩ (U V 3)).setCell ⟨g,3,T⟩ (.slice T 0 0)) (wr.heap.size+2) hi/\StQ w (wr.heap.size+2) hi ((M.setCell ⟨g,0,T⟩ (U V 3)).setCell ⟨g,3,T⟩ (.slice T 0 0)) ⟨A,v,nq,E,G,H,ga,gn,gc⟩ q/\Hid (NxP X j P S q A)from⟨3,0,T,0,0,al,ls,(⟨x.at',3,⟨#[]⟩,T,(Ga ls x).grant⟩,0),c9,(Aa bx).below a4,(Aa bp).after a4 NLN,(Aa ao).trans (a4.mono (Aa ao).size),wc.heap.size,⟨by have:=Aa bz;omega,by rw[eP];exact d3,fun q y=> .inl (by have:=(Aa aV).1 q y;omega),fun q y=> .inl (by have:=(Aa aV).2 q y;omega)⟩,⟨rfl,by show v=⟨#[]⟩;rw[<-(Aa aS).2];exact Aa ep x (zu (Aa aR)) hk,rfl,rfl,by show LV _ _ _ _ (x.grant.map (AX ls)) _ _;rw[<-Aa br];exact(((Aa dZ).keep (Cp.of_below a3)).keep d4).keep d5⟩,Ab (.inl ⟨rfl,(Aa I).tru (Aa aR) hk (Aa d1) (by show La R (x.cond.map (AX ls))=R;rw[(Aa bn).1];exact cg)⟩)⟩);clear cg aO bZ c9 d4 d5 a4 a3;go_wp2
         go_meet
         exact Aa bm
        |false=>
         have a4:=(Aa a7).trans (a3.mono (Aa a7).size);have bm:=Ab (show ∃ (A nq:Int) (E:Option jD) (G H:Nat) (aQ:List K5) (P:List Ex) (q:Sx×Int),Ah M g #[U V A,Q v,U V nq,.slice E G H,.slice ga gn gc] 99/\Su w (w.heap.size+1) (.slice ae ls.length W) (.slice aa ss.length ab) aQ P ss S M/\Ah M w.heap.size #[.slice a n c,.slice (Y ⟨bv,bw,T⟩) m d,.slice e k f] 69/\An w M/\∃hi,Iv (w.heap.size+1) (.slice ae ls.length W) (.slice aa ss.length ab) M (wr.heap.size+2) hi/\StQ w (wr.heap.size+2) hi M ⟨A,v,nq,E,G,H,ga,gn,gc⟩ q/\Hid (NxP X j P S q A)from⟨2,0,Y ⟨gk,ok,T⟩,1,cc,al,ls,(Ga ls x,0),aO,(Aa bx).below a4,(Aa bp).after a4 NLN,(Aa ao).trans (a4.mono (Aa ao).size),wc.heap.size,⟨by have:=Aa bz;omega,d3,fun q y=> .inl (by have:=(Aa aV).1 q y;omega),fun q y=> .inl (by have:=(Aa aV).2 q y;omega)⟩,⟨hk.symm,(Aa aS).2.symm,rfl,by show LV _ _ _ _ (x.cond.map (AX ls)) _ _;rw[(Aa bn).1];exact(Aa eK).keep (Cp.of_below a3),by show LV _ _ _ _ (x.grant.map (AX ls)) _ _;rw[<-Aa br];exact(Aa dZ).keep (Cp.of_below a3)⟩,Ab (.inr ⟨by decide,ts,(Aa I).when (Aa aR) hk (Aa bn).2 (Aa d1) (by show La R (x.cond.map (AX ls))=jA;rw[(Aa bn).1];exact cg)⟩)⟩);clear cg aO a4 a3;go_wp2
         go_meet
         exact Aa bm
      ·obtain rfl:C=3:=by rw[<-(Aa aS).1];exact hk
       obtain rfl:aC=T:=by rw[Aa bA,hc];rfl
       have bm:=Ab (show ∃ (A nq:Int) (E:Option jD) (G H:Nat) (aQ:List K5) (P:List Ex) (q:Sx×Int),Ah wc g #[U V A,Q v,U V nq,.slice E G H,.slice ga gn gc] 99/\Su w (w.heap.size+1) (.slice ae ls.length W) (.slice aa ss.length ab) aQ P ss S wc/\Ah wc w.heap.size #[.slice a n c,.slice (Y ⟨bv,bw,T⟩) m d,.slice e k f] 69/\An w wc/\∃hi,Iv (w.heap.size+1) (.slice ae ls.length W) (.slice aa ss.length ab) wc (wr.heap.size+2) hi/\StQ w (wr.heap.size+2) hi wc ⟨A,v,nq,E,G,H,ga,gn,gc⟩ q/\Hid (NxP X j P S q A)from⟨3,0,ca,cn,cc,al,ls,(Ga ls x,0),ai,bR,RT,bQ,wc.heap.size,⟨by have:=Aa bz;omega,NLN,fun q y=> .inl (by have:=(Aa aV).1 q y;omega),fun q y=> .inl (by have:=(Aa aV).2 q y;omega)⟩,⟨hk.symm,(Aa aS).2.symm,rfl,by show LV _ _ _ _ (x.cond.map (AX ls)) _ _;rw[hc];exact bt,by show LV _ _ _ _ (x.grant.map (AX ls)) _ _;rw[<-Aa br];exact bg⟩,Ab (.inl ⟨rfl,(Aa I).els (Aa aR) hk⟩)⟩);clear ai bR RT bQ bt bg aN aj hc hg bh;go_wp2
       go_meet
       exact Aa bm
     case rest=>
      obtain⟨A,nq,E,G,H,aQ,P,q,da,ch,db,d6,hi,d7,d8,eQ⟩:=hcut;obtain⟨ar,au,av,aw,ax,ay⟩:=Aq da;have bX:=World.ownsRow.alloc ch.out (jC #[U V A,Q v,U V nq,.slice E G H,.slice ga gn gc] 99);have az:=World.news_of_block (heap_alloc_new wc (jC #[U V A,Q v,U V nq,.slice E G H,.slice ga gn gc] 99));have e3:ss.length<=1048576:=by have:=(Aa I).sd;have:=ch.lenD;omega
      have ce:=Ab da;have dc:=Ab ch;have d9:=Ab db;have dd:=Ab d6;have ea:=Ab (And.intro d7 d8);have e4:w.heap.size+1<=wc.heap.size:=by have:=db.lt;omega
      clear da ch db d6 d7 d8 aN ai bt bg aj;go_wp2_with (at_builtin;refine wpList_append_lies _ rfl _ _ 95 rfl (w.heap.size+1) 99 eg (jE #[U V 0,Q jK,U V 0,.slice T 0 0,.slice T 0 0]) 5 80 underlying95 eh ei ej ek rfl (by decide) (.slice aa ss.length ab) ss.length (ss.flatMap S5.cs) rfl bX ⟨wc.heap.size,0,T⟩ 1 1 (S5.cs ⟨A,v,nq,E,G,H,ga,gn,gc⟩) rfl rfl az (by intro u hu;simp[S5.cs]at hu;rcases hu with rfl|rfl|rfl|rfl|rfl<;>rfl) (by decide) (by unfold maxLen;omega) (by omega) (by simp;omega) _ rfl ?_)
      intro e5 e6 eb ec J hat eR;have ci:=(Aa dc).pushD (zh _) (Aa ea).1 (Aa ea).2 ec J (hat.imp id (fun h=>h.trans (by simp)));have de:=((Aa ce).alloc (jC #[U V A,Q v,U V nq,.slice E G H,.slice ga gn gc] 99)).grown J (fun e=>by have:=(Aa aV).2 _ e.symm;omega);have df:=((Aa d9).alloc (jC #[U V A,Q v,U V nq,.slice E G H,.slice ga gn gc] 99)).grown J (fun e=>Ac (Aa d9) (Aa dc).out (by decide) e.symm);have cj:=((Aa dd).alloc (Aa dd).size (jC #[U V A,Q v,U V nq,.slice E G H,.slice ga gn gc] 99)).grown J (by have:=(Aa dd).size;rw[World.size_alloc];omega) (fun q y=>by have:=((Aa dc).out.lt q y).1;omega);have e7:wc.heap.size<=eb.heap.size:=by have:=J.size;simp at this;omega
      clear ar au av aw ax ay bX az ec J hat eR;obtain⟨ar,au,av,aw,ax,ay⟩:=Aq de;rcases Aa eQ with⟨rfl,ed⟩|⟨ee,eS,ef⟩
      ·have dg:=Ab (ci.ans (zh _) cj ed);clear ci cj de df ed;go_wp2
       go_ret
       exact Aa dg
      ·have a1:(A==3)=jA:=zA.2 ee;have eT:=Ab (⟨Ab ef,ci,df,cj,by omega⟩:Hid _/\_/\_/\_/\w.heap.size+1<=eb.heap.size);clear ci cj de df ef ee;go_wp2
       go_roundw
       case rel=>exact⟨j+1,_,_,_,_,eS,Aa b7,by go_num,Aa eT⟩
       case measure=>have:=Aa b7;simp[intOf];omega
  ·have dg:=Ab (ad.ans (zh _) b5 ((Aa I).fin (by rw[Aa eo,Aa dq];omega)));have e8: ¬ ((j:Int)<(m:Int)):=by omega
   clear ad cq b5;go_wp2
   go_ret
   exact Aa dg
end Go.Proofs.YtppafecmccdplaaGreat

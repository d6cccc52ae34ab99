import Derived.Test.YtppafecmccdplaaGreatMXAK
open Go.Proofs.Tryz
open Option renaming none->T,some->Y
open Go.Value renaming int->U,slice->X,string->Q,agg->jE
open Go.IntKind renaming i64->V
open Go.Obj renaming cells->jC
open Go.Proofs.Tryz renaming prog->jL
namespace Go.Proofs.YtppafecmccdplaaGreat
set_option maxRecDepth 100000
set_option maxHeartbeats 12800000
open Go.RowKit
set_option linter.unusedVariables false
theorem TU (wz w0:World)(db:wz.heap.size<=w0.heap.size)(cq:Option Addr)(cr ct:Nat)(ls:List Ex)(w:World)(bx:An w0 w)(a aw:Int)(ax:ByteArray)(ay:Option Addr)(az aA:Nat)(cu:Option Addr)(m aB:Nat)(N:List K5)(cv:AO w0 cu N)(cw:N.length=m)(h1: 1<=m)(dN:m<=3)(dO:m<=2)(cx:a≠7)(zs:List Ex)(cy:zs.length=m)(cz:∀z∈zs,Bi z=true)(e:Ex)(cA:Rx a 0 ⟨#[]⟩ [] zs e)(cB:∀i e0,e= .un i a e0->8<=a/\a<=10)(cC:∀i e0 e1,e= .bin i a e0 e1->11<=a/\a<=26)
  (cD:∀ag f ka kc,f.length=m->AO ag ka f->(∀j,(h:j<zs.length)->(bT:j<f.length)->Tq ag zs[j] f[j])->zs.all Ex.con=true->Calls jL 100 #[U V a,X ka m kc] ag (PrA (AP e) ag))(cE:zs.all Ex.con=false->AP e=T)
  (cF:∀j,(h:j<N.length)->(bT:j<zs.length)->∀ag,An w ag->Calls jL 73 #[jE #[U V N[j].op,U V N[j].num,Q N[j].text,X N[j].an N[j].nn N[j].cn,X N[j].ka N[j].kn N[j].kc],X cq cr ct] ag (XB wz zs[j] ag)):
  Calls jL 73 #[jE #[U V a,U V aw,Q ax,X ay az aA,X cu m aB],X cq cr ct] w (XB wz (Ie ls e) w):=by
 obtain⟨dc,dd,de,df,dg⟩:=info_parts Nq;obtain⟨g,P,rfl,hg,hc⟩:=Bp cv (by omega);have dP:(a==7)=false:=zA.2 cx;have dQ:((m:Int)==0)=false:=zA.2 (by omega);have bU:=((AN w (jC #[U V a,U V aw,Q ax,X ay az aA,X (Y ⟨g,P,T⟩) m aB] 101)).alloc (by simp) Gm)
 have bl:=Ah.new (w.alloc (jC #[U V a,U V aw,Q ax,X ay az aA,X (Y ⟨g,P,T⟩) m aB] 101)) #[U V 0,U V 0,Q ⟨#[]⟩,X T 0 0,X T 0 0] 101;have bV:=(Ah.new w #[U V a,U V aw,Q ax,X ay az aA,X (Y ⟨g,P,T⟩) m aB] 101).alloc Gm;have bW:((w.alloc (jC #[U V a,U V aw,Q ax,X ay az aA,X (Y ⟨g,P,T⟩) m aB] 101)).alloc Gm).heap.size=w.heap.size+2:=by simp
 simp only[World.size_alloc]at bl;have dh:=Ab cF;have bz:=Ab cD;have bA:=Ab cE;have cG:=Ab cA;have cH:=Ab cB;have cI:=Ab cC;have cJ:=Ab hc;have cK:=Ab cw;have aO:=Ab cy;have bm:=Ab cz;have bX:=Ab bx;have di:wz.heap.size<=w.heap.size:=zC db bx.size;have dj:w0.heap.size<=w.heap.size:=bx.size;clear cF hc cw cy cz bx cv cx cD cE cA cB cC;go_enter func73,ntmps73
 go_wp2_with fail
 generalize (w.alloc (jC #[U V a,U V aw,Q ax,X ay az aA,X (Y ⟨g,P,T⟩) m aB] 101)).alloc Gm=dk at bU bV bl bW|-;have bY:Tt wz (w.heap.size+2) (X T 0 0) [] [] dk:=⟨World.ownsRow_nil _ _ _ _,rfl,fun j h=>absurd h (by simp)⟩
 generalize cL:w.heap.size=al at bU bV bl bW bY di dj|-;have a6:=Ab cL;generalize dl:al+1=aP at bl|-;generalize dm:al+2=B at bW bY|-;have dR:al<aP/\aP<B:=by omega
 clear cL dl dm;go_loopw [5,6,39] (fun dn bB i wr=>∃ (j:Nat) (f:List K5),j<=m/\i=U V j/\bB= .bool ((zs.take j).all Ex.con)/\Hid (f.length=j)/\Ah wr al #[U V a,U V aw,Q ax,X ay az aA,X (Y ⟨g,P,T⟩) m aB] 101/\Ah wr aP #[U V 0,U V 0,Q ⟨#[]⟩,X T 0 0,X T 0 0] 101/\Tt wz B dn f (zs.take j) wr/\Below al w wr/\B<=wr.heap.size) (fun _ _ i _=>m-(intOf i).toNat)
 case atStart=>exact⟨0,[],zE _,rfl,rfl,Ab rfl,bV,bl,bY,bU,by omega⟩
 case round=>
  obtain⟨j,f,dS,rfl,rfl,bZ,RT,aC,O,ah,dT⟩:=hrel;obtain⟨I,s,rfl,_⟩:=Ae O.own;by_cases bn:j<m
  ·have dU:(j:Int)<(m:Int):=by omega
   have b0:j<N.length:=by rw[Aa cK];exact bn
   have bC:j<zs.length:=by rw[Aa aO];exact bn
   have bD:An w wr:=by show Below _ _ _;rw[Aa a6];exact ah
   have a7:=(Aa bX).trans (bD.mono (Aa bX).size);obtain⟨S,a1,a2,a3,a4⟩:=Aa cJ j b0;have bE:=Ab (Aa dh j b0 bC);have cM:=Ab (Aa bm _ (zH bC));have b5:=Ab (show zs.take (j+1)=zs.take j++[zs[j]]from zc bC);generalize N[j]=k at S a1 a2 a3 a4 bE;generalize zs[j]=z at bE cM b5;replace S:=(a7.cell (p:=⟨g,P+j*5,T⟩) hg).trans S;replace a1:=(a7.cell (p:=⟨g,P+j*5+1,T⟩) hg).trans a1;replace a2:=(a7.cell (p:=⟨g,P+j*5+2,T⟩) hg).trans a2;replace a3:=(a7.cell (p:=⟨g,P+j*5+3,T⟩) hg).trans a3;replace a4:=(a7.cell (p:=⟨g,P+j*5+4,T⟩) hg).trans a4;have bF:=Ab bn;have ao:=Ab (Aa bE _ (bD.alloc bD.size (CZ k)));have dV:f.length<=1048576:=by have:=Aa bZ;omega
   generalize aQ:(zs.take j).all Ex.con=bB;have dp:=Ab aQ;clear bn b0 bC aQ a7;go_wp2_with fail
   refine(Aa ao).mono ?_;rintro r W ⟨dq,rfl,b6,b7⟩;obtain⟨t,v,x,y,A,C,D,E,F⟩:=dq;dsimp only at b6|-;have bG:∀q,(Value.slice I f.length s).ownBlock=Y q->B<=q/\q<wr.heap.size:=fun q a8=>O.own.lt q a8;have dr:(wr.alloc (CZ k)).heap.size=wr.heap.size+1:=by simp
   have bo:=(AN wr (CZ k)).trans (b7.mono (by omega));have dW:wr.heap.size<W.heap.size:=by have:=b7.size;omega
   have bp:=(O.below bo).below (AN W (Bs t v x y A C D E F));have cN:Py wz (wr.heap.size+1) (W.alloc (Bs t v x y A C D E F)).heap.size (W.alloc (Bs t v x y A C D E F)) ⟨t,v,x,y,A,C,D,E,F⟩ z:=(b6.keep (Cp.of_below (AN W (Bs t v x y A C D E F)))).mono (fun b ap=>by rw[dr]at ap;rw[World.size_alloc];omega);have cO:=(RT.after bo NLN).alloc (Bs t v x y A C D E F);have cP:=(aC.after bo NLN).alloc (Bs t v x y A C D E F);have b8:=Ah.new W #[U V t,U V v,Q x,X y A C,X D E F] 101;have cQ:=(ah.trans (bo.mono (by omega))).alloc (by omega) (Bs t v x y A C D E F);have ds:(W.alloc (Bs t v x y A C D E F)).heap.size=W.heap.size+1:=by simp
   obtain⟨dt,n1,du,dv,dw,-⟩:=Aq b8;clear O RT aC ah bD b6 b7 bo ao bE S a1 a2 a3 a4;have cS:=World.ownsRow.alloc bp.own (Bs t v x y A C D E F);have b9:=World.news_of_block (heap_alloc_new (W.alloc (Bs t v x y A C D E F)) (Bs t v x y A C D E F));simp only[World.size_alloc]at b9;go_wp2_with (at_builtin;refine wpList_append_lies _ rfl _ _ 97 rfl B 101 dc (jE #[U V 0,U V 0,Q ByteArray.empty,X T 0 0,X T 0 0]) 5 80 underlying97 dd de df dg rfl (by decide) (X I f.length s) f.length (f.flatMap K5.cs) rfl cS ⟨W.heap.size+1,0,T⟩ 1 1 (K5.cs ⟨t,v,x,y,A,C,D,E,F⟩) rfl rfl b9 (by intro u hu;simp[K5.cs]at hu;rcases hu with rfl|rfl|rfl|rfl|rfl<;>rfl) (by decide) (by unfold maxLen;omega) (by omega) (by simp;omega) _ rfl ?_)
   intro g7 c7 br cT aR hat dx;have cU:∀q,q<B->Y q≠(Value.slice I f.length s).ownBlock:=fun q a8 e=>by have:=(bG q e.symm).1;omega
   have dy:Y W.heap.size≠(Value.slice I f.length s).ownBlock:=fun e=>by have:=(bG _ e.symm).2;omega
   have ca:=(cO.alloc (Bs t v x y A C D E F)).grown aR (cU al (by omega));have cb:=(cP.alloc (Bs t v x y A C D E F)).grown aR (cU aP (by omega));have cV:=(b8.alloc (Bs t v x y A C D E F)).grown aR dy;have cc:=(cQ.alloc (by rw[ds];omega) (Bs t v x y A C D E F)).grown aR (by simp;omega) (fun q a8=>by have:=(bG q a8).1;omega);have cW:B<=br.heap.size:=by have:=aR.size;simp at this;omega
   have cd:=bp.snoc (k:=⟨t,v,x,y,A,C,D,E,F⟩) (b:=z) (by omega) (by omega) (fun q a8=>by have:=(bG q a8).2;omega) cN cT aR (hat.imp id (fun e=>by rw[e];simp));have ce:=Ab (show Tt wz B (X (Y ⟨g7,0,T⟩) (f.length+1) c7) (f++[(⟨t,v,x,y,A,C,D,E,F⟩:K5)]) (zs.take (j+1)) br by rw[Aa b5];exact cd);have cX:=Ab (show(f++[(⟨t,v,x,y,A,C,D,E,F⟩:K5)]).length=j+1 by rw[zB,Aa bZ];rfl);have cY:=Ab (show(zs.take (j+1)).all Ex.con=(bB&&z.con) by rw[Aa b5,List.all_append,Aa dp];simp);have dz:=Ab (show Tq br z ⟨t,v,x,y,A,C,D,E,F⟩ by
    have q:=cd.each f.length (by simp) (by rw[List.length_append,bp.len];simp);obtain⟨_,_,_,_,_,q⟩:=q;have cZ:=Tl.tq q;have dX:=bp.len;rw[yE NLN,yE (by omega)]at cZ;simpa using cZ)
   have dA:=Ab (DX (Aa dz) (Aa cM));obtain⟨aS,aT,aU,aV,aW,-⟩:=Aq cV;clear bp cd cT aR hat dx cN cS b9 cO cP b8 cQ dt n1 du dv dw cV;generalize W.heap.size=dY at aS aT aU aV aW|-;cases bB with
   |false=>
    go_wp2
    go_roundw
    case rel=>exact⟨j+1,_,Aa bF,by go_num,by rw[Aa cY];rfl,cX,ca,cb,Aa ce,cc,cW⟩
    case measure=>have:=Aa bF;simp[intOf];omega
   |true=>
    go_wp2_with fail
    refine(Aa dA).mono ?_;rintro r aq ⟨rfl,a9⟩;have bs:=ca.after a9 NLN;have ba:=cb.after a9 NLN;have aD:=cc.trans (a9.mono (by omega));have dB:=Ab ((Aa ce).below a9);have dC:B<=aq.heap.size:=zC cW a9.size;clear ca cb cc ce a9 aS aT aU aV aW;dsimp only;go_wp2
    go_roundw
    case rel=>exact⟨j+1,_,Aa bF,by go_num,by rw[Aa cY];simp,cX,bs,ba,Aa dB,aD,dC⟩
    case measure=>have:=Aa bF;simp[intOf];omega
  ·have c0:j=m:=by omega
   have c1:zs.take j=zs:=zf (by rw[Aa aO];omega);rw[c1]at O|-;have bt:f.length=m:=by rw[Aa bZ];exact c0
   have ai:=Et (by have:=O.own;rw[bt]at this;exact this) bt;have bH:=Ab ai;have bI:=Ab (fun (i:Nat) (h:i<zs.length) (bT:i<f.length)=>by
    obtain⟨_,_,_,_,_,q⟩:=O.each i bT h;exact(Tl.tq q))
   rw[bt];have bb:=Ab bt;have dZ: ¬ ((j:Int)<(m:Int)):=by omega
   obtain⟨aE,aF,aG,aH,aI,-⟩:=Aq RT;clear ai bt c1 bn c0;go_upto_if 56 with fail
   go_cut [6] (fun _ aX=>Ah aX al #[U V a,U V aw,Q ax,X ay az aA,X (Y ⟨g,P,T⟩) m aB] 101/\Ah aX aP #[U V 0,U V 0,Q ⟨#[]⟩,X T 0 0,X T 0 0] 101/\Tt wz B (X I m s) f zs aX/\An w aX/\Hid (AP e=T))
   case first=>
    cases aQ:zs.all Ex.con with
    |true=>
     have ao:=Ab (Aa bz wr f I s (Aa bb) (Aa bH) (Aa bI) aQ);clear aQ bz bA;go_wp2_with fail
     refine(Aa ao).mono ?_;rintro r aq ⟨⟨c,b,rfl,ap,cf⟩,bc⟩;dsimp only;have aD:An w aq:=(show An w wr by show Below _ _ _;rw[Aa a6];exact ah).trans (bc.mono ah.size);have bs:=RT.after bc NLN;have ba:=aC.after bc NLN;have cg:=O.below bc;have bd:=Aa a6;cases aJ:AP e with
     |some z=>
      rw[aJ]at ap;subst ap;have ae:=Ab (show Ie ls e=z by rw[Ie,aJ]);have af:=ba.alloc (CZ c);have o:=Ab (Ef (w0:=wz) (B:=B) (c:=c) (z:=z) (by omega) (aD.alloc aD.size (CZ c)) af (by omega) (by omega) (If (RM aJ) ((cf z aJ).below (AN aq (CZ c)) NLN)));obtain⟨aS,aT,aU,aV,aW,-⟩:=Aq af;obtain⟨bJ,f1,f2,bK,bL⟩:=Fl af;clear af ba bs cg aD cf aJ bc bd O RT aC ah;go_wp2
      exact bodyPost_ret (Gj results73 rfl (Aa o).2.1) rfl (by rw[Aa ae];exact⟨c,rfl,(Aa o).2.2,(Aa o).1⟩)
     |none=>
      rw[aJ]at ap;subst ap;have ch:=Ab (⟨bs.alloc (CZ c),ba.alloc (CZ c),by have q:=cg.below (AN aq (CZ c));rw[Aa bb]at q;exact q,aD.alloc aD.size (CZ c),Ab aJ⟩:Ah (aq.alloc (CZ c)) al _ _/\Ah (aq.alloc (CZ c)) aP _ _/\Tt wz B (X I m s) f zs (aq.alloc (CZ c))/\An w (aq.alloc (CZ c))/\Hid (AP e=T));clear ba bs cg aD cf bc O RT aC ah ao bI bH aE aF aG aH aI aJ;go_wp2
      go_meet
      exact Aa ch
    |false=>
     have ch:=Ab (⟨RT,aC,by have q:=O;rw[Aa bb]at q;exact q,by(try show Below _ _ _);rw[Aa a6];exact ah,Ab (Aa bA aQ)⟩:Ah wr al _ _/\Ah wr aP _ _/\Tt wz B (X I m s) f zs wr/\An w wr/\Hid (AP e=T));clear RT aC O ah bI bH aQ bz bA aE aF aG aH aI;go_wp2
     go_meet
     exact Aa ch
   case rest=>
    obtain⟨aK,af,bf,aL,bg⟩:=hcut;have bd:=Aa a6;clear bz bA bH bI aE aF aG aH aI RT aC O ah;cases Aa cG with
    |leaf e hk hx=>have:=Aa aO;simp at this;omega
    |un i n aY=>
     have ci:m=1:=(Aa aO).symm;subst ci;have dD:(a==27)=false:=zA.2 (by have:=Aa cH i n rfl;omega);obtain⟨G,rfl⟩:∃G,f=[G]:=by
      have:=Aa bb
      match f,this with
      |[G],_=>exact⟨G,rfl⟩
     have aa:=bf.below (AN wc (jC #[U V a,U V 0,Q ⟨#[]⟩,X T 0 0,X I 1 s] 101));have aj:=aL.alloc aL.size (jC #[U V a,U V 0,Q ⟨#[]⟩,X T 0 0,X I 1 s] 101);have ar:=aK.alloc (jC #[U V a,U V 0,Q ⟨#[]⟩,X T 0 0,X I 1 s] 101);have J:=af.alloc (jC #[U V a,U V 0,Q ⟨#[]⟩,X T 0 0,X I 1 s] 101);have aM:=Ah.new wc #[U V a,U V 0,Q ⟨#[]⟩,X T 0 0,X I 1 s] 101;have ai:=Et (m:=1) aa.own rfl;have au:=aa.all (m:=1) rfl NLN a 0 ⟨#[]⟩ T 0 0 [] ⟨⟨rfl,NLN,zE _,fun j h=>absurd h (by simp),fun j h=>absurd h (by simp)⟩,zE _,fun _=>rfl,fun dE e=>by cases e⟩ _ (.un i n aY);have ab:=aa.kid 0 (by simp) (by simp);obtain⟨L,M,cj,ac,aN⟩:=Bp ai (by simp);subst cj;obtain⟨S,a1,a2,a3,a4⟩:=aN 0 (by simp);simp only[z3,zw,ze]at S a1 a2 a3 a4 ab;obtain⟨dF,s1,s2,dG,dH,-⟩:=Aq aK;obtain⟨aE,aF,aG,aH,aI,-⟩:=Aq ar;have aZ:=Aa bm n (by simp);obtain⟨d0,d5,d6,d7,d8,-⟩:=Aq aM;by_cases bM:a=9
     ·subst bM;by_cases bh:G.op=9
      ·have ck:(G.op==9)=true:=zF.2 bh;obtain⟨a0,H,rfl⟩:∃a0 H,n= .un a0 9 H:=by
        have bN:=(Tl.tq ab).op;rw[bh]at bN;cases n with
        |un a0 op H=>exact⟨a0,H,by rw[show op=9 from bN.symm]⟩
        |bin a0 op l r=>simp only[Bi,zD,zG]at aZ;have:op=9:=bN.symm;omega
        |_=>exact absurd bN (by simp[FO,Ed])
       have ae:=Ab (show Ie ls (.un i 9 (.un a0 9 H))=H by rw[Ie,Aa bg];simp[AV,SJ]);obtain⟨u1,u2,u3,u4,u5,u6,K,u7,u8⟩:=ab;obtain⟨d9,ea,c2,eb,c3⟩:=Bp u7 (by simp);obtain⟨a5,b1,b2,b3,b4⟩:=c3 0 (by simp);simp only[z3,zw,ze]at a5 b1 b2 b3 b4;rw[c2,u5]at a4;have o:=Ab (Ef (w0:=wz) (B:=B) (c:=K) (by omega) aj J (by omega) (by omega) u8);obtain⟨aS,aT,aU,aV,aW,-⟩:=Aq J;obtain⟨bJ,f1,f2,bK,bL⟩:=Fl J;clear au J ar aM aK af bf aa aj aL bd ai aN c3 u1 u2 u3 u4 u5 u6 u7 u8 c2 bh aZ aY;go_wp2
       exact bodyPost_ret (Gj results73 rfl (Aa o).2.1) rfl (by rw[Aa ae];exact⟨_,rfl,(Aa o).2.2,(Aa o).1⟩)
      ·have ck:(G.op==9)=false:=zA.2 bh;have ae:=Ab (show Ie ls (.un i 9 n)= .un i 9 n by
        rw[Ie,Aa bg];have:SJ n=T:=by
         cases n with
         |un a0 op H=>exact if_neg (fun e=>bh ((Tl.tq ab).op.trans e))
         |_=>rfl
        simp[AV,this])
       have o:=Ab (Ef (w0:=wz) (B:=B) (c:=⟨9,0,⟨#[]⟩,T,0,0,Y ⟨L,M,T⟩,1,s⟩) (by omega) aj J (by omega) (by omega) au);obtain⟨aS,aT,aU,aV,aW,-⟩:=Aq J;obtain⟨bJ,f1,f2,bK,bL⟩:=Fl J;clear au ab J ar aM aK af bf aa aj aL bd ai aN bh aZ aY;go_wp2
       exact bodyPost_ret (Gj results73 rfl (Aa o).2.1) rfl (by rw[Aa ae];exact⟨_,rfl,(Aa o).2.2,(Aa o).1⟩)
     ·have ck:(a==9)=false:=zA.2 bM;have ae:=Ab (show Ie ls (.un i a n)= .un i a n by rw[Ie,Aa bg];simp[AV,bM]);have o:=Ab (Ef (w0:=wz) (B:=B) (c:=⟨a,0,⟨#[]⟩,T,0,0,Y ⟨L,M,T⟩,1,s⟩) (by omega) aj J (by omega) (by omega) au);obtain⟨aS,aT,aU,aV,aW,-⟩:=Aq J;obtain⟨bJ,f1,f2,bK,bL⟩:=Fl J;clear au ab J ar aM aK af bf aa aj aL bd ai aN bM aZ aY;go_wp2
      exact bodyPost_ret (Gj results73 rfl (Aa o).2.1) rfl (by rw[Aa ae];exact⟨_,rfl,(Aa o).2.2,(Aa o).1⟩)
    |bin i n H aY=>
     have ci:m=2:=(Aa aO).symm;subst ci;have c4:=Aa cI i n H rfl;have dD:(a==27)=false:=zA.2 (by omega);have ck:(a==9)=false:=zA.2 (by omega);obtain⟨G,K,rfl⟩:∃G K,f=[G,K]:=by
      have:=Aa bb
      match f,this with
      |[G,K],_=>exact⟨G,K,rfl⟩
     have aa:=bf.below (AN wc (jC #[U V a,U V 0,Q ⟨#[]⟩,X T 0 0,X I 2 s] 101));have aj:=aL.alloc aL.size (jC #[U V a,U V 0,Q ⟨#[]⟩,X T 0 0,X I 2 s] 101);have ar:=aK.alloc (jC #[U V a,U V 0,Q ⟨#[]⟩,X T 0 0,X I 2 s] 101);have J:=af.alloc (jC #[U V a,U V 0,Q ⟨#[]⟩,X T 0 0,X I 2 s] 101);have aM:=Ah.new wc #[U V a,U V 0,Q ⟨#[]⟩,X T 0 0,X I 2 s] 101;have ai:=Et (m:=2) aa.own rfl;have au:=aa.all (m:=2) rfl NLN a 0 ⟨#[]⟩ T 0 0 [] ⟨⟨rfl,NLN,zE _,fun j h=>absurd h (by simp),fun j h=>absurd h (by simp)⟩,zE _,fun _=>rfl,fun dE e=>by cases e⟩ _ (.bin i n H aY);have ab:=aa.kid 0 (by simp) (by simp);have bu:=aa.kid 1 (by simp) (by simp);obtain⟨L,M,cj,ac,aN⟩:=Bp ai (by simp);subst cj;obtain⟨S,a1,a2,a3,a4⟩:=aN 0 (by simp);obtain⟨a5,b1,b2,b3,b4⟩:=aN 1 (by simp);simp only[z3,yF,zw,Nat.one_mul,ze]at S a1 a2 a3 a4 a5 b1 b2 b3 b4 ab bu;obtain⟨dF,s1,s2,dG,dH,-⟩:=Aq aK;obtain⟨aE,aF,aG,aH,aI,-⟩:=Aq ar;have aZ:=Aa bm n (by simp);have c5:=Aa bm H (by simp);have cl:=Tl.tq ab;have cm:=Tl.tq bu;have dI:(Tryz.f102.name== "runtime.NumGoroutine")=false:=by kernel_rfl
     have dJ: Tryz.f102.body.isNone=false:=by kernel_rfl
     clear ai aN bf aL aK af aa;go_upto_region 29 with fail
     generalize dK:wc.alloc (jC #[U V a,U V 0,Q ⟨#[]⟩,X T 0 0,X (Y ⟨L,M,T⟩) 2 s] 101)=ak at ab bu au aj ar J aM cl cm S a1 a2 a3 a4 a5 b1 b2 b3 b4 ac aE aF aG aH aI|-;clear dK;have ad:=(AN ak Gm)
     have ec:=(ad.cell (p:=⟨L,M,T⟩) ac).trans S;have ed:=(ad.cell (p:=⟨L,M+1,T⟩) ac).trans a1;have ee:=(ad.cell (p:=⟨L,M+2,T⟩) ac).trans a2;have ef:=(ad.cell (p:=⟨L,M+3,T⟩) ac).trans a3;have eg:=(ad.cell (p:=⟨L,M+4,T⟩) ac).trans a4;have eh:=(ad.cell (p:=⟨L,M+5,T⟩) ac).trans a5;have ei:=(ad.cell (p:=⟨L,M+5+1,T⟩) ac).trans b1;have ej:=(ad.cell (p:=⟨L,M+5+2,T⟩) ac).trans b2;have ek:=(ad.cell (p:=⟨L,M+5+3,T⟩) ac).trans b3;have el:=(ad.cell (p:=⟨L,M+5+4,T⟩) ac).trans b4;obtain⟨em,en,eo,ep,eq,-⟩:=Aq (ar.alloc Gm);have ao:=Ab (fun ag (c6:An ak ag)=>Fd (AgB a c4 (cl.below c6 NLN) (cm.below c6 NLN) aZ c5) (fun e w' ⟨⟨_,_,h,_⟩,_⟩=>⟨_,h⟩));have bi:=Ab (⟨ab,bu,au⟩:_/\_/\_);have bv:=Ab aj;have bO:=Ab J;have bP:=Ab aM;clear cl cm c4 aj ar J aM ab bu au aZ c5;go_cut [13,14] (fun r ok aX=>∃ (d:K5) (b:Bool) (p:Nat),r= .pointer (Y ⟨p,0,T⟩)/\ok= .bool b/\Hid (b=(DP a n H).isSome/\∀z,DP a n H=Y z->PrW n H G K z d)/\Ah aX p #[U V d.op,U V d.num,Q d.text,X d.an d.nn d.cn,X d.ka d.kn d.kc] 101/\An ak aX)
     case first=>
      have dL:=Ab ad;clear ad bi bv bO bP bg bd bb cG bm cH cI cJ cK aO bX a6;go_region_law ((refine Xa rfl 102 _ func102 dI dJ _ _ _ _ rfl (U V a) (jE #[U V G.op,U V G.num,Q G.text,X G.an G.nn G.cn,X G.ka G.kn G.kc]) (jE #[U V K.op,U V K.num,Q K.text,X K.an K.nn K.cn,X K.ka K.kn K.kc]) rfl rfl rfl _ (Aa ao _ (by first|exact BRN.drew|exact(Aa dL).drew)) ?_;rintro er br ⟨⟨d,b,dM,es,c8⟩,bQ⟩;obtain rfl:=AS dM;first|(have bR:=(Ah.new ak #[U V 0,U V 0,Q ⟨#[]⟩,X T 0 0,X T 0 0] 101).after ((Below.refl (ak.alloc Gm).heap.size (ak.alloc Gm)).drew.trans (bQ.mono NLN)) NLN;obtain⟨et,eu,ev,ew,ex,-⟩:=Aq bR;obtain⟨ey,ez,eA,eB,eC⟩:=Fl bR)|skip))
      all_goals (go_wp2;go_meet)
      all_goals first
       |(have hk:=bR;have c9:=RH d ((AN ak Gm).drew.trans (bQ.mono (Nat.le_of_lt (by show ak.heap.size<(ak.alloc Gm).heap.size;simp)))) bR NLN;exact⟨d,_,_,rfl,rfl,Ab ⟨rfl,c8⟩,c9.2,c9.1⟩)
       |exact⟨d,_,_,rfl,rfl,Ab ⟨rfl,c8⟩,Ah.new br _ _,((Brw ak).drew.trans (bQ.mono NLN)).alloc bQ.size _⟩
     case rest=>
      obtain⟨d,b,p,rfl,rfl,bw,co,av⟩:=hcut;have bS:=(Aa bv).trans (av.mono (Aa bv).size);have bj:=(Aa bO).after av NLN;have cp:=(Aa bP).after av NLN;obtain⟨aS,aT,aU,aV,aW,-⟩:=Aq bj;obtain⟨bJ,f1,f2,bK,bL⟩:=Fl bj;obtain⟨eD,eE,eF,eG,eH,-⟩:=Aq cp;obtain⟨eI,d1,d2,d3,d4,-⟩:=Aq co;have eJ:=av.size;cases b with
      |true=>
       obtain⟨z,bk⟩:=Option.isSome_iff_exists.1 (Aa bw).1.symm;have ae:=Ab (show Ie ls (.bin i a n H)=z by rw[Ie,Aa bg];show(AV ls (.bin i a n H)).getD _=_;rw[AV,bk];rfl);have da:Py wz B wc.heap.size wc d z:=by
        rcases(Aa bw).2 z bk with⟨rfl,rfl⟩|⟨rfl,rfl⟩|⟨c,rfl,rfl⟩|⟨rfl,rfl⟩
        ·exact((Aa bi).1.keep (Cp.of_below av)).mono (fun b ap=>by omega)
        ·exact((Aa bi).2.1.keep (Cp.of_below av)).mono (fun b ap=>by omega)
        ·exact If rfl (ZT _ c)
        ·exact If rfl (AdC _)
       have o:=Ab (Ef (w0:=wz) (B:=B) (c:=d) (by omega) bS bj (by omega) (by omega) da);clear bS bj cp co av bw da bi bv bO bP ao bk S a1 a2 a3 a4 a5 b1 b2 b3 b4 aE aF aG aH aI;go_wp2
       exact bodyPost_ret (Gj results73 rfl (Aa o).2.1) rfl (by rw[Aa ae];exact⟨_,rfl,(Aa o).2.2,(Aa o).1⟩)
      |false=>
       have bk:DP a n H=T:=by cases h:DP a n H with
        |none=>rfl
        |some z=>have:=(Aa bw).1;rw[h]at this;cases this
       have ae:=Ab (show Ie ls (.bin i a n H)= .bin i a n H by rw[Ie,Aa bg];show(AV ls (.bin i a n H)).getD _=_;rw[AV,bk];rfl);have o:=Ab (Ef (w0:=wz) (B:=B) (c:=⟨a,0,⟨#[]⟩,T,0,0,Y ⟨L,M,T⟩,2,s⟩) (by omega) bS bj (by omega) (by omega) (((Aa bi).2.2.keep (Cp.of_below av)).mono (fun b ap=>by omega)));clear bS bj cp co av bw bi bv bO bP ao bk S a1 a2 a3 a4 a5 b1 b2 b3 b4 aE aF aG aH aI;go_wp2
       exact bodyPost_ret (Gj results73 rfl (Aa o).2.1) rfl (by rw[Aa ae];exact⟨_,rfl,(Aa o).2.2,(Aa o).1⟩)
    |ite i n H eK eL aY=>have:=Aa aO;simp at this;omega
end Go.Proofs.YtppafecmccdplaaGreat

import Derived.Test.YtppafecmccdplaaGreatMXAK
open Go.Proofs.Tryz
open Option renaming none->T,some->Y
open Go.Value renaming int->U,slice->X,string->Q
open Go.IntKind renaming i64->V
open Go renaming World->Z
open Bool renaming true->R,false->jA
open Go.Obj renaming cells->jC
open Go.Proofs.Tryz renaming prog->jL
namespace Go.Proofs.YtppafecmccdplaaGreat
set_option maxRecDepth 100000
set_option maxHeartbeats 12800000
open Go.RowKit
set_option linter.unusedVariables false
variable {x y:Ex}{g:Nat}{w:Z}
def C15 (w:Z) (g o:Nat) (u0 u1 u2 u3 u4 u5 u6 u7 u8 u9 u10 u11 u12 u13 u14:Value):Prop:=w.cell? ⟨g,o,T⟩=Y u0/\w.cell? ⟨g,o+1,T⟩=Y u1/\w.cell? ⟨g,o+2,T⟩=Y u2/\w.cell? ⟨g,o+3,T⟩=Y u3/\w.cell? ⟨g,o+4,T⟩=Y u4/\w.cell? ⟨g,o+5,T⟩=Y u5/\w.cell? ⟨g,o+5+1,T⟩=Y u6/\w.cell? ⟨g,o+5+2,T⟩=Y u7/\w.cell? ⟨g,o+5+3,T⟩=Y u8/\w.cell? ⟨g,o+5+4,T⟩=Y u9/\w.cell? ⟨g,o+10,T⟩=Y u10/\w.cell? ⟨g,o+10+1,T⟩=Y u11/\w.cell? ⟨g,o+10+2,T⟩=Y u12/\w.cell? ⟨g,o+10+3,T⟩=Y u13/\w.cell? ⟨g,o+10+4,T⟩=Y u14
theorem C15.below {w':Z}{o:Nat}{a b c d f i j k l m n q r s t:Value}(h:C15 w g o a b c d f i j k l m n q r s t)(B:An w w')(hg:g<w.heap.size):C15 w' g o a b c d f i j k l m n q r s t:=by
 unfold C15 at h|-;simp only[B.cell (p:=⟨g,_,T⟩) hg];exact h
def Gf (w:Z):={W:Z // An w W}
theorem bq (n:Gf w){A:Ending->Prop} :∀e w',A e/\Below n.1.heap.size n.1 w'->A e/\∃m:Gf w,w'=m.1:=fun e w' h=>⟨h.1,⟨w',n.2.trans (h.2.mono n.2.size)⟩,rfl⟩
theorem CX {P:Program}{Q:Exit->Act->Z->Prop}{a:Act}{l:List Oper}(hm:P.follows .mixedOrders=R)(b:Region.lexB .any l.toArray=R)
  (h:wpQuiet P l.toArray (fun w'=>∃n:Gf w,w'=n.1) (fun c=>∀w',(∃n:Gf w,w'=n.1)->Q .normal c w') l a):(Code.region g l.toArray R).wp P Q a w:=
 wp_region_quiet (C:=fun w'=>∃n:Gf w,w'=n.1) hm b ⟨⟨w.drew,⟨rfl,rfl,rfl,NLN,fun _ _=>rfl⟩⟩,rfl⟩ (by simpa using h)
theorem AdF (hx:x.con=R)(hy:y.con=R)(a:FO x=FO y):Va x y=Vp (Ed x).num (Ed y).num (Ed x).text (Ed y).text (Ed x).names (Ed y).names:=by
 unfold Va Vp;rw[hx,zr];refine decide_eq_decide.2 ?_;cases x<;>cases y<;>first|(simp[Ex.con,Ex.cv]at hx;done)|(simp[Ex.con,Ex.cv]at hy;done)|(simp[FO,Ed]at a;done)|(simp[Ex.cv,Ed];done)|(rename_i i b j c;cases b<;>cases c<;>simp[Ex.cv,Ed])
open Classical in
theorem AgF  (hx:x.con=R) (h:FO x≠FO y):Va x y=jA:=by
 unfold Va;rw[hx,zr];refine zI (fun e=>h ?_);cases x<;>cases y<;>first|(simp[Ex.con,Ex.cv]at hx;done)|rfl|(simp[Ex.cv]at e;done)
theorem ZU {e:Ex}{k:K5}(hc:e.con=R)(h:Tq w e k):k.num=(Ed e).num/\k.text=(Ed e).text/\AJ w k.an k.nn k.cn (Ed e).names:=by
 cases e<;>first|exact⟨h.2.1,h.2.2.1,h.2.2.2.2.1⟩|cases hc
theorem Abc (wz w0:Z)(dz:wz.heap.size<=w0.heap.size)(cO:Option Addr)(cP cQ:Nat)(ls:List Ex)(w:Z)(bQ:An w0 w)(N aw:Int)(ax:ByteArray)(ay:Option Addr)(az aA:Nat)(cS:Option Addr)(m aB:Nat)(S:List K5)(cT:AO w0 cS S)(cU:S.length=m)(h1: 1<=m)(eb:m<=3)(ec: 3<=m)(cV:N≠7)(zs:List Ex)(cW:zs.length=m)(cX:∀z∈zs,Bi z=R)(e:Ex)(cY:Rx N 0 ⟨#[]⟩ [] zs e)(cZ:∀i e0,e= .un i N e0->8<=N/\N<=10)(c5:∀i e0 e1,e= .bin i N e0 e1->11<=N/\N<=26)
  (c6:∀aC t ka kc,t.length=m->AO aC ka t->(∀j,(h:j<zs.length)->(cd:j<t.length)->Tq aC zs[j] t[j])->zs.all Ex.con=R->Calls jL 100 #[U V N,X ka m kc] aC (PrA (AP e) aC))(c8:zs.all Ex.con=jA->AP e=T)
  (c9:∀j,(h:j<S.length)->(cd:j<zs.length)->∀aC,An w aC->Calls jL 73 #[.agg #[U V S[j].op,U V S[j].num,Q S[j].text,X S[j].an S[j].nn S[j].cn,X S[j].ka S[j].kn S[j].kc],X cO cP cQ] aC (XB wz zs[j] aC)):
  Calls jL 73 #[.agg #[U V N,U V aw,Q ax,X ay az aA,X cS m aB],X cO cP cQ] w (XB wz (Ie ls e) w):=by
 obtain⟨dA,dB,dC,dD,dE⟩:=info_parts Nq;obtain⟨g,ad,rfl,hg,hc⟩:=Bp cT (by omega);have ed:(N==7)=jA:=zA.2 cV;have ee:((m:Int)==0)=jA:=zA.2 (by omega);have l:=((AN w (jC #[U V N,U V aw,Q ax,X ay az aA,X (Y ⟨g,ad,T⟩) m aB] 101)).alloc (by simp) Gm)
 have bg:=Ah.new (w.alloc (jC #[U V N,U V aw,Q ax,X ay az aA,X (Y ⟨g,ad,T⟩) m aB] 101)) #[U V 0,U V 0,Q ⟨#[]⟩,X T 0 0,X T 0 0] 101;have ce:=(Ah.new w #[U V N,U V aw,Q ax,X ay az aA,X (Y ⟨g,ad,T⟩) m aB] 101).alloc Gm;have cf:((w.alloc (jC #[U V N,U V aw,Q ax,X ay az aA,X (Y ⟨g,ad,T⟩) m aB] 101)).alloc Gm).heap.size=w.heap.size+2:=by simp
 simp only[World.size_alloc]at bg;have dF:=Ab c9;have bR:=Ab c6;have bS:=Ab c8;have dG:=Ab cY;have dH:=Ab cZ;have dI:=Ab c5;have da:=Ab hc;have db:=Ab cU;have aG:=Ab cW;have bh:=Ab cX;have dc:=Ab bQ;have dJ:wz.heap.size<=w.heap.size:=zC dz bQ.size;have dK:w0.heap.size<=w.heap.size:=bQ.size;clear c9 hc cU cW cX bQ cT cV c6 c8 cY cZ c5;go_enter func73,ntmps73
 go_wp2_with fail
 generalize (w.alloc (jC #[U V N,U V aw,Q ax,X ay az aA,X (Y ⟨g,ad,T⟩) m aB] 101)).alloc Gm=dd at l ce bg cf|-;have cg:Tt wz (w.heap.size+2) (X T 0 0) [] [] dd:=⟨World.ownsRow_nil _ _ _ _,rfl,fun j h=>absurd h (by simp)⟩
 generalize de:w.heap.size=aq at l ce bg cf cg dJ dK|-;have bi:=Ab de;generalize dL:aq+1=aH at bg|-;generalize dM:aq+2=B at cf cg|-;have ef:aq<aH/\aH<B:=by omega
 clear de dL dM;go_loopw [5,6,39] (fun dN bT i wr=>∃ (j:Nat) (t:List K5),j<=m/\i=U V j/\bT= .bool ((zs.take j).all Ex.con)/\Hid (t.length=j)/\Ah wr aq #[U V N,U V aw,Q ax,X ay az aA,X (Y ⟨g,ad,T⟩) m aB] 101/\Ah wr aH #[U V 0,U V 0,Q ⟨#[]⟩,X T 0 0,X T 0 0] 101/\Tt wz B dN t (zs.take j) wr/\Below aq w wr/\B<=wr.heap.size) (fun _ _ i _=>m-(intOf i).toNat)
 case atStart=>exact⟨0,[],zE _,rfl,rfl,Ab rfl,ce,bg,cg,l,by omega⟩
 case round=>
  obtain⟨j,t,eg,rfl,rfl,ch,RT,aD,aa,ak,eh⟩:=hrel;obtain⟨ab,P,rfl,_⟩:=Ae aa.own;by_cases bj:j<m
  ·have ei:(j:Int)<(m:Int):=by omega
   have ci:j<S.length:=by rw[Aa db];exact bj
   have bU:j<zs.length:=by rw[Aa aG];exact bj
   have bV:An w wr:=by show Below _ _ _;rw[Aa bi];exact ak
   have aW:=(Aa dc).trans (bV.mono (Aa dc).size);obtain⟨ae,a1,a2,a3,a4⟩:=Aa da j ci;have bW:=Ab (Aa dF j ci bU);have df:=Ab (Aa bh _ (zH bU));have cj:=Ab (show zs.take (j+1)=zs.take j++[zs[j]]from zc bU);generalize S[j]=k at ae a1 a2 a3 a4 bW;generalize zs[j]=z at bW df cj;replace ae:=(aW.cell (p:=⟨g,ad+j*5,T⟩) hg).trans ae;replace a1:=(aW.cell (p:=⟨g,ad+j*5+1,T⟩) hg).trans a1;replace a2:=(aW.cell (p:=⟨g,ad+j*5+2,T⟩) hg).trans a2;replace a3:=(aW.cell (p:=⟨g,ad+j*5+3,T⟩) hg).trans a3;replace a4:=(aW.cell (p:=⟨g,ad+j*5+4,T⟩) hg).trans a4;have bX:=Ab bj;have bk:=Ab (Aa bW _ (bV.alloc bV.size (CZ k)));have ej:t.length<=1048576:=by have:=Aa ch;omega
   generalize aI:(zs.take j).all Ex.con=bT;have dO:=Ab aI;clear bj ci bU aI aW;go_wp2_with fail
   refine(Aa bk).mono ?_;rintro r af ⟨dP,rfl,ck,cl⟩;obtain⟨A,C,D,E,F,G,H,I,J⟩:=dP;dsimp only at ck|-;have bY:∀q,(Value.slice ab t.length P).ownBlock=Y q->B<=q/\q<wr.heap.size:=fun q aX=>aa.own.lt q aX;have dQ:(wr.alloc (CZ k)).heap.size=wr.heap.size+1:=by simp
   have bl:=(AN wr (CZ k)).trans (cl.mono (by omega));have ek:wr.heap.size<af.heap.size:=by have:=cl.size;omega
   have bm:=(aa.below bl).below (AN af (Bs A C D E F G H I J));have dg:Py wz (wr.heap.size+1) (af.alloc (Bs A C D E F G H I J)).heap.size (af.alloc (Bs A C D E F G H I J)) ⟨A,C,D,E,F,G,H,I,J⟩ z:=(ck.keep (Cp.of_below (AN af (Bs A C D E F G H I J)))).mono (fun b al=>by rw[dQ]at al;rw[World.size_alloc];omega);have dh:=(RT.after bl NLN).alloc (Bs A C D E F G H I J);have di:=(aD.after bl NLN).alloc (Bs A C D E F G H I J);have cm:=Ah.new af #[U V A,U V C,Q D,X E F G,X H I J] 101;have dj:=(ak.trans (bl.mono (by omega))).alloc (by omega) (Bs A C D E F G H I J);have dR:(af.alloc (Bs A C D E F G H I J)).heap.size=af.heap.size+1:=by simp
   obtain⟨dS,n1,aY,dT,dU,-⟩:=Aq cm;clear aa RT aD ak bV ck cl bl bk bW ae a1 a2 a3 a4;have dk:=World.ownsRow.alloc bm.own (Bs A C D E F G H I J);have co:=World.news_of_block (heap_alloc_new (af.alloc (Bs A C D E F G H I J)) (Bs A C D E F G H I J));simp only[World.size_alloc]at co;go_wp2_with (at_builtin;refine wpList_append_lies _ rfl _ _ 97 rfl B 101 dA (.agg #[U V 0,U V 0,Q ByteArray.empty,X T 0 0,X T 0 0]) 5 80 underlying97 dB dC dD dE rfl (by decide) (X ab t.length P) t.length (t.flatMap K5.cs) rfl dk ⟨af.heap.size+1,0,T⟩ 1 1 (K5.cs ⟨A,C,D,E,F,G,H,I,J⟩) rfl rfl co (by intro u hu;simp[K5.cs]at hu;rcases hu with rfl|rfl|rfl|rfl|rfl<;>rfl) (by decide) (by unfold maxLen;omega) (by omega) (by simp;omega) _ rfl ?_)
   intro g7 c7 cp dl aJ hat dV;have aK:∀q,q<B->Y q≠(Value.slice ab t.length P).ownBlock:=fun q aX e=>by have:=(bY q e.symm).1;omega
   have dW:Y af.heap.size≠(Value.slice ab t.length P).ownBlock:=fun e=>by have:=(bY _ e.symm).2;omega
   have cq:=(dh.alloc (Bs A C D E F G H I J)).grown aJ (aK aq (by omega));have cr:=(di.alloc (Bs A C D E F G H I J)).grown aJ (aK aH (by omega));have dm:=(cm.alloc (Bs A C D E F G H I J)).grown aJ dW;have ct:=(dj.alloc (by rw[dR];omega) (Bs A C D E F G H I J)).grown aJ (by simp;omega) (fun q aX=>by have:=(bY q aX).1;omega);have dn:B<=cp.heap.size:=by have:=aJ.size;simp at this;omega
   have cu:=bm.snoc (k:=⟨A,C,D,E,F,G,H,I,J⟩) (b:=z) (by omega) (by omega) (fun q aX=>by have:=(bY q aX).2;omega) dg dl aJ (hat.imp id (fun e=>by rw[e];simp));have cv:=Ab (show Tt wz B (X (Y ⟨g7,0,T⟩) (t.length+1) c7) (t++[(⟨A,C,D,E,F,G,H,I,J⟩:K5)]) (zs.take (j+1)) cp by rw[Aa cj];exact cu);have dp:=Ab (show(t++[(⟨A,C,D,E,F,G,H,I,J⟩:K5)]).length=j+1 by rw[zB,Aa ch];rfl);have dq:=Ab (show(zs.take (j+1)).all Ex.con=(bT&&z.con) by rw[Aa cj,List.all_append,Aa dO];simp);have dX:=Ab (show Tq cp z ⟨A,C,D,E,F,G,H,I,J⟩ by
    have q:=cu.each t.length (by simp) (by rw[List.length_append,bm.len];simp);obtain⟨_,_,_,_,_,q⟩:=q;have dr:=Tl.tq q;have el:=bm.len;rw[yE NLN,yE (by omega)]at dr;simpa using dr)
   have dY:=Ab (DX (Aa dX) (Aa df));obtain⟨aL,aM,aN,aO,aP,-⟩:=Aq dm;clear bm cu dl aJ hat dV dg dk co dh di cm dj dS n1 aY dT dU dm;generalize af.heap.size=em at aL aM aN aO aP|-;cases bT with
   |false=>
    go_wp2
    go_roundw
    case rel=>exact⟨j+1,_,Aa bX,by go_num,by rw[Aa dq];rfl,dp,cq,cr,Aa cv,ct,dn⟩
    case measure=>have:=Aa bX;simp[intOf];omega
   |true=>
    go_wp2_with fail
    refine(Aa dY).mono ?_;rintro r ar ⟨rfl,aZ⟩;have bn:=cq.after aZ NLN;have a0:=cr.after aZ NLN;have aE:=ct.trans (aZ.mono (by omega));have dZ:=Ab ((Aa cv).below aZ);have d0:B<=ar.heap.size:=zC dn aZ.size;clear cq cr ct cv aZ aL aM aN aO aP;dsimp only;go_wp2
    go_roundw
    case rel=>exact⟨j+1,_,Aa bX,by go_num,by rw[Aa dq];simp,dp,bn,a0,Aa dZ,aE,d0⟩
    case measure=>have:=Aa bX;simp[intOf];omega
  ·have ds:j=m:=by omega
   have dt:zs.take j=zs:=zf (by rw[Aa aG];omega);rw[dt]at aa|-;have bo:t.length=m:=by rw[Aa ch];exact ds
   have bp:=Et (by have:=aa.own;rw[bo]at this;exact this) bo;have bZ:=Ab bp;have b0:=Ab (fun (i:Nat) (h:i<zs.length) (cd:i<t.length)=>by
    obtain⟨_,_,_,_,_,q⟩:=aa.each i cd h;exact(Tl.tq q))
   rw[bo];have b5:=Ab bo;have en: ¬ ((j:Int)<(m:Int)):=by omega
   obtain⟨a5,a6,a7,a8,a9,-⟩:=Aq RT;clear bp bo dt bj ds;go_upto_if 56 with fail
   go_cut [6] (fun _ ba=>Ah ba aq #[U V N,U V aw,Q ax,X ay az aA,X (Y ⟨g,ad,T⟩) m aB] 101/\Ah ba aH #[U V 0,U V 0,Q ⟨#[]⟩,X T 0 0,X T 0 0] 101/\Tt wz B (X ab m P) t zs ba/\An w ba/\Hid (AP e=T))
   case first=>
    cases aI:zs.all Ex.con with
    |true=>
     have bk:=Ab (Aa bR wr t ab P (Aa b5) (Aa bZ) (Aa b0) aI);clear aI bR bS;go_wp2_with fail
     refine(Aa bk).mono ?_;rintro r ar ⟨⟨c,b,rfl,al,cw⟩,bb⟩;dsimp only;have aE:An w ar:=(show An w wr by show Below _ _ _;rw[Aa bi];exact ak).trans (bb.mono ak.size);have bn:=RT.after bb NLN;have a0:=aD.after bb NLN;have cx:=aa.below bb;have du:=Aa bi;cases aF:AP e with
     |some z=>
      rw[aF]at al;subst al;have au:=Ab (show Ie ls e=z by rw[Ie,aF]);have aQ:=a0.alloc (CZ c);have K:=Ab (Ef (w0:=wz) (B:=B) (c:=c) (z:=z) (by omega) (aE.alloc aE.size (CZ c)) aQ (by omega) (by omega) (If (RM aF) ((cw z aF).below (AN ar (CZ c)) NLN)));obtain⟨aL,aM,aN,aO,aP,-⟩:=Aq aQ;obtain⟨b6,f1,f2,b7,b8⟩:=Fl aQ;clear aQ a0 bn cx aE cw aF bb du aa RT aD ak;go_wp2
      exact bodyPost_ret (Gj results73 rfl (Aa K).2.1) rfl (by rw[Aa au];exact⟨c,rfl,(Aa K).2.2,(Aa K).1⟩)
     |none=>
      rw[aF]at al;subst al;have ac:=Ab (⟨bn.alloc (CZ c),a0.alloc (CZ c),by have q:=cx.below (AN ar (CZ c));rw[Aa b5]at q;exact q,aE.alloc aE.size (CZ c),Ab aF⟩:Ah (ar.alloc (CZ c)) aq _ _/\Ah (ar.alloc (CZ c)) aH _ _/\Tt wz B (X ab m P) t zs (ar.alloc (CZ c))/\An w (ar.alloc (CZ c))/\Hid (AP e=T));clear a0 bn cx aE cw bb aa RT aD ak bk b0 bZ a5 a6 a7 a8 a9 aF;go_wp2
      go_meet
      exact Aa ac
    |false=>
     have ac:=Ab (⟨RT,aD,by have q:=aa;rw[Aa b5]at q;exact q,by(try show Below _ _ _);rw[Aa bi];exact ak,Ab (Aa bS aI)⟩:Ah wr aq _ _/\Ah wr aH _ _/\Tt wz B (X ab m P) t zs wr/\An w wr/\Hid (AP e=T));clear RT aD aa ak b0 bZ aI bR bS a5 a6 a7 a8 a9;go_wp2
     go_meet
     exact Aa ac
   case rest=>
    obtain⟨cy,aQ,dv,cz,br⟩:=hcut;have du:=Aa bi;clear bR bS bZ b0 a5 a6 a7 a8 a9 RT aD aa ak;cases Aa dG with
    |leaf e hk hx=>have:=Aa aG;simp at this;omega
    |un i y b9=>have:=Aa aG;simp at this;omega
    |bin i y L b9=>have:=Aa aG;simp at this;omega
    |ite i y L O d1 b9=>
     have d2:m=3:=(Aa aG).symm;subst d2;subst d1;obtain⟨ca,a,d,rfl⟩:∃ca a d,t=[ca,a,d]:=by
      have:=Aa b5
      match t,this with
      |[ca,a,d],_=>exact⟨ca,a,d,rfl⟩
     have bc:=dv.below (AN wc (jC #[U V 27,U V 0,Q ⟨#[]⟩,X T 0 0,X ab 3 P] 101));have cA:=cz.alloc cz.size (jC #[U V 27,U V 0,Q ⟨#[]⟩,X T 0 0,X ab 3 P] 101);have cB:=cy.alloc (jC #[U V 27,U V 0,Q ⟨#[]⟩,X T 0 0,X ab 3 P] 101);have cC:=aQ.alloc (jC #[U V 27,U V 0,Q ⟨#[]⟩,X T 0 0,X ab 3 P] 101);have cD:=Ah.new wc #[U V 27,U V 0,Q ⟨#[]⟩,X T 0 0,X ab 3 P] 101;have bp:=Et (m:=3) bc.own rfl;have cE:=bc.all (m:=3) rfl NLN 27 0 ⟨#[]⟩ T 0 0 [] ⟨⟨rfl,NLN,zE _,fun j h=>absurd h (by simp),fun j h=>absurd h (by simp)⟩,zE _,fun _=>rfl,fun eo e=>by cases e⟩ _ (.ite i y L O rfl b9);have bs:=bc.kid 0 (by simp) (by simp);have bt:=bc.kid 1 (by simp) (by simp);have S2:=bc.kid 2 (by simp) (by simp);obtain⟨o,s,d3,f,cb⟩:=Bp bp (by simp);subst d3;obtain⟨ae,a1,a2,a3,a4⟩:=cb 0 (by simp);obtain⟨aR,b1,b2,b3,b4⟩:=cb 1 (by simp);obtain⟨c0,c1,c2,c3,c4⟩:=cb 2 (by simp);simp only[z3,yF,zw,Nat.one_mul,ze]at ae a1 a2 a3 a4 aR b1 b2 b3 b4 c0 c1 c2 c3 c4 bs bt S2;obtain⟨d4,s1,s2,d5,d6,-⟩:=Aq cy;obtain⟨a5,a6,a7,a8,a9,-⟩:=Aq cB;have aS:=Aa bh y (by simp);have bd:=Aa bh L (by simp);have d7:=Aa bh O (by simp);have ao:=Tl.tq bs;have ag:=Tl.tq bt;have aT:=Tl.tq S2;clear bp cb dv cz cy aQ bc db aG bh dH dI da b9;go_upto_region 20 with fail
     generalize d8:wc.alloc (jC #[U V 27,U V 0,Q ⟨#[]⟩,X T 0 0,X (Y ⟨o,s,T⟩) 3 P] 101)=d9 at bs bt S2 cE cA cB cC cD ao ag aT ae a1 a2 a3 a4 aR b1 b2 b3 b4 c0 c1 c2 c3 c4 f a5 a6 a7 a8 a9|-;clear d8;have bu:=Ab (show C15 d9 o s _ _ _ _ _ _ _ _ _ _ _ _ _ _ _ from⟨ae,a1,a2,a3,a4,aR,b1,b2,b3,b4,c0,c1,c2,c3,c4⟩);have bv:=Ab (⟨bs,bt,S2,cE⟩:_/\_/\_/\_);have av:=Ab cA;have bw:=Ab cC;have bx:=Ab cD;clear cA cC cD bs bt S2 cE cB a5 a6 a7 a8 a9 d4 s1 s2 d5 d6;go_wp2_with fail
     refine(Gb ao aS R 1 rfl).mono ?_;rintro r dd ⟨rfl,ah⟩;dsimp only;cases cc:isB R y with
     |true=>
      have au:=Ab (show Ie ls (.ite i y L O)=L by rw[Ie,Aa br];simp[AV,cc]);have ai:=(Aa av).trans (ah.mono (Aa av).size);have M:=(Aa bw).after ah NLN;have aj:=(Aa bx).after ah NLN;have K:=Ab (Ef (w0:=wz) (B:=B) (c:=a) (by omega) ai M (by omega) (by omega) (((Aa bv).2.1).keep (Cp.of_below ah) |>.mono (fun b al=>by have:=ah.size;omega)));obtain⟨aL,aM,aN,aO,aP,-⟩:=Aq M;obtain⟨b6,f1,f2,b7,b8⟩:=Fl M;obtain⟨cF,cG,cH,cI,cJ,-⟩:=Aq aj;obtain⟨bz,bA,bB,bC,bD,bE,bF,bG,bH,bI,bJ,bK,bL,bM,bN⟩:=(Aa bu).below ah f;clear ai M aj ah;go_wp2
      exact bodyPost_ret (Gj results73 rfl (Aa K).2.1) rfl (by rw[Aa au];exact⟨_,rfl,(Aa K).2.2,(Aa K).1⟩)
     |false=>
      have dw:=ao.below ah NLN;obtain⟨bz,bA,bB,bC,bD,bE,bF,bG,bH,bI,bJ,bK,bL,bM,bN⟩:=(Aa bu).below ah f;go_wp2_with fail
      refine(Gb dw aS jA 0 rfl).mono ?_;rintro r x ⟨rfl,b2⟩;have l:=ah.trans (b2.mono ah.size);clear b2 dw bz bA bB bC bD bE bF bG bH bI bJ bK bL bM bN ah;dsimp only;cases cK:isB jA y with
      |true=>
       have au:=Ab (show Ie ls (.ite i y L O)=O by rw[Ie,Aa br];simp[AV,cc,cK]);have ai:=(Aa av).trans (l.mono (Aa av).size);have M:=(Aa bw).after l NLN;have aj:=(Aa bx).after l NLN;have K:=Ab (Ef (w0:=wz) (B:=B) (c:=d) (by omega) ai M (by omega) (by omega) (((Aa bv).2.2.1).keep (Cp.of_below l) |>.mono (fun b al=>by have:=l.size;omega)));obtain⟨aL,aM,aN,aO,aP,-⟩:=Aq M;obtain⟨b6,f1,f2,b7,b8⟩:=Fl M;obtain⟨cF,cG,cH,cI,cJ,-⟩:=Aq aj;obtain⟨bz,bA,bB,bC,bD,bE,bF,bG,bH,bI,bJ,bK,bL,bM,bN⟩:=(Aa bu).below l f;clear ai M aj l;go_wp2
       exact bodyPost_ret (Gj results73 rfl (Aa K).2.1) rfl (by rw[Aa au];exact⟨_,rfl,(Aa K).2.2,(Aa K).1⟩)
      |false=>
       have cL:=Ab cc;have cM:=Ab cK;clear cc cK;go_upto_region 24 with fail
       go_cut [90] (fun v ba=>v= .bool (Va L O&&AF y)/\An x ba)
       case first=>
        replace ao:=ao.below l NLN;replace ag:=ag.below l NLN;replace aT:=aT.below l NLN;replace ae:=(l.cell (p:=⟨o,s,T⟩) f).trans ae;replace a1:=(l.cell (p:=⟨o,s+1,T⟩) f).trans a1;replace a2:=(l.cell (p:=⟨o,s+2,T⟩) f).trans a2;replace a3:=(l.cell (p:=⟨o,s+3,T⟩) f).trans a3;replace a4:=(l.cell (p:=⟨o,s+4,T⟩) f).trans a4;replace aR:=(l.cell (p:=⟨o,s+5,T⟩) f).trans aR;replace b1:=(l.cell (p:=⟨o,s+5+1,T⟩) f).trans b1;replace b2:=(l.cell (p:=⟨o,s+5+2,T⟩) f).trans b2;replace b3:=(l.cell (p:=⟨o,s+5+3,T⟩) f).trans b3;replace b4:=(l.cell (p:=⟨o,s+5+4,T⟩) f).trans b4;replace c0:=(l.cell (p:=⟨o,s+10,T⟩) f).trans c0;replace c1:=(l.cell (p:=⟨o,s+10+1,T⟩) f).trans c1;replace c2:=(l.cell (p:=⟨o,s+10+2,T⟩) f).trans c2;replace c3:=(l.cell (p:=⟨o,s+10+3,T⟩) f).trans c3;replace c4:=(l.cell (p:=⟨o,s+10+4,T⟩) f).trans c4;replace f:=zR f l.size;clear l bv av bw bx br cL cM;have ep:=fun n:Gf x=>(n.2.cell (p:=⟨o,s,T⟩) f).trans ae;have eq:=fun n:Gf x=>(n.2.cell (p:=⟨o,s+1,T⟩) f).trans a1;have er:=fun n:Gf x=>(n.2.cell (p:=⟨o,s+2,T⟩) f).trans a2;have es:=fun n:Gf x=>(n.2.cell (p:=⟨o,s+3,T⟩) f).trans a3;have et:=fun n:Gf x=>(n.2.cell (p:=⟨o,s+4,T⟩) f).trans a4;have eu:=fun n:Gf x=>(n.2.cell (p:=⟨o,s+5,T⟩) f).trans aR;have ev:=fun n:Gf x=>(n.2.cell (p:=⟨o,s+5+1,T⟩) f).trans b1;have ew:=fun n:Gf x=>(n.2.cell (p:=⟨o,s+5+2,T⟩) f).trans b2;have ex:=fun n:Gf x=>(n.2.cell (p:=⟨o,s+5+3,T⟩) f).trans b3;have ey:=fun n:Gf x=>(n.2.cell (p:=⟨o,s+5+4,T⟩) f).trans b4;have ez:=fun n:Gf x=>(n.2.cell (p:=⟨o,s+10,T⟩) f).trans c0;have eA:=fun n:Gf x=>(n.2.cell (p:=⟨o,s+10+1,T⟩) f).trans c1;have eB:=fun n:Gf x=>(n.2.cell (p:=⟨o,s+10+2,T⟩) f).trans c2;have eC:=fun n:Gf x=>(n.2.cell (p:=⟨o,s+10+3,T⟩) f).trans c3;have eD:=fun n:Gf x=>(n.2.cell (p:=⟨o,s+10+4,T⟩) f).trans c4;clear ae a1 a2 a3 a4 aR b1 b2 b3 b4 c0 c1 c2 c3 c4;cases ap:L.con with
        |false=>
         have ac:=Ab (show(Va L O&&AF y)=jA by simp[Va,ap]);have aK:Nonempty (Gf x):=⟨⟨x,BRN⟩⟩
         refine CX (by kernel_rfl) (by kernel_rfl) ?_
         repeat (first|go_big_quiet_skip|(go_big_quiet_want;go_big_quiet_op;first|go_big_quiet_on|(apply Exists.intro;refine⟨fun n=>?_,?_⟩;(first|exact rfl|(go_at_call 99;have q:=DX (ag.below n.2 NLN) bd;rw[ap]at q;exact q.mono (bq n))|(go_at_call_of 101 (a.text);have q:=Fm a n.1;exact q.mono (bq n))|(go_at_call_of 101 (d.text);have q:=Fm d n.1;exact q.mono (bq n))|(go_at_call 81;have q:=EJ 0 a.num a.text a.an a.nn a.cn _ 0 d.num d.text d.an d.nn d.cn _ n.1 ((Aa bO).below n.2 NLN) ((Aa bP).below n.2 NLN);rw[hp]at q;exact q.mono (bq n))|(go_at_call 48;have q:=EO y _ n.1 (ao.below n.2 NLN) aS;rw[aU]at q;exact q.mono (bq n)));go_big_quiet_on)))
         refine wpQuiet_nil ?_;rintro _ ⟨n,rfl⟩;go_wp2
         go_meet
         exact⟨by rw[Aa ac],n.2⟩
        |true=>
         by_cases aV:a.op=d.op
         ·have ea:(a.op==d.op)=R:=zF.2 aV;have cN:O.con=R:=by rw[YF d7,<-aT.op,<-aV,ag.op,<-YF bd];exact ap
          have bf:=AdF ap cN (by rw[<-ag.op,<-aT.op];exact aV);have n1:=ZU ap ag;have aY:=ZU cN aT;rw[<-n1.1,<-aY.1,<-n1.2.1,<-aY.2.1]at bf;have bO:=Ab n1.2.2;have bP:=Ab aY.2.2;clear aV cN n1 aY;cases hp:Vp a.num d.num a.text d.text (Ed L).names (Ed O).names with
          |false=>
           have ac:=Ab (show(Va L O&&AF y)=jA by rw[bf,hp];rfl);clear bf;have aK:Nonempty (Gf x):=⟨⟨x,BRN⟩⟩
           refine CX (by kernel_rfl) (by kernel_rfl) ?_
           repeat (first|go_big_quiet_skip|(go_big_quiet_want;go_big_quiet_op;first|go_big_quiet_on|(apply Exists.intro;refine⟨fun n=>?_,?_⟩;(first|exact rfl|(go_at_call 99;have q:=DX (ag.below n.2 NLN) bd;rw[ap]at q;exact q.mono (bq n))|(go_at_call_of 101 (a.text);have q:=Fm a n.1;exact q.mono (bq n))|(go_at_call_of 101 (d.text);have q:=Fm d n.1;exact q.mono (bq n))|(go_at_call 81;have q:=EJ 0 a.num a.text a.an a.nn a.cn _ 0 d.num d.text d.an d.nn d.cn _ n.1 ((Aa bO).below n.2 NLN) ((Aa bP).below n.2 NLN);rw[hp]at q;exact q.mono (bq n))|(go_at_call 48;have q:=EO y _ n.1 (ao.below n.2 NLN) aS;rw[aU]at q;exact q.mono (bq n)));go_big_quiet_on)))
           refine wpQuiet_nil ?_;rintro _ ⟨n,rfl⟩;go_wp2
           go_meet
           exact⟨by rw[Aa ac],n.2⟩
          |true=>
           cases aU:AF y with
           |false=>
            have ac:=Ab (show(Va L O&&AF y)=jA by rw[aU,Bool.and_false]);clear bf;have aK:Nonempty (Gf x):=⟨⟨x,BRN⟩⟩
            refine CX (by kernel_rfl) (by kernel_rfl) ?_
            repeat (first|go_big_quiet_skip|(go_big_quiet_want;go_big_quiet_op;first|go_big_quiet_on|(apply Exists.intro;refine⟨fun n=>?_,?_⟩;(first|exact rfl|(go_at_call 99;have q:=DX (ag.below n.2 NLN) bd;rw[ap]at q;exact q.mono (bq n))|(go_at_call_of 101 (a.text);have q:=Fm a n.1;exact q.mono (bq n))|(go_at_call_of 101 (d.text);have q:=Fm d n.1;exact q.mono (bq n))|(go_at_call 81;have q:=EJ 0 a.num a.text a.an a.nn a.cn _ 0 d.num d.text d.an d.nn d.cn _ n.1 ((Aa bO).below n.2 NLN) ((Aa bP).below n.2 NLN);rw[hp]at q;exact q.mono (bq n))|(go_at_call 48;have q:=EO y _ n.1 (ao.below n.2 NLN) aS;rw[aU]at q;exact q.mono (bq n)));go_big_quiet_on)))
            refine wpQuiet_nil ?_;rintro _ ⟨n,rfl⟩;go_wp2
            go_meet
            exact⟨by rw[Aa ac],n.2⟩
           |true=>
            have ac:=Ab (show(Va L O&&AF y)=R by rw[bf,hp,aU];rfl);clear bf;have aK:Nonempty (Gf x):=⟨⟨x,BRN⟩⟩
            refine CX (by kernel_rfl) (by kernel_rfl) ?_
            repeat (first|go_big_quiet_skip|(go_big_quiet_want;go_big_quiet_op;first|go_big_quiet_on|(apply Exists.intro;refine⟨fun n=>?_,?_⟩;(first|exact rfl|(go_at_call 99;have q:=DX (ag.below n.2 NLN) bd;rw[ap]at q;exact q.mono (bq n))|(go_at_call_of 101 (a.text);have q:=Fm a n.1;exact q.mono (bq n))|(go_at_call_of 101 (d.text);have q:=Fm d n.1;exact q.mono (bq n))|(go_at_call 81;have q:=EJ 0 a.num a.text a.an a.nn a.cn _ 0 d.num d.text d.an d.nn d.cn _ n.1 ((Aa bO).below n.2 NLN) ((Aa bP).below n.2 NLN);rw[hp]at q;exact q.mono (bq n))|(go_at_call 48;have q:=EO y _ n.1 (ao.below n.2 NLN) aS;rw[aU]at q;exact q.mono (bq n)));go_big_quiet_on)))
            refine wpQuiet_nil ?_;rintro _ ⟨n,rfl⟩;go_wp2
            go_meet
            exact⟨by rw[Aa ac],n.2⟩
         ·have ea:(a.op==d.op)=jA:=zA.2 aV;have ac:=Ab (show(Va L O&&AF y)=jA by rw[AgF ap (by rw[<-ag.op,<-aT.op];exact aV)];rfl);clear aV;have aK:Nonempty (Gf x):=⟨⟨x,BRN⟩⟩
          refine CX (by kernel_rfl) (by kernel_rfl) ?_
          repeat (first|go_big_quiet_skip|(go_big_quiet_want;go_big_quiet_op;first|go_big_quiet_on|(apply Exists.intro;refine⟨fun n=>?_,?_⟩;(first|exact rfl|(go_at_call 99;have q:=DX (ag.below n.2 NLN) bd;rw[ap]at q;exact q.mono (bq n))|(go_at_call_of 101 (a.text);have q:=Fm a n.1;exact q.mono (bq n))|(go_at_call_of 101 (d.text);have q:=Fm d n.1;exact q.mono (bq n))|(go_at_call 81;have q:=EJ 0 a.num a.text a.an a.nn a.cn _ 0 d.num d.text d.an d.nn d.cn _ n.1 ((Aa bO).below n.2 NLN) ((Aa bP).below n.2 NLN);rw[hp]at q;exact q.mono (bq n))|(go_at_call 48;have q:=EO y _ n.1 (ao.below n.2 NLN) aS;rw[aU]at q;exact q.mono (bq n)));go_big_quiet_on)))
          refine wpQuiet_nil ?_;rintro _ ⟨n,rfl⟩;go_wp2
          go_meet
          exact⟨by rw[Aa ac],n.2⟩
       case rest=>
        obtain⟨rfl,dx⟩:=hcut;have W:=l.trans (dx.mono l.size);clear l dx;cases dy:(Va L O&&AF y)with
        |true=>
         have au:=Ab (show Ie ls (.ite i y L O)=L by rw[Ie,Aa br];simp[AV,Aa cL,Aa cM,dy]);have ai:=(Aa av).trans (W.mono (Aa av).size);have M:=(Aa bw).after W NLN;have aj:=(Aa bx).after W NLN;have K:=Ab (Ef (w0:=wz) (B:=B) (c:=a) (by omega) ai M (by omega) (by omega) (((Aa bv).2.1).keep (Cp.of_below W) |>.mono (fun b al=>by have:=W.size;omega)));obtain⟨aL,aM,aN,aO,aP,-⟩:=Aq M;obtain⟨b6,f1,f2,b7,b8⟩:=Fl M;obtain⟨cF,cG,cH,cI,cJ,-⟩:=Aq aj;obtain⟨bz,bA,bB,bC,bD,bE,bF,bG,bH,bI,bJ,bK,bL,bM,bN⟩:=(Aa bu).below W f;clear ai M aj W;go_wp2
         exact bodyPost_ret (Gj results73 rfl (Aa K).2.1) rfl (by rw[Aa au];exact⟨_,rfl,(Aa K).2.2,(Aa K).1⟩)
        |false=>
         have au:=Ab (show Ie ls (.ite i y L O)= .ite i y L O by rw[Ie,Aa br];simp[AV,Aa cL,Aa cM,dy]);have ai:=(Aa av).trans (W.mono (Aa av).size);have M:=(Aa bw).after W NLN;have aj:=(Aa bx).after W NLN;have K:=Ab (Ef (w0:=wz) (B:=B) (c:=⟨27,0,⟨#[]⟩,T,0,0,Y ⟨o,s,T⟩,3,P⟩) (by omega) ai M (by omega) (by omega) (((Aa bv).2.2.2).keep (Cp.of_below W) |>.mono (fun b al=>by have:=W.size;omega)));obtain⟨aL,aM,aN,aO,aP,-⟩:=Aq M;obtain⟨b6,f1,f2,b7,b8⟩:=Fl M;obtain⟨cF,cG,cH,cI,cJ,-⟩:=Aq aj;obtain⟨bz,bA,bB,bC,bD,bE,bF,bG,bH,bI,bJ,bK,bL,bM,bN⟩:=(Aa bu).below W f;clear ai M aj W;go_wp2
         exact bodyPost_ret (Gj results73 rfl (Aa K).2.1) rfl (by rw[Aa au];exact⟨_,rfl,(Aa K).2.2,(Aa K).1⟩)
end Go.Proofs.YtppafecmccdplaaGreat

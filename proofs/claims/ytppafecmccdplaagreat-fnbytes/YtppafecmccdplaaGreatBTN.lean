import Derived.Test.YtppafecmccdplaaGreatMXAM
open Go.Proofs.Tryz
open Option renaming none->T,some->Y
open Go.Value renaming int->U,string->Q,agg->jE
open Go.IntKind renaming i64->V
open Go.Proofs.Tryz renaming prog->jL
namespace Go.Proofs.YtppafecmccdplaaGreat
set_option maxRecDepth 100000
set_option maxHeartbeats 12800000
open Go.RowKit
set_option linter.unusedVariables false
theorem Ou {a:Type}(l:List a)(t:Nat)(h:t<l.length)(f:a->a):l.modify t f=l.set t (f l[t]):=by
 apply List.ext_getElem
 ·simp
 ·intro i h1 b;rw[List.getElem_modify,List.getElem_set];by_cases e:t=i
  ·subst e;simp
  ·simp[e]
theorem AbV {R:Nat}{a:Option Addr}{n c:Nat}{zs:List Int}{p:Nat}{w:World}(aU:KL w R a n c zs p){P:List Vl}{s:Int}{I:List Cg}{x y:Option Addr}{cx az lo:Nat}{J:List Value}(bt:SV w lo (.slice x P.length cx) P J)(bu:w.ownsRow lo 49 2 (.slice y I.length az) I.length (Cm I))(h1:P.length<=100000)(aV:I.length<100000):
  Calls jL 30 #[.pointer (Y ⟨R,0,T⟩),jE #[.slice x P.length cx,U V s,.slice y I.length az]] w fun r w'=>AbU 100000 (fun o F I'=>(o,F,I')=JI zs p P s I) w r w'/\Al R (R+1) w w':=by
 obtain⟨bv,bw,bx,bz,bA⟩:=info_parts IZ;obtain⟨bW,bX,bY,bZ,b0⟩:=info_parts Ug;have b2:=aU.lt;go_enter func30,ntmps30
 go_upto_region 2 with fail
 refine PW (P:=Code.wp _ _ _ _) fun aA aB aC aW L=>?_;have O:=bt.keep (w':=aA) fun q b4 t r _=>aB.block q r.lt;have aD:=Af bu aB NLN;have cP:w.heap.size+1+1<aA.heap.size:=L.lt;obtain⟨aX,aY,aZ⟩:=Ao aC;obtain⟨a0,d1,d2⟩:=Ao L;have b5:=L.frozen;clear bt bu;go_wp2_with (at_builtin;refine Ov rfl _ _ 23 rfl 44 bW (jE #[U V 0,U V 0,Q ByteArray.empty,.slice T 0 0]) 4 56 underlying23 bX bY bZ b0 rfl (by decide) lo P.length cx x (Iz P J) rfl rfl O.own O.one (by unfold maxLen;omega) (by omega) ?_)
 intro cQ b6 aE b1;obtain⟨xp,cp,rfl,-⟩:=Ae aE;have fe:=(L.after b1 NLN).frozen;have a3:=(L.after b1 NLN).cell 0;clear a0 d1 d2 aX aY aZ b5;go_upto_region 3 with fail
 obtain⟨G,ak⟩:∃G,G=b6.setCell ⟨w.heap.size+1+1,0,T⟩ (.slice xp P.length cp):=⟨_,rfl⟩
 rw[<-ak];have K2:GW (fun q=>q=w.heap.size+1+1) aA G:=by rw[ak];exact GW.setCell (S:=fun q=>q=w.heap.size+1+1) (GW.of_below b1) (p:=⟨w.heap.size+1+1,0,T⟩) (fun _=>rfl) _
 have af:Ah G (w.heap.size+1+1) #[.slice xp P.length cp,U V s,.slice T 0 0] 26:=by rw[ak];exact(L.after b1 NLN).set 0 _
 have bB:SV G (w.heap.size+2) (.slice xp P.length cp) P J:=⟨O.len,by
  rw[ak];exact Ai (Aj aE (by omega)) ⟨w.heap.size+1+1,0,T⟩ _ (fun q H=>by have:=(aE.lt q H).1;show q≠w.heap.size+1+1;omega),fun j ab al=>Ad (O.names j ab al) fun q H=>K2.block q ((O.names j ab al).lt q H).2 (fun e=>Ac L (O.names j ab al) (by decide) (by rw[<-e];exact H)),O.ok⟩
 have aF:An w G:=aB.trans ⟨K2.os,K2.tape,K2.output,K2.size,fun q H=>K2.block q (by omega) (by omega)⟩;have bC:=Ad aD (w':=G) fun q H=>K2.block q (aD.lt q H).2 (fun e=>Ac L aD (by decide) (by rw[<-e];exact H));have bD:Ah G w.heap.size #[.slice x P.length cx,U V s,.slice y I.length az] 26:=⟨(K2.block _ aC.lt (by omega)).trans aC.out⟩
 have a4:Ah G (w.heap.size+1) #[.slice T 0 0,U V 0,.slice T 0 0] 26:=⟨(K2.block _ aW.lt (by omega)).trans aW.out⟩
 have s2:aA.heap.size<=G.heap.size:=K2.size;clear ak K2 aC aW L O aD aB b1 aE fe a3;obtain⟨aX,aY,aZ⟩:=Ao bD;obtain⟨a0,d1,d2⟩:=Ao af;go_wp2_with (at_builtin;refine Ov rfl _ _ 24 rfl 49 bv (jE #[U V 0,U V 0]) 2 16 underlying24 bw bx bz bA rfl (by decide) lo I.length az y (Cm I) rfl rfl bC (AbW I) (by unfold maxLen;omega) (by omega) ?_)
 intro cS aG aH b3;obtain⟨xi,ci,rfl,bE⟩:=Ae aH;have fe:=(af.after b3 NLN).frozen;have a3:=(af.after b3 NLN).cell 2;clear a0 d1 d2 aX aY aZ;go_upto_region 4 with fail
 have a5:L5 w (aG.setCell ⟨w.heap.size+1+1,2,T⟩ (.slice xi I.length ci)) R (R+1) (w.heap.size+2) (w.heap.size+1) (w.heap.size+1+1) s P I (.slice xp P.length cp) (.slice xi I.length ci) J:=by
  have W:GW (fun q=>q=w.heap.size+1+1) G (aG.setCell ⟨w.heap.size+1+1,2,T⟩ (.slice xi I.length ci)):=GW.setCell (S:=fun q=>q=w.heap.size+1+1) (GW.of_below b3) (p:=⟨w.heap.size+1+1,2,T⟩) (fun _=>rfl) _;refine⟨(af.after b3 NLN).set 2 _,bB.keep fun q b4 t r ao=>W.block q r.lt (fun e=>Bk r af (by rcases ao with rfl|rfl<;>decide) e),Ai (Aj aH (by omega)) ⟨w.heap.size+1+1,2,T⟩ _ (fun q H=>by have:=(aH.lt q H).1;show q≠w.heap.size+1+1;omega),⟨(W.block _ a4.lt (by omega)).trans a4.out⟩,Al.of_below (aF.trans ⟨W.os,W.tape,W.output,W.size,fun q H=>W.block q (by omega) (by omega)⟩) NLN,⟨by omega,by omega,by omega,by omega,?_⟩⟩;have:=W.size;omega
 have aI:KL (aG.setCell ⟨w.heap.size+1+1,2,T⟩ (.slice xi I.length ci)) R a n c zs p:=aU.after (B:=w.heap.size) (by obtain⟨h1,aV,ab,al,h5⟩:=aF.trans (b3.mono aF.size);exact(Below.setCell ⟨h1,aV,ab,al,h5⟩ (p:=⟨w.heap.size+1+1,2,T⟩) (by show w.heap.size<=w.heap.size+1+1;omega) _)) b2;generalize aG.setCell ⟨w.heap.size+1+1,2,T⟩ (.slice xi I.length ci)=b7 at a5 aI|-;clear af bB aF bC bD a4 b3 aH fe a3 aU;go_wp2_with fail
 refine(BH R a n c zs p b7 aI).mono ?_;rintro r b8 ⟨v,b9,rfl,a6,cT,cU,a7,bF⟩;have bG:=a5.touch aI.row bF;dsimp only;go_wp2_with fail
 refine(BH R a n c zs b9 b8 a7).mono ?_;rintro r aJ ⟨aK,cV,rfl,bH,cW,cX,cb,bI⟩;have C:=bG.touch a7.row bI;clear a5 bG bF bI aI a7 cb;dsimp only;obtain⟨aL,aM,aN⟩:=Ao C.out;have f2:=C.out.frozen;by_cases ap:I.length=0
 ·have f:=Ab C;obtain⟨c0,c1,c2⟩:=Ao C.row;have a8:=Ab (show(P,s,I)=JI zs p P s I by rw[JI];simp only[ap,if_true]);have bJ:((I.length:Int)==0)=true:=zF.2 (by omega);clear C ap;go_wp2_with fail
  obtain⟨⟨ac,ad,ae⟩,a1,a2⟩:=(Aa f).fin (M:=100000) (X:=fun o F I'=>(o,F,I')=JI zs p P s I) (Aa a8) h1 (by omega) rfl;exact bodyPost_ret (v:= jE #[.slice xp P.length cp,U V s,.slice xi I.length ci]) (by simp[results,results30,go_sem,ac,ad,ae]) rfl ⟨a1,a2⟩
 obtain⟨g,rfl,-⟩:=bE (by omega);have cc:(0 :Int)<(I.length:Int):=by omega
 have cY:((I.length:Int)==0)=false:=zA.2 (by omega);have cZ: ¬ (I.length=0):=ap;obtain⟨t,ao⟩:∃t:Nat,aK*3 % (I.length:Int)=(t:Int):=⟨(aK*3 % (I.length:Int)).toNat,(Int.toNat_of_nonneg (Int.emod_nonneg _ (by omega))).symm⟩
 have D:t<I.length:=by have:=Int.emod_lt_of_pos (aK*3) cc;omega
 have c3:(t:Int)<(I.length:Int):=by omega
 have cd:=Ab (show((nx zs (nx zs p).2).1*3).toNat % I.length=t by
  rw[Aa a6];dsimp only;rw[Aa bH];dsimp only;have e:=Int.toNat_emod (x:=aK*3) (y:=(I.length:Int)) (by omega) (by omega);rw[ao,zb,zb]at e;exact e.symm)
 have bK:=Ab (show(nx zs p).1=v by rw[Aa a6]);obtain⟨c0,c1,c2⟩:=Ao C.row;have ca:=Hm I t D;have ce:aJ.cell? ⟨g,t*2,T⟩=Y (U V I[t].op):=by rw[<-ca.1];exact C.ins.cellAt (g:=g) (n:=I.length) (t*2) (by omega)
 have cf:aJ.cell? ⟨g,t*2+1,T⟩=Y (U V I[t].arg):=by rw[<-ca.2];exact C.ins.cellAt (g:=g) (n:=I.length) (t*2+1) (by omega)
 have bL:=Ab ap;clear ca a6 bH bE ap;go_upto_region 10 with fail
 refine Gh (P:=Code.wp _ _ _ _) fun k a9 m=>?_;have cg:=C.ins.lt g rfl;have ch:w.heap.size+1+1<aJ.heap.size:=C.row.lt;obtain⟨l,ba⟩:∃l,l=aJ.heap.size:=⟨_,rfl⟩
 rw[<-ba]at m cg ch|-;have b:=C.below a9;have aO:=Ab C;have aP:=Ab a9;have aQ:=Ab ba;clear ba c0 c1 c2 ce cf aL aM aN f2 C a9;rw[ao];clear ao;have ag:g≠l:=by omega
 have bM:l≠w.heap.size+1+1:=by omega
 obtain⟨c0,c1,c2⟩:=Ao b.row;have f1:=b.row.frozen;have bJ:=m.cell 0;have cj:=m.cell 1;have ck:=m.frozen;obtain⟨aL,aM,aN⟩:=Ao b.out;have f2:=b.out.frozen;by_cases aq:v % 12=7
 ·obtain⟨z,bb⟩:∃z,z=I.length-1:=⟨_,rfl⟩
  have a8:=Ab (show(P,s,I.take z)=JI zs p P s I by rw[JI,Aa bK,if_neg (Aa bL),if_pos aq,bb]);have c4:IntKind.i64.wrap ((I.length:Int)-1)=(z:Int):=by rw[show(I.length:Int)-1=(z:Int) by omega];simp[IntKind.wrap,IntKind.bits,IntKind.signed];omega
  have cl:I.length<=ci:=by
   rcases b.ins.2 with⟨q,h0⟩|⟨E,cap,c5,q,h1,aV,ab,_⟩
   ·cases q
   ·cases q;exact ab
  have c6: ¬ (ci=0):=by omega
  have c7:(z:Int)<=(ci:Int):=by omega
  have c8:(0 :Int)<=(z:Int):=by omega
  have bN:=Ab bb;have f:=Ab (b.cut z (by omega));clear bb b cl;go_wp2_with fail
  have bc:(I.take z).length=z:=by rw[zv];have:=Aa bN;omega
  have aR:L5 w (k.setCell ⟨w.heap.size+1+1,2,T⟩ (.slice (Y ⟨g,0,T⟩) z ci)) R (R+1) (w.heap.size+2) (w.heap.size+1) (w.heap.size+1+1) s P (I.take z) (.slice xp P.length cp) (.slice (Y ⟨g,0,T⟩) (I.take z).length ci) J:=by rw[bc];exact Aa f
  obtain⟨⟨ac,ad,ae⟩,a1,a2⟩:=aR.fin (M:=100000) (X:=fun o F I'=>(o,F,I')=JI zs p P s I) (Aa a8) h1 (by rw[bc];have:=Aa bN;omega) rfl;rw[bc]at ac ad ae a1 a2;exact bodyPost_ret (v:= jE #[.slice xp P.length cp,U V s,.slice (Y ⟨g,0,T⟩) z ci]) (by simp[results,results30,go_sem,ac,ad,ae]) rfl ⟨a1,a2⟩
 have aa:=Ab (show JI zs p P s I=((if v % 12=8/\0<P.length then P.modify (t % P.length) fun x=>⟨wrap64 (1+x.kind.tmod 5),x.num,x.text,x.names⟩else P),(if v % 12=5 then v / 12-1 else s),(I.set t (Uj v t I.length I[t]))++(if v % 12=6 then [⟨24,0⟩]else [])) by
  rw[JI,Aa bK,if_neg (Aa bL),if_neg aq,Aa cd,Ou I t D])
 have ah:=Ab b;go_upto_block 0 with fail
 go_cut [46] (fun _ bO=>∃ (o:List Vl) (F:Int) (I':List Cg) (bd:Option Addr) (bf E bg:Nat) (ar au:Int),Hid (L5 w bO R (R+1) (w.heap.size+2) (w.heap.size+1) (w.heap.size+1+1) F o I' (.slice bd o.length bf) (.slice (Y ⟨E,0,T⟩) I'.length bg) J)/\Ah bO l #[U V ar,U V au] 49/\t<I'.length/\I'.length<=100000/\o.length<=100000/\E≠l/\Hid ((o,F,I'.set t ⟨ar,au⟩)=JI zs p P s I))
 case first=>
  rcases(show v % 12=0\/v % 12=1\/v % 12=2\/v % 12=3\/v % 12=4\/v % 12=5\/v % 12=9\/v % 12=10\/v % 12=11\/v % 12=6\/v % 12=8 by omega)with hv|hv|hv|hv|hv|hv|hv|hv|hv|hv|hv
  iterate 9
   ·have K:=Ab hv;go_wp2
    go_meet
    first
    |exact⟨P,s,I,xp,cp,g,ci,_,_,Ab ((Aa aO).below ((Aa aP).setCell (p:=⟨l,0,T⟩) (zx (Aa aQ).symm) _)),m.set 0 _,D,by omega,h1,ag,Ab (by rw[Aa aa];simp[Aa K,Uj])⟩
    |exact⟨P,s,I,xp,cp,g,ci,_,_,Ab ((Aa aO).below ((Aa aP).setCell (p:=⟨l,1,T⟩) (zx (Aa aQ).symm) _)),m.set 1 _,D,by omega,h1,ag,Ab (by rw[Aa aa];simp[Aa K,Uj])⟩
    |exact⟨P,s,I,xp,cp,g,ci,_,_,Ab ((Aa aO).below (((Aa aP).setCell (p:=⟨l,0,T⟩) (zx (Aa aQ).symm) _).setCell (p:=⟨l,1,T⟩) (zx (Aa aQ).symm) _)),(m.set 0 _).set 1 _,D,by omega,h1,ag,Ab (by rw[Aa aa];simp[Aa K,Uj])⟩
    |exact⟨P,_,I,xp,cp,g,ci,_,_,Ab ((Aa ah).slot _),m.setFar (p:=⟨w.heap.size+1+1,1,T⟩) bM _,D,by omega,h1,ag,Ab (by rw[Aa aa];simp[Aa K,Uj];exact List.set_getElem_self D)⟩
  ·have h:=b;have c9:l<k.heap.size:=m.lt;have da:=h.lo.2.2.2.2;have K:=Ab hv;go_wp2_with (at_builtin;refine wpList_append_lies _ rfl _ _ 24 rfl (w.heap.size+2) 49 bv (jE #[U V 0,U V 0]) 2 16 underlying24 bw bx bz bA rfl (by decide) (.slice (Y ⟨g,0,T⟩) I.length ci) I.length (Cm I) rfl (World.ownsRow.alloc h.ins _) ⟨k.heap.size,0,T⟩ 1 1 [U V 24,U V 0] rfl rfl (World.news_of_block (heap_alloc_new k (.cells #[U V 24,U V 0] 49))) ?c1 (by decide) ?d1 ?e1 ?f1 (k.heap.size+1) (by simp) ?_)
   case c1=>first|exact⟨rfl,rfl⟩|(intro u hu;simp at hu;rcases hu with rfl|rfl<;>rfl)
   case d1=>unfold maxLen;omega
   case e1=>omega
   case f1=>first|omega|(simp;omega)
   intro g7 cm db bP bh hat co;obtain⟨aq,N,cq⟩:=h.app 24 0 bh bP;have av:=Cr (m.alloc (.cells #[U V 24,U V 0] 49)) bh (fun e=>by have e:Y l=Y g:=e;simp at e;omega);have bQ:=fun j=>N.frozen j;have dc:=N.cell 2;have cr:=Ab aq;have cs:=Ab av;have ct:g7≠l:=by
    rcases hat with e|e
    ·have e:Y g=Y g7:=e;simp at e;omega
    ·omega
   clear bP bh hat co aq N cq h av;go_wp2
   go_meet
   refine⟨P,s,I++[⟨24,0⟩],xp,cp,g7,cm,_,_,Ab ?_,(Aa cs).setFar (p:=⟨w.heap.size+1+1,2,T⟩) bM _,by simp;omega,by simp;omega,h1,ct,Ab ?_⟩
   ·rw[zB,zg];exact Aa cr
   ·rw[Aa aa,List.set_append_left _ _ D];simp[Aa K,Uj];exact List.set_getElem_self D
  ·by_cases bR:P.length=0
   ·have cu: ¬ ((0 :Int)<(P.length:Int)):=by omega
    have K:=Ab hv;have cv:=Ab bR;clear bR;go_wp2
    go_meet
    exact⟨P,s,I,xp,cp,g,ci,_,_,ah,m,D,by omega,h1,ag,Ab (by rw[Aa aa];simp[Aa K,Aa cv,Uj];exact List.set_getElem_self D)⟩
   ·have cu:(0 :Int)<(P.length:Int):=by omega
    obtain⟨j,cw⟩:∃j:Nat,(t:Int) % (P.length:Int)=(j:Int):=⟨t % P.length,by omega⟩
    have bi:t % P.length=j:=by omega
    have ai:j<P.length:=by rw[<-bi];exact Nat.mod_lt _ (by omega)
    have dd:(j:Int)<(P.length:Int):=by omega
    have bj:j<J.length:=by rw[b.pool.len];exact ai
    obtain⟨d,cy⟩:∃d,xp=Y ⟨d,0,T⟩:=by
     obtain⟨de,c',e,hx⟩:=Ae b.pool.own;cases e;obtain⟨d,e,_⟩:=hx (by omega);exact⟨d,e⟩
    subst cy;obtain⟨bk,bl,bm,bn⟩:=PR P J j ai bj;have A:∀i,i<4->k.cell? ⟨d,j*4+i,T⟩=(Iz P J)[j*4+i]? :=fun i hi=>b.pool.own.cellAt (g:=d) (n:=P.length) (j*4+i) (by omega);have e0:=(A 0 (by omega)).trans bk;have e1:=(A 1 (by omega)).trans bl;have e2:=(A 2 (by omega)).trans bm;have e3:=(A 3 (by omega)).trans bn;rw[ze]at e0;obtain⟨an,cn,hu⟩:=Au (b.pool.names j ai bj);rw[hu]at e3;have df:(t:Int).tmod (P.length:Int)=(j:Int):=by rw[yJ (by omega)];exact cw
    have cz:w.heap.size+1+1<k.heap.size:=b.row.lt;have cA:d<k.heap.size:=(b.pool.own.lt d rfl).2;have K:=Ab hv;have cB:=Ab bi;have aw:=Ab (And.intro bk (And.intro bl (And.intro bm bn)));clear A bk bl bm bn bi;go_wp2_with fail
    go_region
    have ax:An k (k.alloc (.cells #[U V P[j].kind,U V P[j].num,Q P[j].text,.slice an P[j].names.length cn] 44)).drew:=(BRN.alloc NLN _).drew;have N:Ah (k.alloc (.cells #[U V P[j].kind,U V P[j].num,Q P[j].text,.slice an P[j].names.length cn] 44)).drew k.heap.size #[U V P[j].kind,U V P[j].num,Q P[j].text,.slice an P[j].names.length cn] 44:=⟨(Ah.new k _ _).out⟩
    generalize (k.alloc (.cells #[U V P[j].kind,U V P[j].num,Q P[j].text,.slice an P[j].names.length cn] 44)).drew=bS at ax N|-;have aj:=b.below ax;have cC:=Ab (m.after ax NLN);obtain⟨ay,bo⟩:∃ay,ay=k.heap.size:=⟨_,rfl⟩
    rw[<-bo]at N cz cA|-;clear c0 c1 c2 f1 e0 e1 e2 e3 aL aM aN f2 bJ cj ck;obtain⟨c0,c1,c2⟩:=Ao aj.row;obtain⟨e0,e1,e2,e3⟩:=AC N;have bQ:=N.frozen;have cD:∀i,bS.frozen? ⟨d,i,T⟩=false:=fun i=>aj.pool.own.frozenAt i;have A:∀i,i<4->bS.cell? ⟨d,j*4+i,T⟩=(Iz P J)[j*4+i]? :=fun i hi=>aj.pool.own.cellAt (g:=d) (n:=P.length) (j*4+i) (by omega);have aS:=(A 0 (by omega)).trans (Aa aw).1;have bp:=(A 1 (by omega)).trans (Aa aw).2.1;have cE:=(A 2 (by omega)).trans (Aa aw).2.2.1;have bT:=(A 3 (by omega)).trans (Aa aw).2.2.2;rw[ze]at aS;rw[hu]at bT;have dg:w.heap.size+1+1≠d:=fun e=>Ac aj.row aj.pool.own (by decide) (by rw[e];rfl);have bU:=Ab bo;have cF:=Ab ax;have cG:=Ab hu;clear A aw ax bo b aj N hu;go_wp2_with fail
    go_region
    have br:=((Aa ah).below ((Aa cF).setCell (p:=⟨ay,0,T⟩) (zx (Aa bU).symm) (U V (wrap64 (1+P[j].kind.tmod 5))))).val j ai bj ⟨wrap64 (1+P[j].kind.tmod 5),P[j].num,P[j].text,P[j].names⟩ rfl ((Aa ah).pool.ok P[j] (zH ai));rw[Aa cG]at br;have cH:=Ab (br.below BRN.drew);have cI:l≠ay:=by have:=(m.lt:l<k.heap.size);have:=Aa bU;omega
    have aT:l≠d:=fun e=>Ac m (Aa ah).pool.own (by decide) (by rw[e];rfl);have cJ:=Ab ((((((Aa cC).setFar (p:=⟨ay,0,T⟩) cI (U V (wrap64 (1+P[j].kind.tmod 5)))).setFar (p:=⟨d,j*4,T⟩) aT (U V (wrap64 (1+P[j].kind.tmod 5)))).setFar (p:=⟨d,j*4+1,T⟩) aT (U V P[j].num)).setFar (p:=⟨d,j*4+2,T⟩) aT (Q P[j].text)).setFar (p:=⟨d,j*4+3,T⟩) aT (.slice an P[j].names.length cn));clear br aS bp cE bT e0 e1 e2 e3 c0 c1 c2 bQ cD;go_wp2
    go_meet
    refine⟨P.set j ⟨wrap64 (1+P[j].kind.tmod 5),P[j].num,P[j].text,P[j].names⟩,s,I,Y ⟨d,0,T⟩,cp,g,ci,_,_,Ab (by rw[z6];exact Aa cH),⟨(Aa cJ).out⟩,D,by omega,by rw[z6];exact h1,ag,Ab ?_⟩;rw[Aa aa,Aa cB,Ou P j ai];simp[Aa K,Uj,show 0<P.length by omega];exact List.set_getElem_self D
 case rest=>
  obtain⟨o,F,I',bd,bf,E,bg,ar,au,f,av,bV,cK,cL,dh,cM⟩:=hcut;obtain⟨c0,c1,c2⟩:=Ao (Aa f).row;obtain⟨aL,aM,aN⟩:=Ao (Aa f).out;have f2:=(Aa f).out.frozen;have di:wc.frozen? ⟨E,t*2,T⟩=false/\wc.frozen? ⟨E,t*2+1,T⟩=false:=⟨(Aa f).ins.frozenAt _,(Aa f).ins.frozenAt _⟩
  have ca:=Hm I' t bV;have aS:wc.cell? ⟨E,t*2,T⟩=Y (U V I'[t].op):=by rw[<-ca.1];exact(Aa f).ins.cellAt (g:=E) (n:=I'.length) (t*2) (by omega)
  have bp:wc.cell? ⟨E,t*2+1,T⟩=Y (U V I'[t].arg):=by rw[<-ca.2];exact(Aa f).ins.cellAt (g:=E) (n:=I'.length) (t*2+1) (by omega)
  have dj:=av.cell 0;have dk:=av.cell 1;have dl:(t:Int)<(I'.length:Int):=by omega
  have cN:w.heap.size+1+1≠E:=fun e=>Ac (Aa f).row (Aa f).ins (by decide) (by rw[e];rfl);have cO:w.heap.size+1≠E:=fun e=>Ac (Aa f).out (Aa f).ins (by decide) (by rw[e];rfl);have dm:=cN.symm;have dn:=cO.symm;clear b ah aa aO aP m ca;generalize I'[t].op=dp at aS;generalize I'[t].arg=dq at bp;go_wp2_with fail
  have bs:(I'.set t (⟨ar,au⟩:Cg)).length=I'.length:=z6;have aR:=(Aa f).ins2 t bV ar au;rw[<-bs]at aR;obtain⟨⟨ac,ad,ae⟩,a1,a2⟩:=aR.fin (M:=100000) (X:=fun o F I'=>(o,F,I')=JI zs p P s I) (Aa cM) cL (by rw[bs];exact cK) rfl;rw[bs]at ac ad ae a1 a2;exact bodyPost_ret (v:= jE #[.slice bd o.length bf,U V F,.slice (Y ⟨E,0,T⟩) I'.length bg]) (by simp[results,results30,go_sem,ac,ad,ae]) rfl ⟨a1,a2⟩
end Go.Proofs.YtppafecmccdplaaGreat

import Derived.Test.YtnjpihpohilnjaaGreatDoorMXAI
import Derived.Test.YtnjpihpohilnjaaGreatDoorMXAB
open List renaming length->T
open Option renaming none->U,some->Q,some->jg
open Array renaming size->R,size->jh
open Go renaming World->jB,Value->jF,Addr->jG
open Bool renaming true->jD,false->jE
namespace Go.Proofs.YtnjpihpohilnjaaGreatDoor
open Proofs.Tryz
open Value renaming int->V,int->jc,slice->Y,string->jC,ownBlock->jL,agg->jM,nilIface->jX
open IntKind renaming i64->X,i64->jd
open World renaming heap->Z,cell?->jI,setCell->jJ,alloc->jK,ownsRow->jO,drew->jR
open Addr renaming mk->jA
open Obj renaming cells->jH
open Proofs.Tryz renaming prog->jZ
open Go.RowKit
set_option linter.unusedVariables false
set_option maxRecDepth 100000
set_option maxHeartbeats 6400000
variable{x y:Ex}{n:Int}{k:K5}{ls:L8}{left:L2}{B lo m kc:Nat}{ka:L3}{P:Program}{a b c d f:jF}{w w':jB}
theorem Tt.all2 {w0:jB}{g:M6}{w:jB}(h:Tt w0 B (Y ka m kc) g ls w)(c:T g=m)(d:lo<=B)(op num:Int)(text:K9)(an:L3)(nn cn:Nat)(ss:L4)(l:ls=[]->SQ w an nn cn ss)(f:nn=T ss)(e:Ex)(hF:Rv op num text ss ls e):NT w0 lo (R<|Z w) w ⟨op,num,text,an,nn,cn,ka,m,kc⟩ e:=by
 cases hF with
 |leaf e n hx=>exact h.all c d op num text an nn cn ss (l rfl) e<|.leaf e n hx
 |un i e0 a=>
   obtain⟨_,_,h3,_,h5,b⟩:=h.all c d op num text U 0 0 ss (by rw[a.2.2];exact⟨⟨rfl,NLN,zE _,λj h=>H9 h Ox,λj h=>H9 h Ox⟩,zE _,λ_=>rfl,λk e=>O5⟩) _<|.un i e0 a;exact⟨rfl,a.1,h3,by rw[f,a.2.2];rfl,h5,b⟩
 |bin i e0 e1 a=>
   obtain⟨_,_,h3,_,h5,b⟩:=h.all c d op num text U 0 0 ss (by rw[a.2.2];exact⟨⟨rfl,NLN,zE _,λj h=>H9 h Ox,λj h=>H9 h Ox⟩,zE _,λ_=>rfl,λk e=>O5⟩) _<|.bin i e0 e1 a;exact⟨rfl,a.1,h3,by rw[f,a.2.2];rfl,h5,b⟩
 |ite i e0 e1 e2 o a=>
   obtain⟨p,_,h3,_,h5,b⟩:=h.all c d op num text U 0 0 ss (by rw[a.2.2];exact⟨⟨rfl,NLN,zE _,λj h=>H9 h Ox,λj h=>H9 h Ox⟩,zE _,λ_=>rfl,λk e=>O5⟩) _<|.ite i e0 e1 e2 o a;exact⟨p,a.1,h3,by rw[f,a.2.2];rfl,h5,b⟩
theorem SQ.below {w w':jB}{B:Nat}{a:L3}{n c:Nat}{ss:L4}(h:SQ w a n c ss)(b:Below B w w')(d:R (Z w)<=B):SQ w' a n c ss:=⟨h.1.below b d,h.2.1,h.2.2.below b d⟩
theorem JI (wz w0:jB)(bu:R (Z wz)<=R (Z w0))(az:L3)(aB aC:Nat)(w:jB)(aD:Ai w0 w)(d l:Int)(n:K9)(o:L3)(f r:Nat)(P:L3)(m S:Nat)(t:M6)(aZ:AO w0 P t)(a0:T t=m)(h3:m<=3)(a1:d≠7)(bs:L8)(a2:T bs=m)(ss:L4)(a3:bs=[]->SQ w0 o f r ss)(a4:f=T ss)(e:Ex)(hF:Rv d l n ss bs e)
  (V:∀j,(h:j<T t)->(b6:j<T bs)->∀aE,Ai w aE->Calls jZ 60 #[jM #[jc X t[j].op,jc X t[j].num,jC t[j].text,Y t[j].an t[j].nn t[j].cn,Y t[j].ka t[j].kn t[j].kc],Y az aB aC] aE (Yx wz bs[j] aE)):
  Calls jZ 60 #[jM #[jc X d,jc X l,jC n,Y o f r,Y P m S],Y az aB aC] w (Yx wz e w):=by
 obtain⟨bv,bw,bx,bz,bA⟩:=info_parts Nw;have b7:(d==7)=jE:=zA.2 a1;have aG:=((AE w<|Bu d l n o f r P m S).alloc Ox Gg).alloc O0<|Bu d l n o f r U 0 0;have aH:=((Ag.new w #[jc X d,jc X l,jC n,Y o f r,Y P m S] 121).alloc Gg).alloc<|Bu d l n o f r U 0 0;have ai:=(Ag.new (jK w<|Bu d l n o f r P m S) #[jc X 0,jc X 0,jC ⟨#[]⟩,Y U 0 0,Y U 0 0] 121).alloc<|Bu d l n o f r U 0 0;have ad:=Ag.new (jK (jK w<|Bu d l n o f r P m S) Gg) #[jc X d,jc X l,jC n,Y o f r,Y U 0 0] 121;have aI:R (Z<|jK (jK (jK w<|Bu d l n o f r P m S) Gg)<|Bu d l n o f r U 0 0)=R (Z w)+3:=Ox;simp only[World.size_alloc]at ai ad;have bB:=Ab V;have bC:=Ab aZ;have bD:=Ab a0;have a5:=Ab a2;have bE:=Ab a3;have bF:=Ab a4;have bG:=Ab hF;have ap:=Ab aD;have bH:R (Z wz)<=R (Z w):=zB bu aD.size;clear V aZ a0 a2 a3 a4 hF aD a1;go_enter func60,ntmps60
 go_wp2_with fail
 generalize jK (jK (jK w (Bu d l n o f r P m S)) Gg) (Bu d l n o f r U 0 0)=bI at aG aH ai ad aI|-;have aJ:Tt wz (R (Z w)+3) (Y U 0 0) [] [] bI:=⟨World.ownsRow_nil _ _ _ _,rfl,λj h=>absurd h Ox⟩
 generalize a6:R (Z w)=W at aG aH ai ad aI aJ bH|-;have aK:=Ab a6;generalize bJ:W+1=ae at ai ad|-;generalize bK:ae+1=s at ad|-;generalize bL:W+3=B at aI aJ|-;have bM:W<ae/\ae<s/\s<B:=Oa
 clear a6 bJ bK bL;go_loopw [32] (λi wr=>∃ (j:Nat) (aL:jF) (a:M6),j<=m/\i=jc X j/\Hid (T a=j)/\Ag wr s #[jc X d,jc X l,jC n,Y o f r,aL] 121/\Ag wr W #[jc X d,jc X l,jC n,Y o f r,Y P m S] 121/\Ag wr ae #[jc X 0,jc X 0,jC ⟨#[]⟩,Y U 0 0,Y U 0 0] 121/\Tt wz B aL a (bs.take j) wr/\Below W w wr/\B<=R (Z wr)) (λi _=>m-(intOf i).toNat)
 case atStart=>exact⟨0,_,[],zE _,rfl,Ab rfl,ad,aH,ai,aJ,aG,Oa⟩
 case round=>
  obtain⟨j,aL,a,b8,rfl,aM,aq,aO,aj,ab,ak,b9⟩:=hrel;obtain⟨af,ag,rfl,_⟩:=Ae ab.aN;by_cases ar:j<m
  .have ca:(j:Int)<(m:Int):=Oa;have aP:j<T t:=by rw[Aa bD];exact ar
   have aQ:j<T bs:=by rw[Aa a5];exact ar
   have au:Ai w wr:=by show Below _ _ _;rw[Aa aK];exact ak
   obtain⟨g,cb,rfl,hg,a7⟩:=Bs ((Aa bC).below ((Aa ap).trans<|au.mono (Aa ap).size) NLN) Oa;obtain⟨c0,c1,c2,c3,c4⟩:=a7 j aP;have al:=Ab<|Aa bB j aP aQ;have a8:=Ab<|show bs.take (j+1)=bs.take j++[bs[j]]from zT aQ;have a9:=Ab ar;generalize t[j]=k at c0 c1 c2 c3 c4 al;generalize bs[j]=bO at al a8;obtain⟨v,x,y,z,A,C,D,E,F⟩:=k;dsimp only at c0 c1 c2 c3 c4 al;have cc:T a<=1048576:=H2<|Aa aM;clear ar aP aQ a7;go_upto_region 13 with fail
   have RT:=aq.alloc<|Bu v x y z A C D E F;have ba:=aO.alloc<|Bu v x y z A C D E F;have bb:=aj.alloc<|Bu v x y z A C D E F;have av:=ab.below<|AE wr<|Bu v x y z A C D E F;have bc:=ak.alloc Oa<|Bu v x y z A C D E F;have bP:B<=R (Z<|jK wr<|Bu v x y z A C D E F):=O0;have aR:=Ag.new wr #[jc X v,jc X x,jC y,Y z A C,Y D E F] 121;have aS:=au.alloc au.size<|Bu v x y z A C D E F;generalize jK wr (Bu v x y z A C D E F)=w2 at RT ba bb av bc bP aR aS|-;generalize R (Z wr)=cd at aR|-;have bQ:=Ab<|GH (Aa al (jR w2) aS.drew) λe w' ⟨k,h,_⟩=>⟨_,h⟩;clear aq aO aj ab ak au aS al c0 c1 c2 c3 c4;obtain⟨bR,bS,bT,bU,bd,ce⟩:=Ap RT;obtain⟨c0,c1,c2,c3,c4,-⟩:=Ap aR;have bf:=RT.aA BRN.drew NLN;have bg:=av.below BRN.drew;have sd:jI (jR w2) (jA s 4 U)=Q (Y af (T a) ag):=bd;have bV:(Tryz.f60.name== "runtime.NumGoroutine")=jE:=Oy
   have bW: Tryz.f60.body.isNone=jE:=Oy;have aw:∀q,jL (Value.slice af (T a) ag)=Q q->B<=q/\q<R (Z w2):=λq hq=>av.aN.lt q hq;go_region_law (first
    |(refine Bk rfl 60 _ func60 bV bW _ _ _ rfl (jM #[jc X v,jc X x,jC y,Y z A C,Y D E F]) (Y az aB aC) rfl rfl _ (Aa bQ) ?_;rintro cf bh ⟨bX,bi,aT,ah⟩;obtain rfl:=Bi bi;obtain⟨G,H,I,J,K,L,M,N,O⟩:=bX;dsimp only at bi aT|-;have aU:=bf.aA ah NLN;obtain⟨e0,e1,e2,e3,e4,cg⟩:=Ap aU;have aV:=bg.below ah;have bj:=World.ownsRow.alloc aV.aN<|Bu G H I J K L M N O;have ax:=aU.alloc<|Bu G H I J K L M N O;obtain⟨ch,ci,i2,cj,ck,cl⟩:=Ap ax;have bk:=World.news_of_block<|heap_alloc_new bh<|Bu G H I J K L M N O;have cm:=ah.size)
    |(refine step_append_lies _ rfl _ _ 117 rfl B 121 bv (jM #[jc X 0,jc X 0,jC ByteArray.empty,Y U 0 0,Y U 0 0]) 5 80 underlying117 bw bx bz bA rfl Ob (Y af (T a) ag) (T a) (a.flatMap K5.cs) rfl bj ⟨R (Z bh),0,U⟩ 1 1 (K5.cs ⟨G,H,I,J,K,L,M,N,O⟩) rfl rfl bk (by intro u hu;simp[K5.cs]at hu;obtain rfl|rfl|rfl|rfl|rfl:=hu<;>rfl) Ob O2 Oa (by have:R (Z (jR w2))=R (Z w2):=rfl;simp;omega) _ rfl ?_;intro g7 aa ay bl ac hat co;have ao:Ag ay s _ _:=⟨(ac.block s ax.lt λe=>H2<|(aw _ e.symm).1).trans ax.out⟩;have cp:jI ay (jA s 4 U)=Q (Y af (T a) ag):=ao.cell 4;have cq:=ao.frozen 4))
   all_goals
    have cr:R (Z<|jR w2)=R (Z w2):=rfl;have bm:=aV.bN (lo:=R<|Z<|jR w2) (k:=⟨G,H,I,J,K,L,M,N,O⟩) (b:=bO) Oa Oa (λq hq=>H2<|(aw q hq).2) aT bl ac<|hat.imp id λe=>Hk;have bn:=bm.set (jA s 4 U) (Y (Q<|jA g7 0 U) (T a+1) aa) bM.2.2 (Oa:R (Z wz)<=s)<|CQ.set ao Ob _ _;have bo:=ao.set 4<|Y (Q<|jA g7 0 U) (T a+1) aa;simp only[zZ,zb,ze]at bo;have bp:∀q,q<B->Q q≠jL (Value.slice af (T a) ag):=λq hq e=>H2<|(aw q e.symm).1;have bY:=(((((ba.aA BRN.drew NLN).aA ah NLN).alloc<|Bu G H I J K L M N O).grown ac<|bp W Oa).aF (p:=(jA s 4 U)) (Oa:W≠s)<|Y (Q<|jA g7 0 U) (T a+1) aa)
    have bZ:=(((((bb.aA BRN.drew NLN).aA ah NLN).alloc<|Bu G H I J K L M N O).grown ac<|bp ae Oa).aF (p:=(jA s 4 U)) (Oa:ae≠s)<|Y (Q<|jA g7 0 U) (T a+1) aa)
    have b0:=((((bc.drew).trans<|ah.mono Oa).alloc Oa<|Bu G H I J K L M N O).grown ac O0 λq hq=>H2<|(aw q hq).1).setCell (p:=(jA s 4 U)) (Oa:W<=s)<|Y (Q<|jA g7 0 U) (T a+1) aa;have b1:B<=R (Z<|jJ ay (jA s 4 U)<|Y (Q<|jA g7 0 U) (T a+1) aa):=by have:=ac.size;simp at this|-;omega
    have b2:=Ab (show T (a++[(⟨G,H,I,J,K,L,M,N,O⟩:K5)])=j+1 by rw[zC,Aa aM];rfl);have b3:=Ab (show Tt wz B (Y (Q<|jA g7 0 U) (T a+1) aa) (a++[(⟨G,H,I,J,K,L,M,N,O⟩:K5)]) (bs.take<|j+1) (jJ ay (jA s 4 U)<|Y (Q<|jA g7 0 U) (T a+1) aa) by rw[Aa a8];exact bn);clear ac hat bl bm bn aV bg av RT bf aU ax ao bj bk aT;go_wp2
    go_roundw
    case rel=>exact⟨j+1,_,_,Aa a9,O1,b2,bo,bY,bZ,Aa b3,b0,b1⟩
    case measure=>have:=Aa a9;simp[intOf];omega
  .have b4:j=m:=Oa;subst b4;have aW:Ai w wr:=by show Below _ _ _;rw[Aa aK];exact ak
   have br:bs.take j=bs:=zf (by rw[Aa a5];exact NLN);rw[br]at ab;have aX:T a=j:=Aa aM;rw[aX]at ab aq;have bt:=ab.all2 aX NLN d l n o f r ss (λh=>(Aa bE h).below ((Aa ap).trans<|aW.mono (Aa ap).size) NLN) (Aa bF) e<|Aa bG;have b5:=Aa aK;have aY:=Ab<|Eg (w0:=wz) (B:=B) (c:=⟨d,l,n,o,f,r,af,j,ag⟩) Oa aW aj Oa Oa bt;obtain⟨bR,bS,bT,bU,bd,-⟩:=Ap aq;obtain⟨ct,n1,n2,cu,cv,-⟩:=Ap aO;obtain⟨cw,cx,cy,cz,cA,-⟩:=Ap aj;obtain⟨cB,f1,f2,cC,cD⟩:=Fg aj;clear bt b5 br ab aW aX ak;go_wp2
   exact bodyPost_ret (Gf results60 rfl (Aa aY).2.1) rfl ⟨_,rfl,(Aa aY).2.2,(Aa aY).1⟩
set_option maxHeartbeats 1600000
def nmL (left:L2) (n:Int) (j:Nat):Int:=if n∈left.take j then ixL left n else n
theorem AhI (hd:left.Nodup){j:Nat}(h:j<T left)(e:left[j]=n):nmL left n (j+1)=(j:Int):=by grind [nmL,List.getElem_inj,zR,List.idxOf_lt_length_iff,zI,zT,ixL]
theorem Afe {j:Nat}(h:j<T left)(e:left[j]≠n):nmL left n (j+1)=nmL left n j:=by grind [nmL,zR,zT]
theorem Acp (wz:jB)(P:R (Z wz)<=R (Z w)){i n:Int}{m:Nat}(he:Tq w (.lett i n) k)(t:AP w ka m lo left)(hd:left.Nodup)(hm:n∈left):
  Calls jZ 60 #[jM #[V X k.op,V X k.num,jC k.text,Y k.an k.nn k.cn,Y k.ka k.kn k.kc],Y ka m lo] w (Yx wz (Eu left (.lett i n)) w):=by
 obtain⟨e1,e2,e3,e4,e5⟩:=he;obtain⟨S,a,d,f,g,h,r,al,s⟩:=k;dsimp only at e1 e2 e3 e4 e5;have W:S=7:=e1;have aa:a=n:=e2;clear e1 e2;subst W aa e4;have ao:=t.aJ;have K:=((AE w<|Bu 7 a d f g h r 0 s).alloc Ox Gg).alloc O0<|Bu 7 a d f g h U 0 0;have L:=((Ag.new w #[V X 7,V X a,jC d,Y f g h,Y r 0 s] 121).alloc Gg).alloc<|Bu 7 a d f g h U 0 0;have C:=(Ag.new (jK w<|Bu 7 a d f g h r 0 s) #[V X 0,V X 0,jC ⟨#[]⟩,Y U 0 0,Y U 0 0] 121).alloc<|Bu 7 a d f g h U 0 0;have D:=Ag.new (jK (jK w<|Bu 7 a d f g h r 0 s) Gg) #[V X 7,V X a,jC d,Y f g h,Y U 0 0] 121;simp only[G0]at C D;have E:=Ab e5;have ab:=Ab e3;have ac:=Ab t;have ad:=Ab hd;have ae:=Ab hm;have M:=Ab t.len;clear e5 e3 t hd hm;go_enter func60,ntmps60
 go_wp2_with fail
 generalize jK (jK (jK w (Bu 7 a d f g h r 0 s)) Gg) (Bu 7 a d f g h U 0 0)=ap at K L C D|-;go_loopw [17] (λi wr=>∃ (j:Nat) (z:Int),j<=m/\i=V X j/\Hid (z=nmL left a j)/\Ag wr (R<|Z w) #[V X 7,V X a,jC d,Y f g h,Y r 0 s] 121/\Ag wr (R (Z w)+1) #[V X 0,V X 0,jC ⟨#[]⟩,Y U 0 0,Y U 0 0] 121/\Ag wr (R (Z w)+1+1) #[V X 7,V X z,jC d,Y f g h,Y U 0 0] 121/\Ai w wr) (λi _=>m-(intOf i).toNat)
 case atStart=>exact⟨0,a,zE _,rfl,Ab<|by simp[nmL],L,C,D,K⟩
 case round=>
  obtain⟨j,z,aq,rfl,N,RT,o,RO,l⟩:=hrel;obtain⟨ar,au,av,aw,ax,-⟩:=Ap RT;obtain⟨ay,az,aA,aB,aC,-⟩:=Ap RO;obtain⟨aD,f1,f2,aE,aG⟩:=Fg RO;by_cases F:j<m
  .have aH:(j:Int)<(m:Int):=Oa;have u:j<T left:=by rw[Aa M];exact F
   obtain⟨b,aI,rfl,aK,hc⟩:=((Aa ac).below l NLN).cells j u;have v:=Ab λe=>AhI (n:=a) (Aa ad) u e;have x:=Ab λe=>Afe (n:=a) u e;have A:=Ab F;generalize left[j]=y at hc v x;clear F u;by_cases hy:y=a
   .have q:(y==a)=jD:=zD.2 hy;have G:=Ab<|Aa v hy;have af:=RO.set 1<|V X (j:Int);have ag:=RT.aF (p:=⟨R (Z w)+1+1,1,U⟩) (Oa:R (Z w)≠R (Z w)+1+1)<|V X (j:Int);have ah:=o.aF (p:=⟨R (Z w)+1+1,1,U⟩) P4<|V X (j:Int);have ai:=l.setCell (p:=⟨R (Z w)+1+1,1,U⟩) P7<|V X (j:Int);clear hy v x RO RT o l;go_wp2
    go_roundw
    case rel=>exact⟨j+1,j,Aa A,O1,Ab (Aa G).symm,ag,ah,af,ai⟩
    case measure=>have:=Aa A;simp[intOf];omega
   .have q:(y==a)=jE:=zA.2 hy;have G:=Ab<|Aa x hy;clear hy v x;go_wp2
    go_roundw
    case rel=>exact⟨j+1,z,Aa A,O1,Ab<|by rw[Aa G];exact Aa N,RT,o,RO,l⟩
    case measure=>have:=Aa A;simp[intOf];omega
  .have e:j=m:=Oa;subst e;have aj:=Ab (show z=ixL left a by rw[Aa N,nmL,zf<|by rw[Aa M];exact NLN,H8<|Aa ae]);have O:NT wz (R<|Z w) (R<|Z wr) wr ⟨7,z,d,f,g,h,U,0,0⟩<|Eu left (.lett i a):=Io rfl (by
    rw[Aa aj];exact⟨rfl,rfl,Aa ab,rfl,(Aa E).1.below l NLN,(Aa E).2.1,(Aa E).2.2.below l NLN⟩)
   have H:=Ab<|Eg (w0:=wz) (B:=R (Z w)+2) (c:=⟨7,z,d,f,g,h,U,0,0⟩) P l o Oa Oa<|show NT wz (R (Z w)+2) (R<|Z wr) wr _ _ from Io rfl (Tl.tq O);obtain⟨aL,aM,aN,aO,aP,-⟩:=Ap o;obtain⟨g0,g1,g2,g3,aQ⟩:=Fg o;clear O RT o RO l;go_wp2_with fail
   go_loopw [32] (λi ak=>i=V X 0/\ak=wr) (λ_ _=>0)
   case atStart=>exact⟨rfl,rfl⟩
   case round=>
    obtain⟨rfl,rfl⟩:=hrel;go_wp2
    exact G2 (Gf results60 rfl (Aa H).2.1) rfl ⟨_,rfl,(Aa H).2.2,(Aa H).1⟩
theorem Fx (wz:jB)(f:R (Z wz)<=R (Z w)){e:Ex}(a:e.aD=[])(h:Tq w e k)(g:k.op≠7)(i:Eu left e=e)(b:L3)(c d:Nat):
  Calls jZ 60 #[jM #[V X k.op,V X k.num,jC k.text,Y k.an k.nn k.cn,Y k.ka k.kn k.kc],Y b c d] w (Yx wz (Eu left e) w):=by
 have hq:k.op=(Ef e).op/\k.num=(Ef e).num/\k.text=(Ef e).text/\k.kn=0/\SQ w k.an k.nn k.cn (Ef e).aB/\(Ef e).aD=[]:=by cases e<;>first|exact⟨h.1,h.2.1,h.2.2.1,h.2.2.2.1,h.2.2.2.2,rfl⟩|cases a
 obtain⟨l,m,h3,n,h5,o⟩:=hq;rw[i,n];exact JI wz w f b c d w BRN k.op k.num k.text k.an k.nn k.cn k.ka 0 k.kc [] (Dx w _) rfl Ob g [] rfl (Ef e).aB (λ_=>h5) h5.1.len e (.leaf e a<|by rw[l,m,h3,<-o]) (λj p=>H9 p Ox)
theorem Ip (wz:jB){left:L2}(hd:left.Nodup){b:L3}{d f:Nat} :∀(e:Ex) (k:K5) (w:jB),R (Z wz)<=R (Z w)->Tq w e k->AP w b d f left->Bp e=jD->(∀m,usE m e=jD->m∈left)->
  Calls jZ 60 #[jM #[V X k.op,V X k.num,jC k.text,Y k.an k.nn k.cn,Y k.ka k.kn k.kc],Y b d f] w (Yx wz (Eu left e) w)
 |.lett i n,k,w,hz,h,hL,ho,hu=>Acp wz hz h hL hd (hu n<|by simp[usE])
 |.un i op c,k,w,hz,h,hL,ho,hu=>by
  obtain⟨p,q,h3,s,h5,g,u,v⟩:=h;simp only[Bp,zF,zG]at ho;rw[h5];exact JI wz w hz b d f w BRN k.op k.num k.text k.an k.nn k.cn k.ka 1 k.kc [g] u rfl Ob Oa [Eu left c] rfl [] (λe=>O5) s _ (by rw[Eu,<-p];exact .un i _ ⟨q,h3,rfl⟩) (λj a1 a2 o a=>by
   match j,a1 with
   |0,_=>exact Ip wz hd c g o (zB hz a.size) (v.below a NLN) (hL.below a NLN) ho.2 λm hm=>hu m Dn)
 |.bin i op l r,k,w,hz,h,hL,ho,hu=>by
  obtain⟨p,q,h3,s,h5,g,x,u,v,y⟩:=h;simp only[Bp,zF,zG]at ho;rw[h5];exact JI wz w hz b d f w BRN k.op k.num k.text k.an k.nn k.cn k.ka 2 k.kc [g,x] u rfl Ob Oa [Eu left l,Eu left r] rfl [] (λe=>O5) s _ (by rw[Eu,<-p];exact .bin i _ _ ⟨q,h3,rfl⟩) (λj a1 a2 o a=>by
   match j,a1 with
   |0,_=>exact Ip wz hd l g o (zB hz a.size) (v.below a NLN) (hL.below a NLN) ho.2.1 λm hm=>hu m Dn
   |1,_=>exact Ip wz hd r x o (zB hz a.size) (y.below a NLN) (hL.below a NLN) ho.2.2 λm hm=>hu m Dn)
 |.ite i c t e,k,w,hz,h,hL,ho,hu=>by
  obtain⟨p,q,h3,s,h5,g,x,z,u,v,y,A⟩:=h;simp only[Bp,zF]at ho;rw[h5];exact JI wz w hz b d f w BRN k.op k.num k.text k.an k.nn k.cn k.ka 3 k.kc [g,x,z] u rfl Ob (by rw[p];decide) [Eu left c,Eu left t,Eu left e] rfl [] (λe=>O5) s _ (by rw[Eu];exact .ite i _ _ _ p ⟨q,h3,rfl⟩) (λj a1 a2 o a=>by
   match j,a1 with
   |0,_=>exact Ip wz hd c g o (zB hz a.size) (v.below a NLN) (hL.below a NLN) ho.1 λm hm=>hu m Dn
   |1,_=>exact Ip wz hd t x o (zB hz a.size) (y.below a NLN) (hL.below a NLN) ho.2.1 λm hm=>hu m Dn
   |2,_=>exact Ip wz hd e z o (zB hz a.size) (A.below a NLN) (hL.below a NLN) ho.2.2 λm hm=>hu m Dn)
 |.int ..,k,w,hz,h,hL,ho,hu=>Fx wz hz rfl h Q5 rfl b d f
 |.text ..,k,w,hz,h,hL,ho,hu=>Fx wz hz rfl h Q5 rfl b d f
 |.bool ..,k,w,hz,h,hL,ho,hu=>Fx wz hz rfl h Q5 rfl b d f
 |.set ..,k,w,hz,h,hL,ho,hu=>Fx wz hz rfl h Q5 rfl b d f
 |.name ..,k,w,hz,h,hL,ho,hu=>Fx wz hz rfl h Q5 rfl b d f
 |.attr ..,k,w,hz,h,hL,ho,hu=>Fx wz hz rfl h Q5 rfl b d f
set_option maxHeartbeats 12800000
def C15 (w:jB) (g o:Nat) (u0 u1 u2 u3 u4 u5 u6 u7 u8 u9 u10 u11 u12 u13 u14:jF):Prop:=jI w (jA g o U)=Q u0/\jI w ⟨g,o+1,U⟩=Q u1/\jI w ⟨g,o+2,U⟩=Q u2/\jI w ⟨g,o+3,U⟩=Q u3/\jI w ⟨g,o+4,U⟩=Q u4/\jI w ⟨g,o+5,U⟩=Q u5/\jI w ⟨g,o+5+1,U⟩=Q u6/\jI w ⟨g,o+5+2,U⟩=Q u7/\jI w ⟨g,o+5+3,U⟩=Q u8/\jI w ⟨g,o+5+4,U⟩=Q u9/\jI w ⟨g,o+10,U⟩=Q u10/\jI w ⟨g,o+10+1,U⟩=Q u11/\jI w ⟨g,o+10+2,U⟩=Q u12/\jI w ⟨g,o+10+3,U⟩=Q u13/\jI w ⟨g,o+10+4,U⟩=Q u14
theorem C15.below {g o:Nat}{i j k l m n p q r s:jF}(h:C15 w g o a b c d f i j k l m n p q r s)(B:Ai w w')(hg:g<R (Z w)):C15 w' g o a b c d f i j k l m n p q r s:=by grind [C15,Go.RowKit.Below.cell]
def FY (w:jB):={W:jB // Ai w W}
theorem bq (n:FY w){A:Ending->Prop} :∀e w',A e/\Below n.1.heap.size n.1 w'->A e/\∃m:FY w,w'=m.1:=λe w' h=>⟨h.1,⟨w',n.2.trans<|h.2.mono n.2.size⟩,rfl⟩
theorem CR {Q:Exit->Act->jB->Prop}{a:Act}{l:List Oper}(hm:P.follows .mixedOrders=jD)(b:Region.lexB .any l.toArray=jD)
  (h:wpQuiet P l.toArray (λw'=>∃n:FY w,w'=n.1) (λc=>∀w',(∃n:FY w,w'=n.1)->Q .normal c w') l a):(Code.region B l.toArray jD).wp P Q a w:=
 wp_region_quiet (C:=λw'=>∃n:FY w,w'=n.1) hm b ⟨⟨jR w,⟨rfl,rfl,rfl,NLN,λ_ _=>rfl⟩⟩,rfl⟩ Q6
theorem Afc (hx:x.bD=jD)(hy:y.bD=jD)(a:FC x=FC y):VI x y=VX (Ef x).num (Ef y).num (Ef x).text (Ef y).text (Ef x).aB (Ef y).aB:=by
 unfold VI VX;rw[hx,zm];refine decide_eq_decide.2 ?_;cases x<;>cases y<;>first|(simp[Ex.bD,Ex.cv]at hx;done)|(simp[Ex.bD,Ex.cv]at hy;done)|(simp[FC,Ef]at a;done)|(simp[Ex.cv,Ef];done)|(rename_i i b j c;cases b<;>cases c<;>simp[Ex.cv,Ef])
open Classical in
theorem Ajl  (hx:x.bD=jD) (h:FC x≠FC y):VI x y=jE:=by
 unfold VI;rw[hx,zm];refine zH λe=>h ?_;cases x<;>cases y<;>first|(simp[Ex.bD,Ex.cv]at hx;done)|rfl|(simp[Ex.cv]at e;done)
theorem Aa5 {e:Ex}(hc:e.bD=jD)(h:Tq w e k):k.num=(Ef e).num/\k.text=(Ef e).text/\Aq w k.an k.nn k.cn (Ef e).aB:=by cases e<;>first|exact⟨h.2.1,h.2.2.1,h.2.2.2.2.1⟩|cases hc
theorem Aco (wz w0:jB)(dA:R (Z wz)<=R (Z w0))(cU:L3)(cV cW:Nat)(ls:L8)(w:jB)(bV:Ai w0 w)(N ar:Int)(au:K9)(av:L3)(aw ax:Nat)(cX:L3)(m ay:Nat)(S:M6)(cY:AO w0 cX S)(cZ:T S=m)(ec: 1<=m)(h3:m<=3)(ed: 3<=m)(c5:N≠7)(zs:L8)(c6:T zs=m)(c8:∀z∈zs,Bp z=jD)(e:Ex)(hF:Rv N 0 ⟨#[]⟩ [] zs e)(c9:∀i e0,e= .un i N e0->8<=N/\N<=10)(da:∀i e0 e1,e= .bin i N e0 e1->11<=N/\N<=26)
  (db:∀az t ka kc,T t=m->AO az ka t->(∀j,(h:j<T zs)->(ci:j<T t)->Tq az zs[j] t[j])->zs.all Ex.bD=jD->Calls jZ 127 #[jc X N,Y ka m kc] az (PrA (AQ e) az))(dc:zs.all Ex.bD=jE->AQ e=U)
  (V:∀j,(h:j<T S)->(ci:j<T zs)->∀az,Ai w az->Calls jZ 98 #[jM #[jc X S[j].op,jc X S[j].num,jC S[j].text,Y S[j].an S[j].nn S[j].cn,Y S[j].ka S[j].kn S[j].kc],Y cU cV cW] az (Yx wz zs[j] az)):
  Calls jZ 98 #[jM #[jc X N,jc X ar,jC au,Y av aw ax,Y cX m ay],Y cU cV cW] w (Yx wz (Im ls e) w):=by
 obtain⟨dB,dC,dD,dE,dF⟩:=info_parts Nw;obtain⟨g,ac,rfl,hg,hc⟩:=Bs cY Oa;have ee:(N==7)=jE:=zA.2 c5;have ef:((m:Int)==0)=jE:=zA.2 Oa;have l:=((AE w<|jH #[jc X N,jc X ar,jC au,Y av aw ax,Y (Q<|jA g ac U) m ay] 121).alloc Ox Gg)
 have bh:=Ag.new (jK w<|jH #[jc X N,jc X ar,jC au,Y av aw ax,Y (Q<|jA g ac U) m ay] 121) #[jc X 0,jc X 0,jC ⟨#[]⟩,Y U 0 0,Y U 0 0] 121;have cj:=(Ag.new w #[jc X N,jc X ar,jC au,Y av aw ax,Y (Q<|jA g ac U) m ay] 121).alloc Gg;have ck:R (Z<|jK (jK w<|jH #[jc X N,jc X ar,jC au,Y av aw ax,Y (Q<|jA g ac U) m ay] 121) Gg)=R (Z w)+2:=Ox;simp only[G0]at bh;have dG:=Ab V;have bW:=Ab db;have bX:=Ab dc;have dH:=Ab hF;have dI:=Ab c9;have dJ:=Ab da;have dd:=Ab hc;have de:=Ab cZ;have aF:=Ab c6;have bi:=Ab c8;have df:=Ab bV;have dK:R (Z wz)<=R (Z w):=zB dA bV.size;have dL:R (Z w0)<=R (Z w):=bV.size;clear V hc cZ c6 c8 bV cY c5 db dc hF c9 da;go_enter func98,ntmps98
 go_wp2_with fail
 generalize jK (jK w (jH #[jc X N,jc X ar,jC au,Y av aw ax,Y (Q (jA g ac U)) m ay] 121)) Gg=dg at l cj bh ck|-;have cl:Tt wz (R (Z w)+2) (Y U 0 0) [] [] dg:=⟨H3,rfl,λj h=>H9 h Ox⟩
 generalize dh:R (Z w)=al at l cj bh ck cl dK dL|-;have bj:=Ab dh;generalize dM:al+1=aG at bh|-;generalize dN:al+2=B at ck cl|-;have eg:al<aG/\aG<B:=Oa
 clear dh dM dN;go_loopw [5,6,39] (λdO bY i wr=>∃ (j:Nat) (t:M6),j<=m/\i=jc X j/\bY= .bool ((zs.take j).all Ex.bD)/\Hid (T t=j)/\Ag wr al #[jc X N,jc X ar,jC au,Y av aw ax,Y (Q<|jA g ac U) m ay] 121/\Ag wr aG #[jc X 0,jc X 0,jC ⟨#[]⟩,Y U 0 0,Y U 0 0] 121/\Tt wz B dO t (zs.take j) wr/\Below al w wr/\B<=R (Z wr)) (λ_ _ i _=>m-(intOf i).toNat)
 case atStart=>exact⟨0,[],zE _,rfl,rfl,Ab rfl,cj,bh,cl,l,Oa⟩
 case round=>
  obtain⟨j,t,eh,rfl,rfl,cm,RT,aC,aa,ah,ei⟩:=hrel;obtain⟨ab,P,rfl,_⟩:=Ae aa.aN;by_cases bk:j<m
  .have ej:(j:Int)<(m:Int):=Oa;have co:j<T S:=by rw[Aa de];exact bk
   have bZ:j<T zs:=by rw[Aa aF];exact bk
   have b0:Ai w wr:=by show Below _ _ _;rw[Aa bj];exact ah
   have aZ:=(Aa df).trans<|b0.mono (Aa df).size;obtain⟨ad,a1,a2,a3,a4⟩:=Aa dd j co;have b5:=Ab<|Aa dG j co bZ;have di:=Ab<|Aa bi _<|zI bZ;have cp:=Ab<|show zs.take (j+1)=zs.take j++[zs[j]]from zT bZ;generalize S[j]=k at ad a1 a2 a3 a4 b5;generalize zs[j]=z at b5 di cp;replace ad:=(aZ.cell (p:=⟨g,ac+j*5,U⟩) hg).trans ad;replace a1:=(aZ.cell (p:=⟨g,ac+j*5+1,U⟩) hg).trans a1;replace a2:=(aZ.cell (p:=⟨g,ac+j*5+2,U⟩) hg).trans a2;replace a3:=(aZ.cell (p:=⟨g,ac+j*5+3,U⟩) hg).trans a3;replace a4:=(aZ.cell (p:=⟨g,ac+j*5+4,U⟩) hg).trans a4;have b6:=Ab bk;have bl:=Ab<|Aa b5 _<|b0.alloc b0.size<|CX k;have ek:T t<=1048576:=H2<|Aa cm;generalize aI:(zs.take j).all Ex.bD=bY;have dP:=Ab aI;clear bk co bZ aI aZ;go_wp2_with fail
   refine(Aa bl).mono ?_;rintro r ae ⟨dQ,rfl,cq,cr⟩;obtain⟨A,C,D,E,F,G,H,I,J⟩:=dQ;dsimp only at cq|-;have b7:∀q,jL (Value.slice ab (T t) P)=Q q->B<=q/\q<R (Z wr):=λq hq=>aa.aN.lt q hq;have dR:R (Z<|jK wr<|CX k)=R (Z wr)+1:=Ox
   have bm:=(AE wr<|CX k).trans<|cr.mono Oa;have el:R (Z wr)<R (Z ae):=H2 cr.size;have bn:=(aa.below bm).below<|AE ae<|Bu A C D E F G H I J;have dj:NT wz (R (Z wr)+1) (R<|Z<|jK ae<|Bu A C D E F G H I J) (jK ae<|Bu A C D E F G H I J) ⟨A,C,D,E,F,G,H,I,J⟩ z:=(cq.aM<|Ct.aH<|AE ae<|Bu A C D E F G H I J).mono (λb ai=>by rw[dR]at ai;rw[G0];omega);have dk:=(RT.aA bm NLN).alloc<|Bu A C D E F G H I J;have dl:=(aC.aA bm NLN).alloc<|Bu A C D E F G H I J;have ct:=Ag.new ae #[jc X A,jc X C,jC D,Y E F G,Y H I J] 121;have dm:=(ah.trans<|bm.mono Oa).alloc Oa<|Bu A C D E F G H I J;have dS:R (Z<|jK ae<|Bu A C D E F G H I J)=R (Z ae)+1:=Ox;obtain⟨dT,n1,n2,dU,dV,-⟩:=Ap ct;clear aa RT aC ah b0 cq cr bm bl b5 ad a1 a2 a3 a4;have dn:=G1 bn.aN<|Bu A C D E F G H I J;have cu:=G4<|G8 (jK ae<|Bu A C D E F G H I J)<|Bu A C D E F G H I J;simp only[G0]at cu;go_wp2_with (at_builtin;refine G6 _ rfl _ _ 117 rfl B 121 dB (jM #[jc X 0,jc X 0,jC ByteArray.empty,Y U 0 0,Y U 0 0]) 5 80 underlying117 dC dD dE dF rfl Ob (Y ab (T t) P) (T t) (t.flatMap K5.cs) rfl dn ⟨R (Z ae)+1,0,U⟩ 1 1 (K5.cs ⟨A,C,D,E,F,G,H,I,J⟩) rfl rfl cu (by intro u hu;simp[K5.cs]at hu;obtain rfl|rfl|rfl|rfl|rfl:=hu<;>rfl) Ob O2 Oa O0 _ rfl ?_)
   intro g7 c7 cv dp aJ hat dW;have aK:∀q,q<B->Q q≠jL (Value.slice ab (T t) P):=λq hq e=>H2<|(b7 q e.symm).1;have dX:Q (R<|Z ae)≠jL (Value.slice ab (T t) P):=λe=>H2<|(b7 _ e.symm).2;have cw:=(dk.alloc<|Bu A C D E F G H I J).grown aJ<|aK al Oa;have cx:=(dl.alloc<|Bu A C D E F G H I J).grown aJ<|aK aG Oa;have dq:=(ct.alloc<|Bu A C D E F G H I J).grown aJ dX;have cy:=(dm.alloc (by rw[dS];omega)<|Bu A C D E F G H I J).grown aJ O0 λq hq=>H2<|(b7 q hq).1;have dr:B<=R (Z cv):=by have:=aJ.size;simp at this;omega
   have cz:=bn.bN (k:=⟨A,C,D,E,F,G,H,I,J⟩) (b:=z) Oa Oa (λq hq=>H2<|(b7 q hq).2) dj dp aJ<|hat.imp id λe=>Hk;have cA:=Ab (show Tt wz B (Y (Q<|jA g7 0 U) (T t+1) c7) (t++[(⟨A,C,D,E,F,G,H,I,J⟩:K5)]) (zs.take<|j+1) cv by rw[Aa cp];exact cz);have ds:=Ab (show T (t++[(⟨A,C,D,E,F,G,H,I,J⟩:K5)])=j+1 by rw[zC,Aa cm];rfl);have dt:=Ab (show(zs.take<|j+1).all Ex.bD=(bY&&z.bD) by rw[Aa cp,List.all_append,Aa dP];simp);have dY:=Ab (show Tq cv z ⟨A,C,D,E,F,G,H,I,J⟩ by
    have q:=cz.bT (T t) Ox (by rw[List.length_append,bn.len];simp);obtain⟨_,_,_,_,_,q⟩:=q;have q2:=Tl.tq q;have em:=bn.len;rw[z5 NLN,z5 Oa]at q2;simpa using q2)
   have dZ:=Ab<|DY (Aa dY)<|Aa di;obtain⟨aL,aO,aP,aQ,aR,-⟩:=Ap dq;clear bn cz dp aJ hat dW dj dn cu dk dl ct dm dT n1 n2 dU dV dq;generalize R (Z ae)=en at aL aO aP aQ aR|-;cases bY with
   |false=>
    go_wp2
    go_roundw
    case rel=>exact⟨j+1,_,Aa b6,O1,by rw[Aa dt];rfl,ds,cw,cx,Aa cA,cy,dr⟩
    case measure=>have:=Aa b6;simp[intOf];omega
   |true=>
    go_wp2_with fail
    refine(Aa dZ).mono ?_;rintro r ao ⟨rfl,a0⟩;have bo:=cw.aA a0 NLN;have a5:=cx.aA a0 NLN;have aD:=cy.trans<|a0.mono Oa;have d0:=Ab<|(Aa cA).below a0;have d1:B<=R (Z ao):=zB dr a0.size;clear cw cx cy cA a0 aL aO aP aQ aR;go_wp2
    go_roundw
    case rel=>exact⟨j+1,_,Aa b6,O1,by rw[Aa dt];simp,ds,bo,a5,Aa d0,aD,d1⟩
    case measure=>have:=Aa b6;simp[intOf];omega
  .have du:j=m:=Oa;have dv:zs.take j=zs:=zf (by rw[Aa aF];omega);rw[dv]at aa|-;have bp:T t=m:=by rw[Aa cm];exact du
   have br:=En (by have:=aa.aN;rw[bp]at this;exact this) bp;have b8:=Ab br;have b9:=Ab (λ(i:Nat) (h:i<T zs) (ci:i<T t)=>by
    obtain⟨_,_,_,_,_,q⟩:=aa.bT i ci h;exact(Tl.tq q))
   rw[bp];have ca:=Ab bp;have eo: ¬ ((j:Int)<(m:Int)):=Oa;obtain⟨a6,a7,a8,a9,ba,-⟩:=Ap RT;clear br bp dv bk du;go_upto_if 56 with fail
   go_cut [6] (λ_ bb=>Ag bb al #[jc X N,jc X ar,jC au,Y av aw ax,Y (Q<|jA g ac U) m ay] 121/\Ag bb aG #[jc X 0,jc X 0,jC ⟨#[]⟩,Y U 0 0,Y U 0 0] 121/\Tt wz B (Y ab m P) t zs bb/\Ai w bb/\Hid (AQ e=U))
   case first=>
    cases aI:zs.all Ex.bD with
    |true=>
     have bl:=Ab<|Aa bW wr t ab P (Aa ca) (Aa b8) (Aa b9) aI;clear aI bW bX;go_wp2_with fail
     refine(Aa bl).mono ?_;rintro r ao ⟨⟨c,b,rfl,ai,cB⟩,bc⟩;have aD:Ai w ao:=(show Ai w wr by show Below _ _ _;rw[Aa bj];exact ah).trans<|bc.mono ah.size;have bo:=RT.aA bc NLN;have a5:=aC.aA bc NLN;have cC:=aa.below bc;have dw:=Aa bj;cases aE:AQ e with
     |some z=>
      rw[aE]at ai;subst ai;have bs:=Ab (show Im ls e=z by rw[Im,aE]);have aS:=a5.alloc<|CX c;have K:=Ab<|Eg (w0:=wz) (B:=B) (c:=c) (z:=z) Oa (aD.alloc aD.size<|CX c) aS Oa Oa<|Io (RL aE)<|(cB z aE).below (AE ao<|CX c) NLN;obtain⟨aL,aO,aP,aQ,aR,-⟩:=Ap aS;obtain⟨cb,f1,f2,cc,cd⟩:=Fg aS;clear aS a5 bo cC aD cB aE bc dw aa RT aC ah;go_wp2
      exact G2 (Gf results98 rfl (Aa K).2.1) rfl (by rw[Aa bs];exact⟨c,rfl,(Aa K).2.2,(Aa K).1⟩)
     |none=>
      rw[aE]at ai;subst ai;have ap:=Ab (⟨bo.alloc<|CX c,a5.alloc<|CX c,by have q:=cC.below<|AE ao<|CX c;rw[Aa ca]at q;exact q,aD.alloc aD.size<|CX c,Ab aE⟩:Ag (jK ao<|CX c) al _ _/\Ag (jK ao<|CX c) aG _ _/\Tt wz B (Y ab m P) t zs (jK ao<|CX c)/\Ai w (jK ao<|CX c)/\Hid (AQ e=U));clear a5 bo cC aD cB bc aa RT aC ah bl b9 b8 a6 a7 a8 a9 ba aE;go_wp2
      go_meet
      exact Aa ap
    |false=>
     have ap:=Ab (⟨RT,aC,by have q:=aa;rw[Aa ca]at q;exact q,by show Below _ _ _;rw[Aa bj];exact ah,Ab<|Aa bX aI⟩:Ag wr al _ _/\Ag wr aG _ _/\Tt wz B (Y ab m P) t zs wr/\Ai w wr/\Hid (AQ e=U));clear RT aC aa ah b9 b8 aI bW bX a6 a7 a8 a9 ba;go_wp2
     go_meet
     exact Aa ap
   case rest=>
    obtain⟨cD,aS,dx,cE,bt⟩:=hcut;have dw:=Aa bj;clear bW bX b8 b9 a6 a7 a8 a9 ba RT aC aa ah;cases Aa dH with
    |leaf e ep hx=>have:=Aa aF;simp at this;omega
    |un i y ce=>have:=Aa aF;simp at this;omega
    |bin i y L ce=>have:=Aa aF;simp at this;omega
    |ite i y L O d2 ce=>
     have d3:m=3:=(Aa aF).symm;subst d3;subst d2;obtain⟨cf,a,d,rfl⟩:∃cf a d,t=[cf,a,d]:=by
      have:=Aa ca
      match t,this with
      |[cf,a,d],_=>exact⟨cf,a,d,rfl⟩
     have bd:=dx.below<|AE wc<|jH #[jc X 27,jc X 0,jC ⟨#[]⟩,Y U 0 0,Y ab 3 P] 121;have cF:=cE.alloc cE.size<|jH #[jc X 27,jc X 0,jC ⟨#[]⟩,Y U 0 0,Y ab 3 P] 121;have cG:=cD.alloc<|jH #[jc X 27,jc X 0,jC ⟨#[]⟩,Y U 0 0,Y ab 3 P] 121;have cH:=aS.alloc<|jH #[jc X 27,jc X 0,jC ⟨#[]⟩,Y U 0 0,Y ab 3 P] 121;have cI:=Ag.new wc #[jc X 27,jc X 0,jC ⟨#[]⟩,Y U 0 0,Y ab 3 P] 121;have br:=En (m:=3) bd.aN rfl;have cJ:=bd.all (m:=3) rfl NLN 27 0 ⟨#[]⟩ U 0 0 [] ⟨⟨rfl,NLN,zE _,λj h=>H9 h Ox,λj h=>H9 h Ox⟩,zE _,λ_=>rfl,λeq e=>O5⟩ _ (.ite i y L O rfl ce);have bu:=bd.kid 0 Ox Ox;have bv:=bd.kid 1 Ox Ox;have S2:=bd.kid 2 Ox Ox;obtain⟨o,s,d4,f,cg⟩:=Bs br Ox;subst d4;obtain⟨ad,a1,a2,a3,a4⟩:=cg 0 Ox;obtain⟨aT,b1,b2,b3,b4⟩:=cg 1 Ox;obtain⟨c0,c1,c2,c3,c4⟩:=cg 2 Ox;simp only[z0,List.getElem_cons_succ,zu,Nat.one_mul,zX]at ad a1 a2 a3 a4 aT b1 b2 b3 b4 c0 c1 c2 c3 c4 bu bv S2;obtain⟨d5,s1,s2,d6,d7,-⟩:=Ap cD;obtain⟨a6,a7,a8,a9,ba,-⟩:=Ap cG;have aU:=Aa bi y Ox;have bf:=Aa bi L Ox;have d8:=Aa bi O Ox;have aj:=Tl.tq bu;have af:=Tl.tq bv;have aV:=Tl.tq S2;clear br cg dx cE cD aS bd de aF bi dI dJ dd ce;go_upto_region 20 with fail
     generalize d9:jK wc (jH #[jc X 27,jc X 0,jC ⟨#[]⟩,Y U 0 0,Y (Q (jA o s U)) 3 P] 121)=ea at bu bv S2 cJ cF cG cH cI aj af aV ad a1 a2 a3 a4 aT b1 b2 b3 b4 c0 c1 c2 c3 c4 f a6 a7 a8 a9 ba|-;clear d9;have bw:=Ab<|show C15 ea o s _ _ _ _ _ _ _ _ _ _ _ _ _ _ _ from⟨ad,a1,a2,a3,a4,aT,b1,b2,b3,b4,c0,c1,c2,c3,c4⟩;have bx:=Ab (⟨bu,bv,S2,cJ⟩:_/\_/\_/\_);have aq:=Ab cF;have bz:=Ab cH;have bA:=Ab cI;clear cF cH cI bu bv S2 cJ cG a6 a7 a8 a9 ba d5 s1 s2 d6 d7;go_wp2_with fail
     refine(FO aj aU jD 1 rfl).mono ?_;rintro r dg ⟨rfl,ag⟩;cases ch:isB jD y with
     |true=>
      have M:=(Aa bz).aA ag NLN;have K:=Ab<|Eg (w0:=wz) (B:=B) (c:=a) Oa ((Aa aq).trans<|ag.mono (Aa aq).size) M Oa Oa (((Aa bx).2.1).aM (Ct.aH ag) |>.mono (λb ai=>H2 ag.size));obtain⟨aL,aO,aP,aQ,aR,-⟩:=Ap M;obtain⟨cb,f1,f2,cc,cd⟩:=Fg M;obtain⟨cK,cL,cM,cN,cO,-⟩:=Ap<|(Aa bA).aA ag NLN;obtain⟨bB,bC,bE,bF,bG,bH,bI,bJ,bK,bL,bM,bO,bP,bQ,bR⟩:=(Aa bw).below ag f;clear M ag;go_wp2
      exact G2 (Gf results98 rfl (Aa K).2.1) rfl (by rw[Aa<|Ab<|show Im ls (.ite i y L O)=L by rw[Im,Aa bt];simp[A5,ch]];exact⟨_,rfl,(Aa K).2.2,(Aa K).1⟩)
     |false=>
      obtain⟨bB,bC,bE,bF,bG,bH,bI,bJ,bK,bL,bM,bO,bP,bQ,bR⟩:=(Aa bw).below ag f;go_wp2_with fail
      refine(FO (aj.below ag NLN) aU jE 0 rfl).mono ?_;rintro r x ⟨rfl,b2⟩;have l:=ag.trans<|b2.mono ag.size;clear b2 bB bC bE bF bG bH bI bJ bK bL bM bO bP bQ bR ag;cases cP:isB jE y with
      |true=>
       have M:=(Aa bz).aA l NLN;have K:=Ab<|Eg (w0:=wz) (B:=B) (c:=d) Oa ((Aa aq).trans<|l.mono (Aa aq).size) M Oa Oa (((Aa bx).2.2.1).aM (Ct.aH l) |>.mono (λb ai=>H2 l.size));obtain⟨aL,aO,aP,aQ,aR,-⟩:=Ap M;obtain⟨cb,f1,f2,cc,cd⟩:=Fg M;obtain⟨cK,cL,cM,cN,cO,-⟩:=Ap<|(Aa bA).aA l NLN;obtain⟨bB,bC,bE,bF,bG,bH,bI,bJ,bK,bL,bM,bO,bP,bQ,bR⟩:=(Aa bw).below l f;clear M l;go_wp2
       exact G2 (Gf results98 rfl (Aa K).2.1) rfl (by rw[Aa<|Ab<|show Im ls (.ite i y L O)=O by rw[Im,Aa bt];simp[A5,ch,cP]];exact⟨_,rfl,(Aa K).2.2,(Aa K).1⟩)
      |false=>
       have cQ:=Ab ch;have cS:=Ab cP;clear ch cP;go_upto_region 24 with fail
       go_cut [90] (λv bb=>v= .bool (VI L O&&AK y)/\Ai x bb)
       case first=>
        replace aj:=aj.below l NLN;replace af:=af.below l NLN;replace aV:=aV.below l NLN;replace ad:=(l.cell (p:=(jA o s U)) f).trans ad;replace a1:=(l.cell (p:=⟨o,s+1,U⟩) f).trans a1;replace a2:=(l.cell (p:=⟨o,s+2,U⟩) f).trans a2;replace a3:=(l.cell (p:=⟨o,s+3,U⟩) f).trans a3;replace a4:=(l.cell (p:=⟨o,s+4,U⟩) f).trans a4;replace aT:=(l.cell (p:=⟨o,s+5,U⟩) f).trans aT;replace b1:=(l.cell (p:=⟨o,s+5+1,U⟩) f).trans b1;replace b2:=(l.cell (p:=⟨o,s+5+2,U⟩) f).trans b2;replace b3:=(l.cell (p:=⟨o,s+5+3,U⟩) f).trans b3;replace b4:=(l.cell (p:=⟨o,s+5+4,U⟩) f).trans b4;replace c0:=(l.cell (p:=⟨o,s+10,U⟩) f).trans c0;replace c1:=(l.cell (p:=⟨o,s+10+1,U⟩) f).trans c1;replace c2:=(l.cell (p:=⟨o,s+10+2,U⟩) f).trans c2;replace c3:=(l.cell (p:=⟨o,s+10+3,U⟩) f).trans c3;replace c4:=(l.cell (p:=⟨o,s+10+4,U⟩) f).trans c4;replace f:=zL f l.size;clear l bx aq bz bA bt cQ cS;have er:=λn:FY x=>(n.2.cell (p:=(jA o s U)) f).trans ad;have es:=λn:FY x=>(n.2.cell (p:=⟨o,s+1,U⟩) f).trans a1;have et:=λn:FY x=>(n.2.cell (p:=⟨o,s+2,U⟩) f).trans a2;have eu:=λn:FY x=>(n.2.cell (p:=⟨o,s+3,U⟩) f).trans a3;have ev:=λn:FY x=>(n.2.cell (p:=⟨o,s+4,U⟩) f).trans a4;have ew:=λn:FY x=>(n.2.cell (p:=⟨o,s+5,U⟩) f).trans aT;have ex:=λn:FY x=>(n.2.cell (p:=⟨o,s+5+1,U⟩) f).trans b1;have ey:=λn:FY x=>(n.2.cell (p:=⟨o,s+5+2,U⟩) f).trans b2;have ez:=λn:FY x=>(n.2.cell (p:=⟨o,s+5+3,U⟩) f).trans b3;have eA:=λn:FY x=>(n.2.cell (p:=⟨o,s+5+4,U⟩) f).trans b4;have eB:=λn:FY x=>(n.2.cell (p:=⟨o,s+10,U⟩) f).trans c0;have eC:=λn:FY x=>(n.2.cell (p:=⟨o,s+10+1,U⟩) f).trans c1;have eD:=λn:FY x=>(n.2.cell (p:=⟨o,s+10+2,U⟩) f).trans c2;have eE:=λn:FY x=>(n.2.cell (p:=⟨o,s+10+3,U⟩) f).trans c3;have eF:=λn:FY x=>(n.2.cell (p:=⟨o,s+10+4,U⟩) f).trans c4;clear ad a1 a2 a3 a4 aT b1 b2 b3 b4 c0 c1 c2 c3 c4;cases ak:L.bD with
        |false=>
         have aK:Nonempty<|FY x:=⟨⟨x,BRN⟩⟩
         refine CR Oy Oy ?_
         repeat (first|go_big_quiet_skip|(go_big_quiet_want;go_big_quiet_op;first|go_big_quiet_on|(apply Exists.intro;refine⟨λn=>?_,?_⟩;(first|exact rfl|(go_at_call 126;have q:=DY (af.below n.2 NLN) bf;rw[ak]at q;exact q.mono<|bq n)|(go_at_call_of 128 (a.text);have q:=Fh a n.1;exact q.mono<|bq n)|(go_at_call_of 128 (d.text);have q:=Fh d n.1;exact q.mono<|bq n)|(go_at_call 106;have q:=ED 0 a.num a.text a.an a.nn a.cn _ 0 d.num d.text d.an d.nn d.cn _ n.1 ((Aa bS).below n.2 NLN)<|(Aa bU).below n.2 NLN;rw[aW]at q;exact q.mono<|bq n)|(go_at_call 59;have q:=EH y _ n.1 (aj.below n.2 NLN) aU;rw[aX]at q;exact q.mono<|bq n));go_big_quiet_on)))
         refine wpQuiet_nil ?_;rintro _ ⟨n,rfl⟩;go_wp2
         go_meet
         exact⟨by rw[Aa<|Ab<|show(VI L O&&AK y)=jE by simp[VI,ak]],n.2⟩
        |true=>
         by_cases aY:a.op=d.op
         .have eb:(a.op==d.op)=jD:=zD.2 aY;have cT:O.bD=jD:=by rw[Zy d8,<-aV.op,<-aY,af.op,<-Zy bf];exact ak
          have bg:=Afc ak cT (by rw[<-af.op,<-aV.op];exact aY);have n1:=Aa5 ak af;have n2:=Aa5 cT aV;rw[<-n1.1,<-n2.1,<-n1.2.1,<-n2.2.1]at bg;have bS:=Ab n1.2.2;have bU:=Ab n2.2.2;clear aY cT n1 n2;cases aW:VX a.num d.num a.text d.text (Ef L).aB (Ef O).aB with
          |false=>
           have ap:=Ab (show(VI L O&&AK y)=jE by rw[bg,aW];rfl);clear bg;have aK:Nonempty<|FY x:=⟨⟨x,BRN⟩⟩
           refine CR Oy Oy ?_
           repeat (first|go_big_quiet_skip|(go_big_quiet_want;go_big_quiet_op;first|go_big_quiet_on|(apply Exists.intro;refine⟨λn=>?_,?_⟩;(first|exact rfl|(go_at_call 126;have q:=DY (af.below n.2 NLN) bf;rw[ak]at q;exact q.mono<|bq n)|(go_at_call_of 128 (a.text);have q:=Fh a n.1;exact q.mono<|bq n)|(go_at_call_of 128 (d.text);have q:=Fh d n.1;exact q.mono<|bq n)|(go_at_call 106;have q:=ED 0 a.num a.text a.an a.nn a.cn _ 0 d.num d.text d.an d.nn d.cn _ n.1 ((Aa bS).below n.2 NLN)<|(Aa bU).below n.2 NLN;rw[aW]at q;exact q.mono<|bq n)|(go_at_call 59;have q:=EH y _ n.1 (aj.below n.2 NLN) aU;rw[aX]at q;exact q.mono<|bq n));go_big_quiet_on)))
           refine wpQuiet_nil ?_;rintro _ ⟨n,rfl⟩;go_wp2
           go_meet
           exact⟨by rw[Aa ap],n.2⟩
          |true=>
           cases aX:AK y with
           |false=>
            clear bg;have aK:Nonempty<|FY x:=⟨⟨x,BRN⟩⟩
            refine CR Oy Oy ?_
            repeat (first|go_big_quiet_skip|(go_big_quiet_want;go_big_quiet_op;first|go_big_quiet_on|(apply Exists.intro;refine⟨λn=>?_,?_⟩;(first|exact rfl|(go_at_call 126;have q:=DY (af.below n.2 NLN) bf;rw[ak]at q;exact q.mono<|bq n)|(go_at_call_of 128 (a.text);have q:=Fh a n.1;exact q.mono<|bq n)|(go_at_call_of 128 (d.text);have q:=Fh d n.1;exact q.mono<|bq n)|(go_at_call 106;have q:=ED 0 a.num a.text a.an a.nn a.cn _ 0 d.num d.text d.an d.nn d.cn _ n.1 ((Aa bS).below n.2 NLN)<|(Aa bU).below n.2 NLN;rw[aW]at q;exact q.mono<|bq n)|(go_at_call 59;have q:=EH y _ n.1 (aj.below n.2 NLN) aU;rw[aX]at q;exact q.mono<|bq n));go_big_quiet_on)))
            refine wpQuiet_nil ?_;rintro _ ⟨n,rfl⟩;go_wp2
            go_meet
            exact⟨by rw[Aa<|Ab<|show(VI L O&&AK y)=jE by rw[aX,Bool.and_false]],n.2⟩
           |true=>
            have ap:=Ab (show(VI L O&&AK y)=jD by rw[bg,aW,aX];rfl);clear bg;have aK:Nonempty<|FY x:=⟨⟨x,BRN⟩⟩
            refine CR Oy Oy ?_
            repeat (first|go_big_quiet_skip|(go_big_quiet_want;go_big_quiet_op;first|go_big_quiet_on|(apply Exists.intro;refine⟨λn=>?_,?_⟩;(first|exact rfl|(go_at_call 126;have q:=DY (af.below n.2 NLN) bf;rw[ak]at q;exact q.mono<|bq n)|(go_at_call_of 128 (a.text);have q:=Fh a n.1;exact q.mono<|bq n)|(go_at_call_of 128 (d.text);have q:=Fh d n.1;exact q.mono<|bq n)|(go_at_call 106;have q:=ED 0 a.num a.text a.an a.nn a.cn _ 0 d.num d.text d.an d.nn d.cn _ n.1 ((Aa bS).below n.2 NLN)<|(Aa bU).below n.2 NLN;rw[aW]at q;exact q.mono<|bq n)|(go_at_call 59;have q:=EH y _ n.1 (aj.below n.2 NLN) aU;rw[aX]at q;exact q.mono<|bq n));go_big_quiet_on)))
            refine wpQuiet_nil ?_;rintro _ ⟨n,rfl⟩;go_wp2
            go_meet
            exact⟨by rw[Aa ap],n.2⟩
         .have eb:(a.op==d.op)=jE:=zA.2 aY;have ap:=Ab (show(VI L O&&AK y)=jE by rw[Ajl ak<|by rw[<-af.op,<-aV.op];exact aY];rfl);clear aY;have aK:Nonempty<|FY x:=⟨⟨x,BRN⟩⟩
          refine CR Oy Oy ?_
          repeat (first|go_big_quiet_skip|(go_big_quiet_want;go_big_quiet_op;first|go_big_quiet_on|(apply Exists.intro;refine⟨λn=>?_,?_⟩;(first|exact rfl|(go_at_call 126;have q:=DY (af.below n.2 NLN) bf;rw[ak]at q;exact q.mono<|bq n)|(go_at_call_of 128 (a.text);have q:=Fh a n.1;exact q.mono<|bq n)|(go_at_call_of 128 (d.text);have q:=Fh d n.1;exact q.mono<|bq n)|(go_at_call 106;have q:=ED 0 a.num a.text a.an a.nn a.cn _ 0 d.num d.text d.an d.nn d.cn _ n.1 ((Aa bS).below n.2 NLN)<|(Aa bU).below n.2 NLN;rw[aW]at q;exact q.mono<|bq n)|(go_at_call 59;have q:=EH y _ n.1 (aj.below n.2 NLN) aU;rw[aX]at q;exact q.mono<|bq n));go_big_quiet_on)))
          refine wpQuiet_nil ?_;rintro _ ⟨n,rfl⟩;go_wp2
          go_meet
          exact⟨by rw[Aa ap],n.2⟩
       case rest=>
        obtain⟨rfl,dy⟩:=hcut;have W:=l.trans<|dy.mono l.size;clear l dy;cases dz:(VI L O&&AK y)with
        |true=>
         have bs:=Ab (show Im ls (.ite i y L O)=L by rw[Im,Aa bt];simp[A5,Aa cQ,Aa cS,dz]);have M:=(Aa bz).aA W NLN;have K:=Ab<|Eg (w0:=wz) (B:=B) (c:=a) Oa ((Aa aq).trans<|W.mono (Aa aq).size) M Oa Oa (((Aa bx).2.1).aM (Ct.aH W) |>.mono (λb ai=>H2 W.size));obtain⟨aL,aO,aP,aQ,aR,-⟩:=Ap M;obtain⟨cb,f1,f2,cc,cd⟩:=Fg M;obtain⟨cK,cL,cM,cN,cO,-⟩:=Ap<|(Aa bA).aA W NLN;obtain⟨bB,bC,bE,bF,bG,bH,bI,bJ,bK,bL,bM,bO,bP,bQ,bR⟩:=(Aa bw).below W f;clear M W;go_wp2
         exact G2 (Gf results98 rfl (Aa K).2.1) rfl (by rw[Aa bs];exact⟨_,rfl,(Aa K).2.2,(Aa K).1⟩)
        |false=>
         have bs:=Ab (show Im ls (.ite i y L O)= .ite i y L O by rw[Im,Aa bt];simp[A5,Aa cQ,Aa cS,dz]);have M:=(Aa bz).aA W NLN;have K:=Ab<|Eg (w0:=wz) (B:=B) (c:=⟨27,0,⟨#[]⟩,U,0,0,Q<|jA o s U,3,P⟩) Oa ((Aa aq).trans<|W.mono (Aa aq).size) M Oa Oa (((Aa bx).2.2.2).aM (Ct.aH W) |>.mono (λb ai=>H2 W.size));obtain⟨aL,aO,aP,aQ,aR,-⟩:=Ap M;obtain⟨cb,f1,f2,cc,cd⟩:=Fg M;obtain⟨cK,cL,cM,cN,cO,-⟩:=Ap<|(Aa bA).aA W NLN;obtain⟨bB,bC,bE,bF,bG,bH,bI,bJ,bK,bL,bM,bO,bP,bQ,bR⟩:=(Aa bw).below W f;clear M W;go_wp2
         exact G2 (Gf results98 rfl (Aa K).2.1) rfl (by rw[Aa bs];exact⟨_,rfl,(Aa K).2.2,(Aa K).1⟩)
theorem Jh {e:Ex}(a:e.aD=[])(b:FC e≠7):BP ls e=e:=by cases e<;>first|(simp[BP,Im,AQ,Ex.aD,A5];done)|(exact H9 rfl b)|(cases a;done)
theorem Aff {e:Ex}(h:e.bD=jD):e.aD=[]:=by cases e<;>first|rfl|cases h
theorem Tb (i n:Int):(BP ls<|.lett i n).aD=[]:=by
 simp only[BP,Im,AQ,Ex.aD,List.isEmpty_nil,if_true,A5];cases ls[n.toNat]? with
 |none=>rfl
 |some c=>
   by_cases hc:c.bD=jD
   .show((if c.bD=jD then Q c else U).getD<|.lett i n).aD=[]
    grind [Aff]
   grind
theorem JJ {wz:jB}{z:Ex}{w:jB}{f:FuncId}{args:Array jF}(a:z.aD=[])(h:Calls P f args w<|RwA z w):Calls P f args w<|Yx wz z w:=
 h.mono λe w' ⟨⟨k,b,c⟩,h3⟩=>⟨k,b,Io a c,h3⟩
theorem Uc {e:Ex}(h:e.bD=jD):∃v,e.cv=Q v:=Z7.1 h
theorem okI {e:Ex}{v:Vv}(h:e.cv=Q v)(a:Jm e):∀n,v= .int n->Cu n:=λn e=>by
 subst e;exact Ai3 h a
theorem RM (wz:jB){ls:L8}{ts:L2}(l:JR ts ls)(D:T ls=T ts)(A:∀c∈ls,Jm c)(E:∀c∈ls,Bp c=jD){o:L3}{p:Nat}(F:T ls<=p):∀(e:Ex) (t:Int) (k:K5) (w:jB),AX ts e=Q t->Jm e->R (Z wz)<=R (Z w)->Tq w e k->LtQ w o ls->
  Calls jZ 98 #[jM #[V X k.op,V X k.num,jC k.text,Y k.an k.nn k.cn,Y k.ka k.kn k.kc],Y o (T ls) p] w (Yx wz (BP ls e) w)
 |.lett i n,t,k,w,ht,ho,f,h,hL=>by grind [AhG,Tb,AX,JJ]
 |.un i op c,t,k,w,ht,ho,f,h,hL=>by
  obtain⟨H,W,h3,aa,h5,B,I,J⟩:=h;rw[AX]at ht;cases hc:AX ts c with
  |none=>grind
  |some a=>
    rw[hc]at ht;have ac:=EJ ht;have r:=GX l c a hc;rw[h5,BP,H];exact Ub wz w f o (T ls) p ls w BRN op k.num k.text k.an k.nn k.cn k.ka 1 k.kc [B] I rfl Ob Ob Ob Oa [BP ls c] rfl (λz f=>by rw[zR.1 f];exact Ff _ _ r) _ (.un i _ ⟨rfl,rfl,rfl⟩) (λ_ _ _=>Oa) (λ_ _ _ e=>O5)
     (λs K ka kc hv L C m=>by
      match K,hv with
      |[k0],_=>
       obtain⟨v,hv⟩:=Uc (show(BP ls c).bD=jD by simpa using m);have M:v.ty=a:=by rw[OY hv]at r;exact K7 r
       exact AhD i op (by rw[M];exact ht) (C 0 Ox Ox) hv (okI hv<|Ri A c ho) L)
     (λm=>by simp only[List.all_cons,List.all_nil,Bool.and_true]at m;simp[AQ,Ex.aD,m])
     (λj a1 a2 s g=>by
      match j,a1 with
      |0,_=>exact RM wz l D A E F c a B s hc ho (zB f g.size) (J.below g NLN)<|hL.below g NLN)
 |.bin i op x y,t,k,w,ht,ho,f,h,hL=>by
  obtain⟨H,W,h3,aa,h5,B,N,I,J,S⟩:=h;rw[AX]at ht;cases hx:AX ts x with
  |none=>grind
  |some a=>
    cases hy:AX ts y with
    |none=>grind
    |some b=>
      rw[hx,hy]at ht;have ac:=Ch ht;have r:=GX l x a hx;have O:=GX l y b hy;rw[h5,BP,H];exact Ub wz w f o (T ls) p ls w BRN op k.num k.text k.an k.nn k.cn k.ka 2 k.kc [B,N] I rfl Ob Ob Ob Oa [BP ls x,BP ls y] rfl (λz f=>by
        simp only[zh,List.not_mem_nil,or_false]at f;obtain rfl|rfl:=f
        .exact Ff _ _ r
        .exact Ff _ _ O) _ (.bin i _ _ ⟨rfl,rfl,rfl⟩) (λ_ _ e=>O5) (λ_ _ _ _=>Oa)
       (λs K ka kc hv L C m=>by
        match K,hv with
        |[k0,k0'],_=>
          have G:(BP ls x).bD=jD/\(BP ls y).bD=jD:=by simpa using m
          obtain⟨v,hv⟩:=Uc G.1;obtain⟨u,hu⟩:=Uc G.2;have M:v.ty=a:=by rw[OY hv]at r;exact K7 r
          have ad:u.ty=b:=by rw[OY hu]at O;exact K7 O
          exact AhE i op (by rw[M,ad];exact ht) (C 0 Ox Ox) (C 1 Ox Ox) hv hu (okI hv<|Ri A x ho.1) (okI hu<|Ri A y ho.2) L)
       (λm=>by
        have:([BP ls x,BP ls y].all Ex.bD)=jE:=m;simp only[AQ,Ex.aD,this,List.isEmpty_cons];rfl)
       (λj a1 a2 s g=>by
        match j,a1 with
        |0,_=>exact RM wz l D A E F x a B s hx ho.1 (zB f g.size) (J.below g NLN)<|hL.below g NLN
        |1,_=>exact RM wz l D A E F y b N s hy ho.2 (zB f g.size) (S.below g NLN)<|hL.below g NLN)
 |.ite i x y z,t,k,w,ht,ho,f,h,hL=>by
  obtain⟨H,W,h3,aa,h5,B,N,ab,I,J,S,ae⟩:=h;rw[AX]at ht;cases hx:AX ts x with
  |none=>rw[hx]at ht;cases ht
  |some a=>
    cases hy:AX ts y with
    |none=>rw[hx,hy]at ht;cases ht
    |some b=>
      cases P:AX ts z with
      |none=>rw[hx,hy,P]at ht;cases ht
      |some d=>
        rw[hx,hy,P]at ht;have af:a=1:=by
         obtain⟨q1,ag⟩:=Ih ht;simp only[By]at q1;split at q1
         .rename_i he;exact he.1
         .exact H9 q1.symm ag
        have r:=GX l x a hx;have O:=GX l y b hy;have ah:=GX l z d P;rw[h5,BP,H];exact Aco wz w f o (T ls) p ls w BRN 27 k.num k.text k.an k.nn k.cn k.ka 3 k.kc [B,N,ab] I rfl Ob Ob Ob Ob [BP ls x,BP ls y,BP ls z] rfl (λz f=>by
          simp only[zh,List.not_mem_nil,or_false]at f;obtain rfl|rfl|rfl:=f
          .exact Ff _ _ r
          .exact Ff _ _ O
          .exact Ff _ _ ah) _ (.ite i _ _ _ rfl ⟨rfl,rfl,rfl⟩) (λ_ _ e=>O5) (λ_ _ _ e=>O5)
         (λs K ka kc hv L C m=>by
          match K,hv with
          |[k0,k0',k0''],_=>
            have G:(BP ls x).bD=jD/\(BP ls y).bD=jD/\(BP ls z).bD=jD:=by simpa using m
            obtain⟨v,hv⟩:=Uc G.1;obtain⟨u,hu⟩:=Uc G.2.1;obtain⟨q,hq⟩:=Uc G.2.2;have M:v.ty=1:=by rw[OY hv,af]at r;exact K7 r
            cases v with
            |bool c=>exact XA i (C 0 Ox Ox) (C 1 Ox Ox) (C 2 Ox Ox) hv hu hq L
            |_=>cases M)
         (λm=>by
          have:([BP ls x,BP ls y,BP ls z].all Ex.bD)=jE:=m;simp only[AQ,Ex.aD,this,List.isEmpty_cons];rfl)
         (λj a1 a2 s g=>by
          match j,a1 with
          |0,_=>exact RM wz l D A E F x a B s hx ho.1 (zB f g.size) (J.below g NLN)<|hL.below g NLN
          |1,_=>exact RM wz l D A E F y b N s hy ho.2.1 (zB f g.size) (S.below g NLN)<|hL.below g NLN
          |2,_=>exact RM wz l D A E F z d ab s P ho.2.2 (zB f g.size) (ae.below g NLN)<|hL.below g NLN)
 |.int ..,t,k,w,ht,ho,f,h,hL=>O6
 |.text ..,t,k,w,ht,ho,f,h,hL=>O6
 |.bool ..,t,k,w,ht,ho,f,h,hL=>O6
 |.set ..,t,k,w,ht,ho,f,h,hL=>O6
 |.name ..,t,k,w,ht,ho,f,h,hL=>O6
 |.attr ..,t,k,w,ht,ho,f,h,hL=>O6
theorem Akz (wz:jB):RwC wz:=λls ts a b h3 c j l h5 e t k w d f g h i=>RM wz a b h3 c h5 e t k w d f g h i
section
variable{aS aO aZ aW:jG}
noncomputable def Ug (P:M1) (s:Int) (I:M2) (R:Rq):Rn:=if (DG P s I).2=0/\Kw R.cl R.us R.s1 R.s2=jD then Oe R P I I.length 0 [] (List.replicate s.toNat U) 0 0 else ⟨(4,0,[]),0,0⟩
def RnA (B:Nat) (X:Rn) (w:jB) (r:Ending) (w':jB):Prop:=(∃x cx,r= .returned (jM #[V jd X.out.1,V jd X.out.2.1,Y x (T X.out.2.2) cx,V jd X.dD,V jd X.peak])/\jO w' B 9 1 (Y x (T X.out.2.2) cx) (T X.out.2.2) (X.out.2.2.map Value.string))/\Below B w w'
theorem Ait {a:jB}{b:Nat}{t:TypeId}{l m o s u:jF}(r:Ag a b #[l,m,o,s,u] t)(d f g i j:jF){c:jB}(e:c=jJ (jJ (jJ (jJ (jJ a (jA b 0 U) d) (jA b 1 U) f) (jA b 2 U) g) (jA b 3 U) i) (jA b 4 U) j):
  Ag c b #[d,f,g,i,j] t/\Below b a c/\∀{lo B n:Nat} {v:jF} {e:TypeId} {k:L7},b<lo->B<=lo->jO a lo e 1 v n k->jO c B e 1 v n k:=by
 subst e;refine⟨((((r.set 0 d).set 1 f).set 2 g).set 3 i).set 4 j,(((((Below.refl b a).setCell (p:=(jA b 0 U)) NLN _).setCell (p:=(jA b 1 U)) NLN _).setCell (p:=(jA b 2 U)) NLN _).setCell (p:=(jA b 3 U)) NLN _).setCell (p:=(jA b 4 U)) NLN _,λx w h=>Az (Ad h λq hq=>?_) w⟩;have y:=(h.lt q hq).1
 iterate 5 rw[H5 (Oa:q≠b)]
theorem AhZ {c a:Nat}{pv iv q1 q2:jF}{s:Int}{R:Rq}{S:Nat}(hm:Ag w c (No pv s iv R q1 q2 (Y U 0 0) (Y (Q<|jA a 0 U) S S) 0 0 0<|Y U 0 0) 59)(d:Ag w a (madeCells #[jX] S) 153)(f:B<=c)(g:B<=a):
  Dl B c a pv iv q1 q2 s R S ((0 :Nat):Int) [] (List.replicate S U) U 0 [] (List.replicate S jX) w:=
 ⟨hm,H3,by rw[<-KZ];exact d,Ox,λj b=>H9 b Ox,λj b=>⟨jX,Hf,λv hv=>by simp[b]at hv⟩,⟨f,g⟩,by simp[jL]⟩
theorem Uh {c cp:Nat}{d:L3}{f ci:Nat}{P:M1}{I:M2}{R:Rq}{a1:L3}{n1 c1:Nat}{a2:L3}{n2 c2:Nat}(w0 w:jB)(a b S:Nat)(K:List M5)(j:(∀x∈P,CW x=jD)->AhW w0 ka c cp a1 n1 c1 a2 n2 c2 P R aS aO aZ aW)(l:PX w0 d f ci I)
  (m:DO P S I=jD/\I≠ []/\K.getD 0 U=Q ⟨[],List.replicate (S:Int).toNat 0⟩/\Kst (P.map Vl.aC) (S:Int).toNat I 0 K)(n:(DG P S I).2=0)(hq:Kw R.cl R.us R.s1 R.s2=jD)
  (hm:Ag w a #[Y ka c cp,V X S,Y d f ci,jC R.cl,jC R.us,V X R.lv,V X R.nw,Y a1 n1 c1,Y a2 n2 c2,Y U 0 0,Y (Q<|jA b 0 U) S S,V X 0,V X 0,V X 0,Y U 0 0] 59)(o:Ag w b (madeCells #[jX] S) 153)(p:jh (Z w0)<=a)(q:jh (Z w0)<=b)(t:Ai w0 w):
  Calls jZ 21 #[.pointer<|Q<|jA a 0 U] w λr w'=>∃x cx,r= .returned (jM #[V X (Ug P S I R).out.1,V X (Ug P S I R).out.2.1,Y x (T (Ug P S I R).out.2.2) cx,V X (Ug P S I R).dD,V X (Ug P S I R).peak])/\jO w' (jh<|Z w) 9 1 (Y x (T (Ug P S I R).out.2.2) cx) (T (Ug P S I R).out.2.2) ((Ug P S I R).out.2.2.map Value.string)/\AN (λk=>k=a\/k=b) w w':=by
 obtain⟨u,v,h,i⟩:=m;rw[zS]at h i;have g:=u;rw[DO,zF,zF,zG,zq,zq]at g;have y:Ug P S I R=Oe R P I (T I) 0 [] (List.replicate S U) 0 0:=by rw[Ug,H8 ⟨n,hq⟩,zS]
 have M:=AhZ (B:=jh<|Z w0) (pv:= Y ka c cp) (iv:= Y d f ci) (q1:= Y a1 n1 c1) (q2:= Y a2 n2 c2) (s:=(S:Int)) (R:=R) hm o p q;refine(AhY w0 (jh<|Z w0) a b ka c cp d f ci a1 n1 c1 a2 n2 c2 P I S R S K w _ ⟨j g.1.2,l,g.2,NLN,g.1.1.2.1,i⟩ (List.length_pos_iff.2 v) h M t).mono ?_
 grind
theorem Afz (ap:L3)(i cp:Nat)(l:L3)(m ci:Nat)(s:Int)(P:M1)(I:M2)(R:Rq)(a1:L3)(n1 c1:Nat)(a2:L3)(n2 c2:Nat)(ae:jG)(w:jB)(af:SC w ap i cp P)(ag:PX w l m ci I)(hv:Lk w ae)(hs:FV w aS aO aZ aW)(ah: 7 <jh (Z w)/\∀k,jI w ⟨7,k,U⟩=Nb[k]?)
  (ai:Aq w a1 n1 c1 R.s1)(aj:Aq w a2 n2 c2 R.s2)(aC:T R.s1<=1048576)(aD:T R.s2<=1048576)(aE:R.cl.size<=maxLen)(aF:R.us.size<=maxLen)(aG:Cu R.lv)(aH:Cu R.nw)(ak:∀x∈P,T x.aB<=1048576/\Cu x.num):
  Calls jZ 8 #[jM #[Y ap i cp,V jd s,Y l m ci],jM #[jC R.cl,jC R.us,V jd R.lv,V jd R.nw,Y a1 n1 c1,Y a2 n2 c2]] w (RnA (jh<|Z w) (Ug P s I R) w):=by
 have j:=Ab<|K6 af ag;have al:=Ab<|K6 hs ah;have n:=Ab<|K6 ai aj;have aI:=Ab ak;clear af ag hs ah ai aj ak;go_enter func8,ntmps8
 go_wp2_with fail
 refine Mm (P:=λD=>Calls _ _ _ D _) λw0 g RC d RO=>?_;refine(Pf ap l i cp m ci s P I ae w0 ((Aa j).1.below g NLN) ((Aa j).2.below g NLN)<|hv.below g NLN).mono ?_;rintro r aX ⟨rfl,b1⟩;have a:=g.trans<|b1.mono g.size;have RC:=RC.aA b1 NLN;have d:=d.aA b1 NLN;have RO:=RO.aA b1 NLN;obtain⟨m0,o,p⟩:=At RC;obtain⟨q,t,u,y,z,A⟩:=DN d;clear g b1;by_cases f:(DG P s I).2=0
 case' pos=>
  obtain⟨ao,aq,K,ar,au⟩:=Sb f;have av:=Ab f;have E:=Ab<|K6 ao<|K6 aq<|K6 ar au;rw[f];clear f ao aq ar au;dsimp only;go_wp2_with fail
  refine(Ne R.cl R.us R.lv R.nw a1 n1 c1 R.s1 a2 n2 c2 R.s2 _ aE aF ((Aa n).1.below a NLN)<|(Aa n).2.below a NLN).mono ?_;rintro r w2 ⟨rfl,b2⟩;replace RC:=RC.aA b2 NLN;replace d:=d.aA b2 NLN;replace RO:=RO.aA b2 NLN;replace a:=a.trans<|b2.mono a.size;clear m0 o p q t u y z A b2;obtain⟨m0,o,p⟩:=At RC;obtain⟨q,t,u,y,z,A⟩:=DN d;cases hq:Kw R.cl R.us R.s1 R.s2
 case' true=>
  have aw:=Ab hq;have aJ: 0<=s/\s<=600:=by
   have h:=(Aa E).1;rw[DO,zF,zF,zG]at h;omega
  obtain⟨S,rfl⟩:∃S:Nat,s=S:=⟨s.toNat,Oa⟩
  have aK:S<=600:=Oa;have mk:∀w',(Instr.makeSlice 57 (V jd (S:Int))<|V jd (S:Int)).run jZ w'= .ok (Y (jg ⟨jh<|Z w',0,U⟩) S S) (jK w'<|jH (madeCells #[jX] S) 153):=λw'=>run_make_row' 57 153 jX 16 underlying57 Abj rfl jd jd S Oa Oa w';have aY:=RO.lt;clear hq aJ aK;dsimp only;go_wp2_with fail
  go_region_held3 (λw'=>jI w' ⟨jh<|Z w,0,U⟩=jg (Y ap i cp)/\jI w' ⟨jh<|Z w,1,U⟩=jg (V jd S)/\jI w' ⟨jh<|Z w,2,U⟩=jg (Y l m ci)/\jI w' ⟨jh (Z w)+1,0,U⟩=jg (jC R.cl)/\jI w' ⟨jh (Z w)+1,1,U⟩=jg (jC R.us)/\jI w' ⟨jh (Z w)+1,2,U⟩=jg (V jd R.lv)/\jI w' ⟨jh (Z w)+1,3,U⟩=jg (V jd R.nw)/\jI w' ⟨jh (Z w)+1,4,U⟩=jg (Y a1 n1 c1)/\jI w' ⟨jh (Z w)+1,5,U⟩=jg (Y a2 n2 c2)) (first|assumption|go_keep) (fail)
  all_goals
   rename_i aL;clear aL m0 o p q t u y z A mk;go_wp2_with fail
   refine To (P:=λD=>Calls _ _ _ (jR D) _) λF G H J=>?_;have B:=(a.trans<|G.mono a.size).drew;have L:=λ(h:∀x∈P,CW x=jD)=>(⟨(Aa j).1,λx hx=>⟨h x hx,Aa aI x hx⟩,(Aa n).1,(Aa n).2,⟨aG,aH,aC,aD⟩,(Aa al).1,(Aa al).2⟩:AhW w ap i cp a1 n1 c1 a2 n2 c2 P R aS aO aZ aW)
   first
    |refine(Uh w (jR F) (jh (Z w2)+1) (jh<|Z w2) S K L (Aa j).2 (Aa E) (Aa av) (Aa aw) ⟨J.out⟩ ⟨H.out⟩ Oa Oa B).mono ?_
    |refine(Uh w (jR F) (jh<|Z w2) (jh (Z w2)+1) S K L (Aa j).2 (Aa E) (Aa av) (Aa aw) ⟨H.out⟩ ⟨J.out⟩ Oa Oa B).mono ?_
   rintro r aM ⟨x,cx,rfl,ax,M⟩;have C:=RO.aA G NLN;have N:Ag aM (jh (Z w)+1+1) _ _:=⟨(M.block _ C.lt Oa).trans C.out⟩
   have aN:=Gz B M λb a0 e=>Oa;have h3:=C.lt;obtain⟨aP,aQ,aR,aT,aU⟩:=hB N;have aV:=N.frozen;have ay:=Ab ax;clear L B G H J C M ax RC d RO;generalize c:Ug P S I R=X at ay|-;replace c:=Ab c;dsimp only;go_wp2_with fail
   obtain⟨Q,O,az⟩:=Ait N (V jd X.out.1) (V jd X.out.2.1) (Y x (T X.out.2.2) cx) (V jd X.dD) (V jd X.peak) rfl;obtain⟨W,aa,ab,ac,ad⟩:=hB Q;refine G2 (v:= jM #[V jd X.out.1,V jd X.out.2.1,Y x (T X.out.2.2) cx,V jd X.dD,V jd X.peak]) (by simp[results,results8,go_sem,W,aa,ab,ac,ad]) rfl ?_
   rw[Aa c];exact⟨⟨x,cx,rfl,az h3 (Oa:jh (Z w)<=jh (Z F))<|Aa ay⟩,aN.trans<|O.mono Oa⟩
 case' neg=>
  have ez:((DG P s I).2!=0)=jD:=by simp[f]
  have c:Ug P s I R=⟨(4,0,[]),0,0⟩:=by rw[Ug,H7 λh=>f h.1]
  generalize (DG P s I).2=a3 at ez|-;clear f
 case' false=>have c:Ug P s I R=⟨(4,0,[]),0,0⟩:=by rw[Ug,H7 λh=>by rw[hq]at h;cases h.2]
 all_goals
  obtain⟨aP,aQ,aR,aT,aU⟩:=hB RO;have aV:=RO.frozen;replace c:=Ab c;clear m0 o p q t u y z A;dsimp only;go_wp2_with fail
  obtain⟨Q,O,az⟩:=Ait RO (V jd 4) (V jd 0) (Y U 0 0) (V jd 0) (V jd 0) rfl;obtain⟨W,aa,ab,ac,ad⟩:=hB Q;refine G2 (v:= jM #[V jd 4,V jd 0,Y U 0 0,V jd 0,V jd 0]) (by simp[results,results8,go_sem,W,aa,ab,ac,ad]) rfl ?_
  rw[Aa c];exact⟨⟨U,0,rfl,H3⟩,a.trans<|O.mono Oa⟩
end
end Go.Proofs.YtnjpihpohilnjaaGreatDoor

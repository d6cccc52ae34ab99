import Derived.Test.YtlcfoihgfcmfeaaGreatDoorMXAQ
import Derived.Test.YtlcfoihgfcmfeaaGreatDoorMXAK
import Derived.Test.YtlcfoihgfcmfeaaGreatDoorMXAT
open Option renaming none->V,none->jc,some->Z
open List renaming length->Y
open Array renaming size->R
open Go renaming World->jD,Value->jF,Addr->jH,TypeId->jR
open Bool renaming true->jG,false->jI
namespace Go.Proofs.YtlcfoihgfcmfeaaGreatDoor
open Proofs.Tryz
open Value renaming int->T,int->ja,slice->X,string->jA,iface->jJ,agg->jL,ownBlock->jO,pointer->jQ,nilIface->jT
open IntKind renaming i64->U
open World renaming heap->Q,cell?->jE,alloc->jK,setCell->jM,ownsRow->jP,drew->jV
open Addr renaming mk->jB,block->jW
open Obj renaming cells->jC
open Ending renaming returned->jN
open Proofs.Tryz renaming prog->jZ
open Go.RowKit
set_option linter.unusedVariables false
set_option maxRecDepth 100000
set_option maxHeartbeats 3200000
variable{F:FuncId}{t:Int}{ts a:M4}{N:M7}{d f g:N4}{B c m lo:Nat}{S:jR}{v pl:jF}{w w':jD}
theorem Ajh(B d:Nat)(ar:jD)(S:jR)(v:jF)(i:Int)(K:List Kc)(au:M4->Nd)(bb:∀ks,(au ks).aC=ks)(aJ:KdX S v<|K.map Kc.v)(aL:PlX S v i)(bW:Y K<=3)(bX:Hid<|∀ks w,Below B ar w->Calls jZ 175 #[jJ S v] w (NdA (au ks) w))(aM:Hid<|∀k∈K,k.ok B d ar):AdV B d ar (jJ S v) (λb=>kcN K b++[au<|kcI K b]) (kcP K++[i]) (UA K+1):=by
 intro N P nd pl D af w bc aN cJ cK;obtain⟨cL,cM,cN,aJ,av,ag⟩:=aJ;obtain⟨cO,cP,cQ,aL,⟨bY,bZ,b0⟩,aO⟩:=aL;have b3:=Ab<|BL av.1 av.2.1 av.2.2;have ag:=Ab ag;have aO:=Ab aO;have bd:=Ab bc;have cT:=aN.row.lt;have aw:B<=R (Q w):=G7 aN.aP;obtain⟨b4,b5,b6,b7,b8⟩:=info_parts Vz;obtain⟨bf,bg,bh,bi,bj⟩:=info_parts GS;have b9:jZ.types.size+Made.depth=454:=Ok;obtain⟨m,hm⟩:∃m,m=Y K:=⟨_,rfl⟩;have cU:m<=3:=Oa;have bk:=Ab hm;have ca:=Ab bb;have bl:Y (K.map Kc.v)=m:=by rw[zZ,hm]
 unfold KdA at ag;rw[bl]at ag;clear bc hm av bb bl bW;go_enter func148,ntmps148;go_wp2_with fail;rw[Aa b3,Oper.upon_enter];refine(Aa ag _).mono ?_;rintro aQ cb ⟨a,rfl,bm,aR⟩;have cc:Kn B d a w nd pl N P nd pl (D++[]) (af++[]) (X jc 0 0) [] (K.map Kc.v) cb:=⟨by rw[List.append_nil,List.append_nil];exact aN.below aR,Nk.bK aR aw,bm,G8,λq hq=>by cases hq⟩;clear aR bm;dsimp only;go_wp2_with fail;go_loopw[5,14] (λcd j wr=>∃ (k:Nat) (c:M7) (l:M4) (W ah:jF) (nx E:N4) (ks:M4),k<=m/\j=T U k/\Hid (c=N++kcN (K.take k) (Y N)/\l=P++kcP (K.take k)/\ks=kcI (K.take k) (Y N)/\∀j,(F:j<Y E)->∀q,jO E[j]=Z q->R (Q w)<=q)/\Kn B d a w nd pl c l W ah (D++nx) (af++E) cd ks (K.map Kc.v) wr) (λ_ j _=>m-(intOf j).toNat);case atStart=>exact⟨0,N,P,nd,pl,[],[],[],zH _,rfl,Ab ⟨by simp[kcN],by simp[kcP],by simp[kcI],λj F=>K4 F Oz⟩,cc⟩
 obtain⟨k,c,l,W,ah,nx,E,ks,aJ,rfl,ax,X1⟩:=hrel;by_cases aa:k<m
 .have cV:(k:Int)<(m:Int):=Oa;have ay:k<Y K:=by rw[<-Aa bk];exact aa
  obtain⟨⟨t,u,aS⟩,V,l1,l2⟩:=Aa aM _<|zI ay;obtain⟨g,rfl,bn⟩:=X1.Rr.at (k:=k) (by rw[zZ];exact ay);rw[List.getElem_map,aS]at bn;rw[aS]at V;obtain⟨e1,e2,e3,e4⟩:=Aa ax;obtain⟨G,H,az⟩:=AaN (K.take k) (Y N) λx hx=>Aa aM x<|List.mem_of_mem_take hx;obtain⟨z1,z2,aT,bo⟩:=Acy K[k] (K.take k)<|Y N;rw[<-zY ay]at z1 z2 aT bo;have ce:=Ajg (K:=K)<|k+1;have aU:Y c=Y N+UA (K.take k):=by rw[e1,zC,G]
  have n2:Y l=Y P+UA (K.take k):=by rw[e2,zC,H]
  have n3:Y ks=k:=by rw[e3,az,zv];omega
  have b1:Y c+K[k].n<=65535:=Oa;have b2:Y l+K[k].n<=65535:=Oa;have cW:k<=65535:=Oa;have y:=Ab<|show c++K[k].f (Y c)=N++kcN (K.take<|k+1) (Y N)/\l++K[k].Qq=P++kcP (K.take<|k+1)/\ks++[((Y c+Y (K[k].f<|Y c)-1:Nat):Int)]=kcI (K.take<|k+1) (Y N)from⟨by rw[z1,aU,e1,zd],by rw[aT,e2,zd],by rw[z2,l1,aU,e3]⟩;have cf:=Ab e4;have bp:=Ab aa;have bq:=Ab n3;obtain⟨cX,o2,eo,_⟩:=Af X1.O;clear e1 e2 e3 e4 G H az z1 z2 aT bo ce aU n2 n3 ax l1 l2 aa;generalize K[k].f=br at V y;generalize K[k].Qq=cg at V y;generalize K[k].n=nn at V b1 b2;clear ay aS;have ch:=Ab V;clear V;subst eo;go_wp2_with fail;refine(Aa ch _ _ _ _ _ _ _ ((Aa bd).trans X1.K.aP) X1.C b1 b2).mono ?_;rintro aQ bs ⟨rfl,ci,cj,cY,cZ,bt,Kz,aV⟩;have I:=X1.call bt Kz aV;have ck:=X1.K.aP.size;have cl:=Ab<|Yk (Aa cf)<|Ad5 aV ck;rw[zd,zd]at I;clear bt Kz aV X1 bn;generalize ((Y c+Y (br (Y c))-1:Nat):Int)=a1 at y|-;generalize c++br (Y c)=cm at y I;generalize l++cg=co at y I;dsimp only;go_wp2_with (at_builtin;refine J6 _ rfl _ _ 25 rfl (R<|Q w) 3 bf (T U 0) 1 8 underlying25 bg bh bi bj rfl Ob _ _ _ rfl (K7 I.O _) ⟨R<|Q bs,0,jc⟩ 1 1 [T U a1] rfl rfl ?c1 ?c2 Ob ?c3 ?c4 ?c5 (R (Q bs)+1) Oz ?_);case c1=>exact A6 _ _ _ _ Oz
  case c2=>intro u hu;simp at hu;subst hu;rfl
  case c3=>unfold maxLen;have:=Aa bq;omega
  case c4=>have:=Aa bq;omega
  case c5=>have:=I.K.aP.size;simp;omega
  intro c0 c6 c8 bu bv bw cp;have X2:=I.app aw bu bv bw;clear I bu bv bw cp;go_wp2;go_roundw;case rel=>exact⟨k+1,cm,co,ci,cj,_,_,_,Aa bp,O0,Ab ⟨(Aa y).1,(Aa y).2.1,(Aa y).2.2,Aa cl⟩,X2⟩
  have:=Aa bp;simp[intOf];omega
 obtain rfl:k=m:=Oa;obtain⟨e1,e2,e3,e4⟩:=Aa ax;rw[Aa bk,zq]at e1 e2 e3;obtain⟨G,H,az⟩:=AaN K (Y N)<|Aa aM;have c9:Y c+1<=65535:=by rw[e1,zC,G];omega
 have da:Y l+1<=65535:=by rw[e2,zC,H];omega
 have cq:=Ab<|L7 e1<|L7 e2<|L7 e3<|L7 e4<|L7 G H;obtain⟨ka,kc,rfl,_⟩:=Af X1.O;clear e1 e2 e3 e4 G H az ax aa;go_wp2_with fail;obtain⟨x,aA⟩:∃x:Nd,x=au ks:=⟨_,rfl⟩;have cr:=Ab (show ∀w,Below B ar w->Calls jZ 175 #[jJ S v] w (NdA x w)from λw h=>by rw[aA];exact Aa bX _ w h);have hx:x.aC=ks:=by rw[aA];exact Aa ca _
 have cs:=Ab aA;clear aA;have ct:=Ab<|(Aa bd).trans X1.K.aP;have bx:B<=R (Q wr):=zB aw X1.K.aP.size;refine(Aa cr _<|Aa ct).mono ?_;rintro aQ w2 ⟨⟨u,o,rfl,aB⟩,ai⟩;have bz:=X1.C.below ai;have bA:=X1.K.trans<|Nk.bK ai bx;have aW:=Ac (w':=w2) X1.O λq hq=>ai.block q (X1.O.lt q hq).2;have cu:=ai.size;have aj:=Ar w2<|CW x.op x.num x.text u (Y x.aE) o ka (Y ks) kc;have aD:=Ah.new w2 #[T U x.op,T U x.num,jA x.text,X u (Y x.aE) o,X ka (Y ks) kc] 112;have r:=bz.below aj;have aX:=bA.trans<|Nk.bK aj<|zB bx cu;have aY:=Ac (w':=jK w2<|CW x.op x.num x.text u (Y x.aE) o ka (Y ks) kc) aB λq hq=>aj.block q (aB.lt q hq).2;have aF:=Ac (w':=jK w2<|CW x.op x.num x.text u (Y x.aE) o ka (Y ks) kc) aW λq hq=>aj.block q (aW.lt q hq).2;have cv:R (Q w2)<R (Q<|jK w2<|CW x.op x.num x.text u (Y x.aE) o ka (Y ks) kc):=Oz;have cw:=Ab (show ∀j,(F:j<Y ((D++nx)))->∀q,jO ((D++nx))[j]=Z q->jO (Value.slice u (Y x.aE) o)≠Z q from λj F q hq e=>by have:=(aB.lt q e).1;have:=(X1.C.aK.cF.2.1 j F q hq).2;omega);clear aB aW bz bA ai aj;dsimp only;go_wp2_with fail;generalize jK w2 (CW x.op x.num x.text u (Y x.aE) o ka (Y ks) kc)=p at r aX aY aF aD cv|-;generalize R (Q w2)=ak at aD|-;obtain⟨al,cn,z,_⟩:=Af r.aK.bG;have aZ:=Ab z;clear z;apply Ak6
 .intro cx;have z:=Aa aZ;obtain⟨bB,e1,e2,e3,e4⟩:=FG aD;have u0:jE p (jB d 0 jc)=Z (W):=r.row.cell 0;rw[z]at u0;have bC:=r.row.frozen 0;have bD:=K9<|Lz p<|CW x.op x.num x.text u (Y x.aE) o ka (Y ks) kc;have cy:jE (jV p) (jB d 0 jc)=Z (X al (Y<|c) cn)/\World.frozen? (jV p) (jB d 0 jc)=jI:=⟨u0,bC⟩;have d1:jE (jV p) (jB ak 0 jc)=Z (T U x.op):=bB;have d2:jE (jV p) (jB ak 1 jc)=Z (T U x.num):=e1;have d3:jE (jV p) (jB ak 2 jc)=Z (jA x.text):=e2;have d4:jE (jV p) (jB ak 3 jc)=Z (X u (Y x.aE) o):=e3;have d5:jE (jV p) (jB ak 4 jc)=Z (X ka (Y ks) kc):=e4;have bE:jP (jV<|jK p<|CW x.op x.num x.text u (Y x.aE) o ka (Y ks) kc) B 112 5 (X al (Y<|c) cn) (Y<|c)<|Fy (c) ((D++nx))<|(af++E):=by have:=r.aK.bG;rw[z]at this;exact(K7 this _).drew
  have aG:Ah (jV<|jK p<|CW x.op x.num x.text u (Y x.aE) o ka (Y ks) kc) d #[W,ah] 235:=⟨(r.row.alloc<|CW x.op x.num x.text u (Y x.aE) o ka (Y ks) kc).out⟩;have cz:jE (jV<|jK p<|CW x.op x.num x.text u (Y x.aE) o ka (Y ks) kc) (jB d 0 jc)=Z (X al (Y<|c) cn):=by have:=aG.cell 0;rw[z]at this;exact this
  have bH:jO (Value.slice al (Y<|c) cn)≠Z d:=by rw[<-z];exact Ad r.row r.aK.bG Ob
  have cA:B<=R (Q p):=by have:=r.row.lt;have:=r.aP;omega
  clear bB e1 e2 e3 e4 u0 bC z;go_region_law (refine step_append_lies _ rfl _ _ 23 rfl B 112 b4 (jL #[T U 0,T U 0,jA ByteArray.empty,X jc 0 0,X jc 0 0]) 5 80 underlying23 b5 b6 b7 b8 rfl Ob (X al (Y<|c) cn) (Y<|c) (Fy (c) ((D++nx))<|(af++E)) rfl bE ⟨R<|Q p,0,jc⟩ 1 1 [T U x.op,T U x.num,jA x.text,X u (Y x.aE) o,X ka (Y ks) kc] rfl rfl bD (by intro u hu;simp at hu;obtain rfl|rfl|rfl|rfl|rfl:=hu<;>rfl) Ob O3 Oa Od _ rfl ?_;intro g7 c7 a0 bI J hat aa;have a2:Ah a0 d #[W,ah] 235:=⟨(J.block d aG.lt λe=>bH e.symm).trans aG.out⟩;have aH:=a2.cell 0;have a3:=a2.frozen 0);all_goals
   have bJ:(jK p<|CW x.op x.num x.text u (Y x.aE) o ka (Y ks) kc).grownBy a0<|jO<|W:=by rw[Aa aZ];exact⟨J.os,J.tape,J.output,J.size,J.block⟩
   obtain⟨ab,ao⟩:=r.cS (g7:=g7) (c7:=c7) (x:=x) (u:=X u (Y x.aE) o) (k:=X ka (Y ks) kc) _ cA (Gf aY Oa) (by rw[hx];exact Gf aF Oa) (Aa cw) (λj F q hq e=>(X1.ap q e).2 j F hq) (λq hq=>(X1.ap q hq).1) bJ bI (by rw[Aa aZ];exact hat.imp id λe=>by rw[e];show R (Q<|jK p _)=_;simp);have ac:=aX.trans ao;have a4:=Ab (show ∀q,jO (X ka (Y ks) kc:jF)=Z q->R (Q w)<=q from λq hq=>(aF.lt q hq).1);clear bI J hat aa a2 aG cz cy d1 d2 d3 d4 d5 bD bE bJ ao;clear aH a3;generalize jM a0 (jB d 0 jc) (X (Z (jB g7 0 jc)) (Y (c)+1) c7)=s at ab ac|-;clear bH;revert a4;revert ac;revert ab;revert s;revert c7;revert g7;exact cx.out
 intro g7 c7 s ab ac a4;clear aD r aX aY aF;go_wp2_with fail;obtain⟨ad,ae,aI,_⟩:=Af ab.bF;have aq:=Ab aI;have L:=ab.below<|EG s;have bL:=ac.trans<|Nk.bK (EG s)<|zB aw ac.aP.size;have s1:jE (jV s) (jB d 1 jc)=Z (X ad (Y<|l) ae):=by have:=L.row.cell 1;rw[aI]at this;exact this
 have cB:jO (Value.slice ad (Y<|l) ae)≠Z d:=by rw[<-aI];exact Ad L.row L.bF Ob
 have cC:=Ab<|Aa aO<|jV s;have bM:B<=R (Q<|jV s):=by have:=L.row.lt;have:=L.aP;omega
 clear aI ab ac;go_region_law (first|(refine Ad6 rfl _ _ _ rfl S (v) rfl _ b9 _ _ aL _ bY bZ b0 (λv' w'=>v'=T U i/\Below (R<|Q s) (jV s) w') ((Aa cC).mono λaQ w' h=>⟨_,h.1,rfl,h.2⟩) ?_;rintro db A ⟨rfl,a5⟩;have M:=L.below a5;have bN:=bL.trans<|Nk.bK a5 bM;have cD:B<=R (Q A):=zB bM a5.size;have cE:jE A (jB d 1 jc)=Z (X ad (Y<|l) ae):=(by have:=M.row.cell 1;rw[Aa aq]at this;exact this);have cG:=M.row.frozen 1;have bO:jP (jK A<|jC #[T U i] 3) B 3 1 (X ad (Y<|l) ae) (Y<|l)<|Ap<|l:=(by have:=M.bF;rw[Aa aq]at this;exact K7 this _);have s5:jE (jK A<|jC #[T U i] 3) (jB d 1 jc)=Z (X ad (Y<|l) ae):=(by have:=(M.row.alloc<|jC #[T U i] 3).cell 1;rw[Aa aq]at this;exact this);have bP:=K9<|Lz A<|jC #[T U i] 3;have a6:Ah (jK A<|jC #[T U i] 3) d #[_,_] 235:=M.row.alloc<|jC #[T U i] 3)|(refine step_append_lies _ rfl _ _ 25 rfl B 3 bf (T U 0) 1 8 underlying25 bg bh bi bj rfl Ob (X ad (Y (l)) ae) (Y (l)) (Ap (l)) rfl bO ⟨R (Q A),0,jc⟩ 1 1 [T U i] rfl rfl bP (by intro u hu;simp at hu;obtain rfl:=hu;rfl) Ob O3 Oa Od _ rfl ?_;intro bQ bR a7 bS a8 bT cH;have a9:Ah a7 d #[_,_] 235:=⟨(a8.block d a6.lt λe=>cB e.symm).trans a6.out⟩;have aH:=a9.cell 1;have a3:=a9.frozen 1));all_goals
  have bU:(jK A<|jC #[T U i] 3).grownBy a7<|jO<|ah:=by rw[Aa aq];exact a8
  obtain⟨ba,bV⟩:=M.pushP (g7:=bQ) (c7:=bR) _ i cD bU bS (by rw[Aa aq];exact bT.imp id λe=>by rw[e];simp);have ao:=bN.trans bV;clear bS a8 bT cH bU s1 cE cG s5 aH a3 a9 a6 bP bO L M bL bN bV;generalize jM a7 (jB d 1 jc) (X (Z (jB bQ 0 jc)) (Y (l)+1) bR)=cI at ba ao|-;have aH:jE cI (jB d 0 jc)=Z (X (Z<|jB g7 0 jc) (Y (c)+1) c7):=ba.row.cell 0;go_wp2;go_ret;obtain⟨e1,e2,e3,e4,G,H⟩:=Aa cq;refine⟨congrArg (λm:Nat=>jN<|T U (m:Int)) ?_,_,_,nx++[X u (Y x.aE) o],E++[X ka (Y ks) kc],?_,ao,Yk e4<|Agv<|Aa a4⟩
  .simp only[zC,List.length_cons,List.length_nil,e1];omega
  rw[<-zd N,<-zd P,<-zd D,<-zd af,<-e1,<-e2,<-e3,<-Aa cs];exact ba
theorem Bi:∀(e:Ex)(b:Nat),Y (GY e b)=e.aL:=by intro e;induction e<;>intros<;>grind[GY,Ex.aL]
theorem Hx:∀(e:Ex),Y (plE e)=e.aL|.int ..=>rfl|.text ..=>rfl|.bool ..=>rfl|.set ..=>rfl|.name ..=>rfl|.attr ..=>rfl|.lett ..=>rfl|.un _ _ k=>by simp[plE,Ex.aL,Hx k]|.bin _ _ l a=>by simp[plE,Ex.aL,Hx l,Hx a];omega|.ite _ c t e=>by simp[plE,Ex.aL,Hx c,Hx t,Hx e];omega
def Ex.dO(w:jD):Ex->Prop|.set _ a n c ss=>Am w a n c ss/\Y ss<=1048576|.un _ _ k=>k.dO w|.bin _ _ l r=>l.dO w/\r.dO w|.ite _ c t e=>c.dO w/\t.dO w/\e.dO w|_=>True
theorem Ex.bO{w w':jD}{B:Nat}(a:Below B w w')(hB:R (Q w)<=B):∀(e:Ex),e.dO w->e.dO w'|.int ..,h=>h|.text ..,h=>h|.bool ..,h=>h|.set ..,h=>⟨h.1.below a hB,h.2⟩|.name ..,h=>h|.attr ..,h=>h|.lett ..,h=>h|.un _ _ k,h=>k.bO (w:=w) a hB h|.bin _ _ l r,h=>⟨l.bO a hB h.1,r.bO a hB h.2⟩|.ite _ c t e,h=>⟨c.bO a hB h.1,t.bO a hB h.2.1,e.bO a hB h.2.2⟩
def Ex.kc(e:Ex):Kc:=⟨e.val,GY e,plE e,e.aL⟩
theorem AaO(e:Ex)(b:Nat):GY e b=kcN (e.aC.map Ex.kc) b++[{exN e with aC:=kcI (e.aC.map Ex.kc) b}]/\plE e=kcP (e.aC.map Ex.kc)++[e.pos]/\e.aL=UA (e.aC.map Ex.kc)+1:=by cases e<;>simp[GY,plE,Ex.aC,Ex.kc,kcN,kcI,kcP,UA,Ex.aL,Ex.pos,exN]<;>omega
theorem Ex.sok_kid{e:Ex}(h:e.dO w):∀k∈e.aC,k.dO w:=by cases e<;>simp[Ex.aC]<;>simp_all[Ex.dO]
theorem Aji(B:Nat)(b:jD)(hB:R (Q b)<=B)(e:Ex)(h:e.dO b)(ks:M4)(w:jD)(d:Below B b w):Calls jZ 175 #[e.val] w<|NdA {exN e with aC:=ks} w:=by
 by_cases hs:∃i a n c ss,e=.set i a n c ss
 .obtain⟨i,a,n,c,ss,rfl⟩:=hs;exact Agu i a n c ss w (h.1.below d hB) h.2
 exact AmI e (λi a n c ss he=>hs ⟨i,a,n,c,ss,he⟩) w
theorem Yl(B c:Nat)(a:jD)(hB:R (Q a)<=B)(e:Ex)(h:e.dO a):AdV B c a e.val (GY e) (plE e) e.aL:=by
 obtain⟨T,v,f,d,g⟩:=e.mth;have i:∀k∈e.aC.map Ex.kc,k.ok B c a:=λk d=>by obtain⟨x,hx,rfl⟩:=zU.1 d;have:=e.dJ x hx;exact⟨x.form,Yl B c a hB x<|Ex.sok_kid h x hx,Bi x,Hx x⟩
 have:=Ajh B c a T v e.pos (e.aC.map Ex.kc) (λks=>{exN e with aC:=ks}) (λ_=>rfl) (by rw[z6];exact d) g (by rw[zZ];exact e.dP) (Ab λks w j=>by rw[<-f];exact Aji B a hB e h ks w j)<|Ab i;rw[<-f,<-funext λb=>(AaO e b).1,<-(AaO e 0).2.1,<-(AaO e 0).2.2]at this;exact this;termination_by e.aL
theorem Ajj(a:Nat)(w:jD):Calls jZ 148 #[jQ<|Z<|jB a 0 V,jT] w λb w'=>b=jN (T U<|-1)/\w'=w:=by go_enter func148,ntmps148;go_wp2;go_ret;exact⟨rfl,rfl⟩
structure Sx where
 bZ:Int
 aF:Int
 name:M1
 cond:N5
 aD:N5
abbrev M9:=List Sx
def AO:N5->jF|none=>jT|some e=>e.val
def GG(x:Sx):N4:=[T U x.bZ,T U x.aF,jA x.name,AO x.cond,AO x.aD]
def Io(S:M9):N4:=S.flatMap GG
theorem AbO:∀(S:M9),Y (Io S)=Y S*5|[]=>rfl|x::S=>by have:=AbO S;rw[Io]at this|-;rw[zu,zC,this,List.length_cons];simp[GG];omega
theorem PZ:∀(S:M9)(j:Nat)(h:j<Y S)(a:Nat),a<5->(Io S)[j*5+a]?=(GG S[j])[a]?
 |x::S,0,h,a,hr=>by rw[Io,zu,Nat.zero_mul,zT,zp<|by simp[GG];omega];simp|x::S,j+1,h,a,hr=>by
  have b:=PZ S j P4 a hr;rw[Io]at b|-;rw[zu,yB<|by simp[GG];omega];have e:(j+1)*5+a-Y (GG x)=j*5+a:=by simp[GG];omega
  rw[e,b];simp only[yH]|[],_,h,_,_=>K4 h Oz
def AQ:N5->Nat|none=>0|some e=>e.aL
def PL:N5->Nat->M7|none,_=>[]|some e,b=>GY e b
def plO:N5->M4|none=>[]|some e=>plE e
def Jx:N5->Nat->Int|none,_=>-1|some e,b=>((b+e.aL-1:Nat):Int)
def Xy(w:jD):N5->Prop|none=>True|some e=>e.dO w
theorem Fg(o:N5)(b:Nat):Y (PL o b)=AQ o:=by
 cases o
 .rfl
 exact Bi _ _
theorem VP(o:N5):Y (plO o)=AQ o:=by
 cases o
 .rfl
 exact Hx _
def AV:Nat->M9->M7|_,[]=>[]|b,x::S=>PL x.cond b++PL x.aD (b+AQ x.cond)++AV (b+AQ x.cond+AQ x.aD) S
def IC:M9->M4|[]=>[]|x::S=>plO x.cond++plO x.aD++IC S
def CC:Nat->M9->Nz|_,[]=>[]|b,x::S=>⟨x.aF,x.name,Jx x.cond b,Jx x.aD<|b+AQ x.cond⟩::CC (b+AQ x.cond+AQ x.aD) S
def CB(S:M9):Nat:=(S.map λx=>AQ x.cond+AQ x.aD).sum
theorem Bm(x:Sx)(S:M9):CB (x::S)=AQ x.cond+AQ x.aD+CB S:=by simp[CB]
theorem Gv:∀(S:M9)(b:Nat),Y (AV b S)=CB S|[],_=>rfl|x::S,b=>by rw[AV,zC,zC,Fg,Fg,Gv S,Bm]
theorem Ym:∀(S:M9),Y (IC S)=CB S|[]=>rfl|x::S=>by rw[IC,zC,zC,VP,VP,Ym S,Bm]
theorem Ke:∀(S:M9)(b:Nat),Y (CC b S)=Y S|[],_=>rfl|x::S,b=>by rw[CC,List.length_cons,Ke S,List.length_cons]
theorem Yn(A B:M9):CB (A++B)=CB A+CB B:=by simp[CB]
theorem UB(x:Sx):∀(S:M9)(b:Nat),AV b (S++[x])=AV b S++PL x.cond (b+CB S)++PL x.aD (b+CB S+AQ x.cond)|[],b=>by simp[AV,CB]|y::S,b=>by rw[List.cons_append,AV,AV,UB x S,Bm];grind
theorem UC(x:Sx):∀(S:M9),IC (S++[x])=IC S++plO x.cond++plO x.aD|[]=>by simp[IC]|y::S=>by rw[List.cons_append,IC,IC,UC x S];simp only[zd]
theorem UD(x:Sx):∀(S:M9)(b:Nat),CC b (S++[x])=CC b S++[⟨x.aF,x.name,Jx x.cond<|b+CB S,Jx x.aD<|b+CB S+AQ x.cond⟩]|[],b=>by simp[CC,CB]|y::S,b=>by rw[List.cons_append,CC,CC,UD x S,Bm];grind
theorem Ad7(L:Nz)(s:St):Bg (L++[s])=Bg L++[T U s.aF,jA s.name,T U s.cond,T U s.aD]:=by simp[Bg]
def AdR(B nb:Nat)(N:M7)(P:M4)(nd pl:jF)(nv kv:N4)(M:M7)(Q:M4)(ix:Int)(w:jD)(r:Ending)(w':jD):Prop:=r=jN (T U ix)/\∃nd' pl' nv' kv',PC w' B nb (N++M) (P++Q) nd' pl' (nv++nv') (kv++kv')/\Nk B nb nd pl w nd' pl' w'
theorem AmJ(B a:Nat)(b:jD)(hB:R (Q b)<=B)(o:N5)(hs:Xy b o)(N:M7)(P:M4)(nd pl:jF)(c d:N4)(w:jD)(f:Below B b w)(h:PC w B a N P nd pl c d)(h1:Y N+AQ o<=65535)(h2:Y P+AQ o<=65535):Calls jZ 148 #[jQ<|Z<|jB a 0 V,AO o] w (AdR B a N P nd pl c d (PL o<|Y N) (plO o) (Jx o<|Y N) w):=by cases o with|none=>exact(Ajj a w).mono λg w' ⟨e1,e2⟩=>⟨e1,nd,pl,[],[],by rw[e2];simpa[PL,plO]using h,by rw[e2];exact Nk.refl _ _ _ _ _⟩|some e=>exact(Yl B a b hB e hs N P nd pl c d w f h h1 h2).mono λg w' ⟨e1,i,j,k,l,m,n,_⟩=>⟨by rw[e1,Bi];rfl,i,j,k,l,m,n⟩
theorem PC.cW{P:M4}{nd:jF}(h:PC w B c N P nd pl d f){v:jF}(O:jP w lo 97 4 v m g)(b:∀q,q<R (Q w)->jO v≠Z q->(Q w')[q]?=(Q w)[q]?):PC w' B c N P nd pl d f:=⟨⟨(b c h.row.lt<|Ad h.row O Ob).trans h.row.out⟩,h.aK.cJ (λq hq=>b q (h.aK.cF.1 q hq).2 λe=>Ao O h.aK.bG Ob q e hq) (λj a q hq=>b q (h.aK.cF.2.1 j a q hq).2 λe=>Ao O (h.aK.aE j (by rw[<-h.aK.len];exact a) a) Ob q e hq) (λj a q hq=>b q (h.aK.cF.2.2 j a q hq).2 λe=>Ao O (h.aK.aC j (by rw[<-h.aK.bL];exact a) a) Ob q e hq),Ac h.bF (λq hq=>b q (h.bF.lt q hq).2 λe=>Ao O h.bF Ob q e hq),h.bH,h.aP⟩
theorem Nk.stm{a:Nat}{nd c d:jF}{P:M4}{f g:N4}(h:Nk B a nd pl w c d w')(C:PC w B a N P nd pl f g){v:jF}{b:N4}(O:jP w lo 97 4 v m b):jP w' lo 97 4 v m b:=Ac O (λq hq=>h.block q (O.lt q hq).2 (λe=>Ad C.row O Ob Q2) (λe=>Ao O C.aK.bG Ob q hq e) λe=>Ao O C.bF Ob q hq e)
theorem Rz:∀(e:Ex)(b:Nat),GY e.st b=GY e b|.un i op k,b=>by rw[Ex.st,GY,GY,Rz k,Kr]|.bin i op l r,b=>by rw[Ex.st,GY,GY,Rz l,Kr,Kr,Rz r]|.ite i c t e,b=>by rw[Ex.st,GY,GY,Rz c,Kr,Kr,Kr,Rz t,Rz e]|.int ..,b=>rfl|.text ..,b=>rfl|.bool ..,b=>rfl|.set ..,b=>rfl|.name ..,b=>rfl|.attr ..,b=>rfl|.lett ..,b=>rfl
noncomputable def Ia(ls:M8)(x:Sx):Sx:=⟨x.bZ,x.aF,x.name,x.cond.map<|Cw ls,x.aD.map<|Cw ls⟩
def KQ(ls:M8)(y:Sx):M8:=if y.aF=1 then ls++[y.cond.getD<|.bool 0 jI]else ls
noncomputable def CY:M8->M9->M9|_,[]=>[]|ls,x::Xx=>Ia ls x::CY (KQ ls<|Ia ls x) Xx
def La(b:Bool):N5->Bool|some e=>isB b e|none=>jI
def Bp:M9->M9|[]=>[]|x::Xx=>if x.aF=2/\La jI x.cond=jG then Bp Xx else if x.aF=2/\La jG x.cond=jG then[⟨x.bZ,3,⟨#[]⟩,V,x.aD⟩]else x::Bp Xx
def usE(n:Int):Ex->Bool|.lett _ m=>decide (m=n)|.un _ _ k=>usE n k|.bin _ _ l r=>usE n l||usE n r|.ite _ c t e=>usE n c||(usE n t||usE n e)|_=>jI
def usO(n:Int):N5->Bool|some e=>usE n e|none=>jI
def Ii(n:Int)(x:Sx):Bool:=usO n x.cond||usO n x.aD
def Jr:N5->Bool|some e=>AD e|none=>jG
def Cj:Int->M9->List (Sx×Int)|_,[]=>[]|n,x::Xx=>if x.aF=1 then(if !((Cj (n+1) Xx).any λq=>Ii n q.1)&&Jr x.cond then Cj (n+1) Xx else(x,n)::Cj (n+1) Xx)else(x,-1)::Cj n Xx
def GH(K:List<|Sx×Int):M4:=(K.filter λq=>decide (q.1.aF=1)).map Prod.snd
def Wz(left:M4)(n:Int):Int:=(left.idxOf n:Nat)
def BV(left:M4):Ex->Ex|.lett i n=>.lett i (Wz left n)|.un i op k=>.un i op (BV left k)|.bin i op l r=>.bin i op (BV left l) (BV left r)|.ite i c t e=>.ite i (BV left c) (BV left t) (BV left e)|e=>e
def FJ(left:M4)(x:Sx):Sx:=⟨x.bZ,x.aF,x.name,x.cond.map<|BV left,x.aD.map<|BV left⟩
def Tu(X:M9):M9:=(Cj 0 X).map λq=>FJ (GH<|Cj 0 X) q.1
noncomputable def BU(X:M9):M9:=Tu<|Bp<|CY [] X
def Wy(ts:M4):N5->Prop|none=>True|some g=>An ts g=Z 4
def JD:M4->M9->Prop|_,[]=>True|ts,x::Xx=>(x.aF=1/\∃e t,x.cond=Z e/\An ts e=Z t/\x.aD=V/\JD (ts++[t]) Xx)\/(x.aF=2/\(∃e,x.cond=Z e/\An ts e=Z 1)/\Wy ts x.aD/\JD ts Xx)\/(x.aF=3/\x.cond=V/\Wy ts x.aD/\JD ts Xx)
theorem FI.cE{ls:M8}(a:FI ts ls)(b:Y ls=Y ts){e:Ex}(h:An ts e=Z t):FI (ts++[t])<|ls++[e]:=by grind[An,FI,Ex.bQ,Vv.ty,Ex.cv,Pl,zp,zw,yI]
theorem AgP{ls:M8}(a:FI ts ls):∀{g:N5},Wy ts g->Wy ts (g.map<|Cw ls)|none,_=>trivial|some g,h=>DG a g 4 h
theorem Jb:∀(a:M9)(ts:M4)(ls:M8),FI ts ls->Y ls=Y ts->JD ts a->JD ts (CY ls a)
 |[],_,_,_,_,_=>trivial|x::a,ts,ls,hl,hn,h=>by
  rw[CY];obtain⟨k,e,t,h1,h2,h3,h4⟩|⟨k,⟨e,h1,h2⟩,h3,h4⟩|⟨k,h1,h3,h4⟩:=h
  .have b:=DG hl e t h2;have e1:KQ ls (Ia ls x)=ls++[Cw ls e]:=by rw[KQ,K1<|show(Ia ls x).aF=1 from k];simp[Ia,h1]
   refine .inl ⟨k,Cw ls e,t,by simp[Ia,h1],b,by simp[Ia,h3],?_⟩;rw[e1];exact Jb a (ts++[t]) (ls++[Cw ls e]) (hl.cE hn b) (by simp[hn]) h4
  .have e1:KQ ls (Ia ls x)=ls:=by rw[KQ,K0 (Hi:(Ia ls x).aF≠1)]
   rw[e1];exact .inr<|.inl ⟨k,⟨Cw ls e,by simp[Ia,h1],DG hl e 1 h2⟩,AgP hl h3,Jb a ts ls hl hn h4⟩
  have e1:KQ ls (Ia ls x)=ls:=by rw[KQ,K0 (Hi:(Ia ls x).aF≠1)]
  rw[e1];exact .inr<|.inr ⟨k,by simp[Ia,h1],AgP hl h3,Jb a ts ls hl hn h4⟩
theorem Ib:∀(a:M9)(ts:M4),JD ts a->JD ts (Bp a)
 |[],_,_=>trivial|x::a,ts,h=>by
  rw[Bp];obtain⟨k,e,t,h1,h2,h3,h4⟩|⟨k,h1,h3,h4⟩|⟨k,h1,h3,h4⟩:=h
  .rw[K0 Oa,K0 Oa];exact .inl ⟨k,e,t,h1,h2,h3,Ib a _ h4⟩
  .split
   .exact Ib a ts h4
   split
   .exact .inr (.inr ⟨rfl,rfl,h3,trivial⟩)
   exact .inr (.inl ⟨k,h1,h3,Ib a ts h4⟩)
  rw[K0 Oa,K0 Oa];exact .inr<|.inr ⟨k,h1,h3,Ib a ts h4⟩
def tsL(ts:M4)(l:M4):M4:=l.map λm=>ts.getD m.toNat 0
theorem Nc{ts f j:M4}:∀(e:Ex)(t:Int),(∀m,usE m e=jG->0<=m->m.toNat<Y ts->m∈f)->An ts e=Z t->An (tsL ts f) (BV (f++j) e)=Z t
 |.lett i n,t,hu,h=>by
  rw[An]at h;split at h
  .rename_i h0;have l:n.toNat<Y ts:=(zL.1 h).1;simp_all[List.getElem_idxOf,tsL,List.idxOf_lt_length_iff,An,List.idxOf_append,usE,Wz,List.getD_eq_getElem?_getD,BV]
  cases h|.un i op k,t,hu,h=>by rw[BV,An];rw[An]at h;cases g:An ts k with|none=>grind|some a=>rw[g]at h;rw[Nc k a (λm hm=>hu m S6) g];exact h
 |.bin i op x y,t,hu,h=>by rw[BV,An];rw[An]at h;cases hx:An ts x with|none=>grind|some a=>cases hy:An ts y with|none=>grind|some b=>rw[hx,hy]at h;rw[Nc x a (λm hm=>hu m S6) hx,Nc y b (λm hm=>hu m S6) hy];exact h
 |.ite i x y z,t,hu,h=>by rw[BV,An];rw[An]at h;cases hx:An ts x with|none=>grind|some a=>cases hy:An ts y with|none=>grind|some b=>cases hz:An ts z with|none=>grind|some d=>rw[hx,hy,hz]at h;rw[Nc x a (λm hm=>hu m S6) hx,Nc y b (λm hm=>hu m S6) hy,Nc z d (λm hm=>hu m S6) hz];exact h
 |.int i n,t,_,h=>h|.text i n,t,_,h=>h|.bool i n,t,_,h=>h|.set i a n c ss,t,_,h=>h|.name i n,t,_,h=>O6|.attr i n,t,_,h=>h
theorem AgQ{b:M4}{g:N5}(hu:∀m,usO m g=jG->0<=m->m.toNat<Y ts->m∈a)(h:Wy ts g):Wy (tsL ts a)<|g.map<|BV<|a++b:=by cases g with|none=>trivial|some e=>exact Nc e 4 hu h
theorem AgR(b:∀m∈a,m.toNat<Y ts)(n:Nat)(c:n=Y ts):tsL (ts++[t]) (a++[(n:Int)])=tsL ts a++[t]:=by simp_all[List.map_cons,List.getElem?_append_left,tsL,List.map_append,List.getD_eq_getElem?_getD,List.map_nil]
theorem AgS(b:∀m∈a,m.toNat<Y ts):tsL (ts++[t]) a=tsL ts a:=List.map_congr_left (λm hm=>by rw[zf,zf,zp<|b m hm])
theorem Jc{x:Sx}{n:Int}{K:List (Sx×Int)}(h:x.aF=1):GH ((x,n)::K)=n::GH K:=by simp[GH,h]
theorem CP{x:Sx}{n:Int}{K:List (Sx×Int)}(h:x.aF≠1):GH ((x,n)::K)=GH K:=by simp[GH,h]
theorem RH:∀(b:M9)(ts c:M4),(∀m∈c,m.toNat<Y ts)->(∀q∈Cj (Y ts:Nat) b,∀m,Ii m q.1=jG->0<=m->m.toNat<Y ts->m∈c)->JD ts b->JD (tsL ts c) ((Cj (Y ts:Nat) b).map λq=>FJ (c++GH (Cj (Y ts:Nat) b)) q.1)
 |[],_,_,_,_,_=>trivial|x::b,ts,c,hl,hu,h=>by
  obtain⟨k,e,t,h1,h2,h3,h4⟩|⟨k,⟨e,h1,h2⟩,h3,h4⟩|⟨k,h1,h3,h4⟩:=h
  .have en:((Y ts:Nat):Int)+1=(Y (ts++[t]):Nat):=Oz;rw[Cj,K1 k]at hu|-;rw[en]at hu|-;have g:∀m∈c,m.toNat<Y (ts++[t]):=λm hm=>by have:=hl m hm;simp;omega
   split
   .rename_i f;rw[K1 f]at hu;have j:∀q∈Cj (Y (ts++[t]):Nat) b,Ii ((Y ts:Nat):Int) q.1=jI:=λq hq=>by simp only[zF,Bool.not_eq_true',List.any_eq_false]at f;simpa using f.1 q hq
    have:=RH b (ts++[t]) c g (λq hq m hm h0 d=>by
     obtain a|a:=Nat.lt_or_ge m.toNat<|Y ts
     .exact hu q hq m hm h0 a
     have:m=((Y ts:Nat):Int):=by simp at d;omega
     rw[this,j q hq]at hm;cases hm) h4;rw[AgS hl]at this;exact this
   rename_i f;rw[K0 f]at hu;have i:=RH b (ts++[t]) (c++[((Y ts:Nat):Int)]) (λm hm=>by
    obtain hm|hm:=zJ.1 hm
    .exact g m hm
    .rw[zK.1 hm];simp) (λq hq m hm h0 d=>by
    obtain a|a:=Nat.lt_or_ge m.toNat<|Y ts
    .exact z3 _ (hu q (zV _ hq) m hm h0 a)
    have:m=((Y ts:Nat):Int):=by simp at d;omega
    rw[this];simp) h4;rw[AgR hl (Y ts) rfl]at i;rw[Jc k];have l:c++((Y ts:Nat):Int)::GH (Cj (Y (ts++[t]):Nat) b)=(c++[((Y ts:Nat):Int)])++GH (Cj (Y (ts++[t]):Nat) b):=Oz;rw[List.map_cons];refine .inl ⟨k,BV (c++((Y ts:Nat):Int)::GH (Cj (Y (ts++[t]):Nat) b)) e,t,by simp[FJ,h1],Nc e t (λm hm h0 d=>hu _ (zR ..) m (by simp[Ii,h1,usO,hm]) h0 d) h2,by simp[FJ,h3],?_⟩;rw[l];exact i
  .rw[Cj,K0 Oa]at hu|-;rw[CP Oa,List.map_cons];refine .inr (.inl ⟨k,⟨BV (c++GH (Cj (Y ts:Nat) b)) e,by simp[FJ,h1],Nc e 1 (λm hm h0 d=>hu _ (zR ..) m (by simp[Ii,h1,usO,hm]) h0 d) h2⟩,AgQ (λm hm h0 d=>hu _ (zR ..) m (by simp[Ii,hm]) h0 d) h3,RH b ts c hl (λq hq=>hu q<|zV _ hq) h4⟩)
  rw[Cj,K0 Oa]at hu|-;rw[CP Oa,List.map_cons];refine .inr (.inr ⟨k,by simp[FJ,h1],AgQ (λm hm h0 d=>hu _ (zR ..) m (by simp[Ii,hm]) h0 d) h3,RH b ts c hl (λq hq=>hu q<|zV _ hq) h4⟩)
theorem VU{X:M9}(h:JD [] X):JD []<|BU X:=by have h1:=Jb X [] [] (λn c hc=>by simp at hc) rfl h;have h2:=Ib _ [] h1;have:=RH (Bp<|CY [] X) [] [] (λm hm=>by cases hm) (λq hq m hm h0 a=>by simp at a) h2;exact this
def Tv:Vv->Prop|.int n=>Cf n|.set ss=>Y ss<=1048576|_=>True
def Ln:Ex->Prop|.int _ n=>Cf n|.set _ _ _ _ ss=>Y ss<=1048576|.un _ _ k=>Ln k|.bin _ _ l r=>Ln l/\Ln r|.ite _ c t e=>Ln c/\Ln t/\Ln e|_=>True
theorem Ali(v:Vv)(h:Tv v):Ln v.ex:=by cases v<;>exact h
theorem UI{p:Int×Int}{v:Vv}(h:BJ p=.ok v)(a:p.2=0->Cf p.1):Tv v:=by
 unfold BJ at h;split at h
 .cases h;exact a ‹_›
 cases h
theorem Alj(v:Int):(GO v).2=0->Cf (GO v).1:=λh=>by
 unfold GO at*;split at h
 .rename_i q;rw[K1 q];exact⟨q.1,q.2⟩
 cases h
theorem Yt(op a b:Int):(AW op a b).2=0->Cf (AW op a b).1:=by grind[WL,Alj,Vj,AW]
theorem AcD{op:Int}{v u:Vv}(a:Tv v)(h:Ie op v=.ok u):Tv u:=by cases v with
 |int n=>grind[Ie,UI,Yt]|bool b=>simp only[Ie]at h;split at h<;>cases h;trivial|set ss=>
   simp only[Ie]at h;split at h
   .cases h;have:Y ss<=1048576:=a;exact⟨Oa,Oa⟩
   cases h|text s=>cases h
theorem AgT{ss tt:M6}{v:Vv}(h:DP (Fz ss tt)=.ok v):Tv v:=by
 unfold DP at h;split at h
 .cases h;rename_i hz;unfold Fz at*;split at hz
  .rename_i a;rw[dif_pos a];have q:=Classical.choose_spec a;cases b:(Ax ss&&Ax tt)with|false=>grind[Aw.bad]|true=>
     obtain⟨M,_,h1,h2⟩:=q.bP b;by_cases c:Y M<=64
     .show Y (Classical.choose a).1<=1048576;grind
     omega
  cases hz
 cases h
theorem RI{op:Int}{v w u:Vv}(a:Tv v)(b:Tv w)(h:BI op v w=.ok u):Tv u:=by
 unfold BI at h;split at h
 .cases h;trivial
 split at h
 .cases h;trivial
 split at h
 .split at h<;>cases h;trivial
 .rename_i ss tt;have hs:Y ss<=1048576:=a;split at h
  .exact AgT h
  split at h
  .cases h;show Y (Bq ss tt)<=1048576;grind[IH,Bq]
  split at h
  .cases h;show Y (AP ss tt)<=1048576;grind[IH,AP]
  split at h<;>cases h;trivial
 .split at h
  .cases h;trivial
  split at h
  .cases h;trivial
  grind[UI,Yt]
 cases h
theorem Jd{e:Ex}{v:Vv}(hc:e.bQ=jG)(a:Ln e)(h:At SS [] e=.ok v):Tv v:=by cases e<;>first|(cases h;exact a)|(cases h;trivial)|cases hc
theorem AgU{e c:Ex}(d:Ln e)(h:AM e=Z c):Ln c:=by
 unfold AM at h;split at h
 .cases h
 split at h
 .rename_i j;split at h
  .rename_i v a;cases h;refine Ali v ?_;cases e with
   |un i op k=>rw[At]at a;have o:k.bQ=jG:=Gb;cases hq:At SS [] k with|err c=>rw[hq]at a;cases a|ok x=>rw[hq]at a;exact AcD (Jd o d hq) a
   |bin i op l m=>rw[At]at a;have f:l.bQ=jG/\m.bQ=jG:=Gb;cases hq:At SS [] l with|err c=>rw[hq]at a;cases a|ok x=>
     rw[hq]at a;dsimp only at a;split at a
     .cases a;exact Jd f.1 d.1 hq
     cases g:At SS [] m with|err c=>rw[g]at a;cases a|ok y=>rw[g]at a;dsimp only at a;first
      |exact RI (Jd f.1 d.1 hq) (Jd f.2 d.2 g) a
      |split at a
       .cases a;exact Jd f.2 d.2 g
       exact RI (Jd f.1 d.1 hq) (Jd f.2 d.2 g) a
   |ite i x y z=>rw[At]at a;have n:x.bQ=jG/\y.bQ=jG/\z.bQ=jG:=Gb;cases hq:At SS [] x with|err c=>rw[hq]at a;cases a|ok b=>
     rw[hq]at a;cases b with|bool b=>
      cases b
      .exact Jd n.2.2 d.2.2 a
      exact Jd n.2.1 d.2.1 a|_=>cases a
   |_=>simp[Ex.aC]at*
  cases h
 cases h
theorem AgV{ls:M8}(w:∀c∈ls,Ln c){e c:Ex}(a:Ln e)(h:AS ls e=Z c):Ln c:=by cases e with
 |lett i n=>grind[AS]|un i op k=>
   rw[AS]at h;split at h
   .cases k with|un A o j=>rw[LS]at h;split at h<;>cases h;exact a|_=>cases h
   cases h|bin i op x y=>
   rw[AS]at h;have MB:∀{z:Ex},z=x\/z=y->Ln z:=λq=>q.elim (λe=>e ▸ a.1) λe=>e ▸ a.2;by_cases d:op=25
   .subst d;exact MB<|Ei h
   by_cases f:op=26
   .subst f;exact MB<|Ei h
   by_cases g:op=16
   .subst g;exact MB<|Fw h
   by_cases l:op=17
   .subst l;exact MB<|H7 h
   by_cases m:op=18
   .subst m;obtain e|e:=Gw h
    .grind
    rw[e];exact zH _
   by_cases h11:op=11
   .subst h11;exact MB<|Ko h
   by_cases h12:op=12
   .subst h12;exact MB<|EJ h
   by_cases h13:op=13
   .subst h13;exact MB<|H9 h
   by_cases h14:op=14
   .subst h14;exact MB<|EJ h
   by_cases p:op=19
   .subst p;obtain⟨b,rfl⟩:=Bn h;trivial
   by_cases r:op=22
   .subst r;obtain⟨b,rfl⟩:=Bn h;trivial
   by_cases s:op=20
   .subst s;obtain⟨b,rfl⟩:=Bn h;trivial
   by_cases t:op=21
   .subst t;obtain⟨b,rfl⟩:=Bn h;trivial
   by_cases u:op=24
   .subst u;obtain⟨b,rfl⟩:=DF h;trivial
   by_cases v:op=23
   .subst v;obtain⟨b,rfl⟩:=Ja h;trivial
   grind[DE]|ite i x y z=>
   rw[AS]at h;repeat' split at h
   all_goals first|(cases h;first|exact a.2.1|exact a.2.2)|cases h
 |_=>cases h
theorem All{ls:M8}(b:∀c∈ls,Ln c){e:Ex}(a:Ln e):Ln<|NN ls e:=by unfold NN;cases hf:AM e with|some c=>exact AgU a hf|none=>cases d:AS ls e with|none=>exact a|some c=>exact AgV b a d
theorem Alm{ls:M8}(a:∀c∈ls,Ln c):∀(e:Ex),Ln e->Ln (Cw ls e):=by intro e;induction e<;>intros<;>grind[Cw,Ln,All]
theorem AkF{T:jR}{a:Ending->jD->Prop}(h:type_of%(tas T v)->Calls jZ F #[jJ T v] w a):Calls jZ F #[jJ T v] w a:=h<|tas T v
theorem AkG{T:jR}{x:jF}{a:Ending->jD->Prop}(h:type_of%(tas T v)->Calls jZ F #[jJ T v,x] w a):Calls jZ F #[jJ T v,x] w a:=h<|tas T v
theorem DH(e:Ex)(b:Bool)(w:jD):Calls jZ 53 #[e.val,.bool b] w<|Bb (isB b e) w:=by have B:=λo=>Ar w o;cases e;all_goals refine AkG λts=>?_;simp only[NP,Nat.reduceEqDiff,reduceIte]at ts;obtain⟨a,c,d,f,g,h,i,j,k,l⟩:=ts;go_enter func53,ntmps53;go_wp2;go_ret;exact⟨rfl,B _⟩
theorem CE(e:Ex)(n:Int)(w:jD):Calls jZ 146 #[e.val,T U n] w<|Bb (SQ n e) w:=by have B:=λo=>Ar w o;cases e;all_goals refine AkG λts=>?_;simp only[NP,Nat.reduceEqDiff,reduceIte]at ts;obtain⟨a,b,c,d,f,g,h,i,j,k⟩:=ts;go_enter func146,ntmps146;go_wp2;go_ret;exact⟨rfl,B _⟩
theorem Jt(e:Ex)(w:jD):Calls jZ 138 #[e.val] w λa w'=>a=jN (.bool e.bQ)/\w'=w:=by cases e;all_goals refine AkF λts=>?_;simp only[NP,Nat.reduceEqDiff,reduceIte]at ts;obtain⟨b,c,d,f,g,h,i,j,k,l⟩:=ts;go_enter func138,ntmps138;go_wp2;go_ret;exact⟨rfl,rfl⟩
theorem Cd(e:Ex)(w:jD):Calls jZ 138 #[e.val] w<|Bb e.bQ w:=(Jt e w).mono λa w' h=>⟨h.1,by rw[h.2];exact BRN⟩
theorem Tw(h1:S≠202)(h2:S≠175)(v y:jF)(w:jD):Calls jZ 145 #[jJ S v,y] w<|Bb jI w:=by have a:=AI (S:=S) (T:=202) underlying202 zeroValue202 h1 86;have a1:=AI (S:=S) (T:=175) underlying175 zeroValue175 h2 86;clear h1 h2;go_enter func145,ntmps145;go_wp2;go_ret;exact⟨rfl,BRN⟩
theorem LY(hS:S≠202)(i n:Int)(v:jF)(w:jD):Calls jZ 145 #[jJ 202<|jL #[ja U i,ja U n],jJ S v] w<|Bb jI w:=by have c:=CK (T:=202) underlying202 86;have a1:=AI (S:=S) (T:=202) underlying202 zeroValue202 hS 86;have a:=Ar w<|jC #[ja U i,ja U n] 202;have b:=a.alloc a.size<|jC #[ja U 0,ja U 0] 202;clear hS;go_enter func145,ntmps145;go_wp2;go_ret;exact⟨rfl,b⟩
theorem Nn(i n j m:Int)(w:jD):Calls jZ 145 #[jJ 202<|jL #[ja U i,ja U n],jJ 202<|jL #[ja U j,ja U m]] w<|Bb (decide (m=n)) w:=by have c:=CK (T:=202) underlying202 86;have a:=Ar w<|jC #[ja U i,ja U n] 202;have b:=a.alloc a.size<|jC #[ja U j,ja U m] 202;go_enter func145,ntmps145;go_wp2;go_ret;exact⟨rfl,b⟩
theorem No(hS:S≠175)(i n:Int)(v:jF)(w:jD):Calls jZ 145 #[jJ 175<|jL #[ja U i,ja U n],jJ S v] w<|Bb jI w:=by have c:=AI (S:=175) (T:=202) underlying202 zeroValue202 Ob 86;have d:=CK (T:=175) underlying175 86;have a1:=AI (S:=S) (T:=175) underlying175 zeroValue175 hS 86;have a:=Ar w<|jC #[ja U i,ja U n] 175;have b:=a.alloc a.size<|jC #[ja U 0,ja U 0] 175;clear hS;go_enter func145,ntmps145;go_wp2;go_ret;exact⟨rfl,b⟩
theorem Oq(i n j m:Int)(w:jD):Calls jZ 145 #[jJ 175<|jL #[ja U i,ja U n],jJ 175<|jL #[ja U j,ja U m]] w<|Bb (decide (m=n)) w:=by have c:=AI (S:=175) (T:=202) underlying202 zeroValue202 Ob 86;have d:=CK (T:=175) underlying175 86;have a:=Ar w<|jC #[ja U i,ja U n] 175;have b:=a.alloc a.size<|jC #[ja U j,ja U m] 175;go_enter func145,ntmps145;go_wp2;go_ret;exact⟨rfl,b⟩
theorem FT(x y:Ex)(w:jD):Calls jZ 145 #[x.val,y.val] w<|Bb (sameL x y) w:=by cases x with
 |attr i n=>cases y with|attr j m=>exact Nn i n j m w|_=>exact LY Ob _ _ _ _
 |lett i n=>cases y with|lett j m=>exact Oq i n j m w|_=>exact No Ob _ _ _ _
 |_=>exact Tw Ob Ob _ _ _
def Ex.ln:Ex->Prop|.set _ _ n _ ss=>n=Y ss|_=>True
theorem Ce(e:Ex)(h:e.ln)(w:jD):Calls jZ 144 #[e.val] w<|Bb (Km e) w:=by
 have B:=λo=>Ar w o;cases e;case' set i a n c ss=>
  cases h;show Calls _ _ #[jJ 201<|jL #[T U i,X a (Y ss) c]] w<|Bb (decide (Y ss=0)) w;generalize Y ss=n;by_cases b:n=0;case' pos=>subst b
  case' neg=>have d:((n:Int)==0)=jI:=zA.2 Oa;rw[za b]
 all_goals refine AkF λts=>?_;simp only[NP,Nat.reduceEqDiff,reduceIte]at ts;obtain⟨f,g,j,k,l,m,p,q,r,s⟩:=ts;go_enter func144,ntmps144;go_wp2;go_ret;exact⟨rfl,B _⟩
set_option maxHeartbeats 1600000
def CQ(v:jF)(w:jD)(r:Ending)(w':jD):Prop:=r=jN v/\Ak w w'
abbrev QC(F:FuncId)(a:Array jF)(b:Bool):Prop:=Hid<|∀w,Calls jZ F a w<|Bb b w
def oV:N5->jF|none=>jT|some e=>e.val
theorem Aeg(c d:jF)(f g b_L:Bool)(k:QC 144 #[c] f)(l:QC 144 #[d] g)(m:QC 145 #[c,d] b_L)(h:jF)(n:Hid<|h=if f then d else if g||b_L then c else jT)(w:jD):Calls jZ 88 #[c,d] w (CQ h w):=by have a:=IQ w;go_enter func88,ntmps88;go_wp2_with fail;repeat' first|((with_reducible refine(Aa k _).mono ?_);rintro i j ⟨rfl,b⟩;replace a:=a.trans<|b.mono a.size;cases f<;>(dsimp only;go_wp2_with fail))|((with_reducible refine(Aa l _).mono ?_);rintro i j ⟨rfl,b⟩;replace a:=a.trans<|b.mono a.size;cases g<;>(dsimp only;go_wp2_with fail))|((with_reducible refine(Aa m _).mono ?_);rintro i j ⟨rfl,b⟩;replace a:=a.trans<|b.mono a.size;cases b_L<;>(dsimp only;go_wp2_with fail))|(go_ret;exact⟨congrArg jN (Aa n).symm,a⟩)
theorem Ag8(c d:jF)(h i j k b_L:Bool)(m:QC 144 #[c] h)(n:QC 48 #[d] i)(o:QC 144 #[d] j)(p:QC 48 #[c] k)(q:QC 145 #[c,d] b_L)(l:jF)(r:Hid<|l=if h&&i then c else if j&&k then d else if b_L then c else jT)(w:jD):Calls jZ 89 #[c,d] w (CQ l w):=by have a:=IQ w;go_enter func89,ntmps89;go_wp2_with fail;repeat' first|((with_reducible refine(Aa m _).mono ?_);rintro f g ⟨rfl,b⟩;replace a:=a.trans<|b.mono a.size;cases h<;>(dsimp only;go_wp2_with fail))|((with_reducible refine(Aa n _).mono ?_);rintro f g ⟨rfl,b⟩;replace a:=a.trans<|b.mono a.size;cases i<;>(dsimp only;go_wp2_with fail))|((with_reducible refine(Aa o _).mono ?_);rintro f g ⟨rfl,b⟩;replace a:=a.trans<|b.mono a.size;cases j<;>(dsimp only;go_wp2_with fail))|((with_reducible refine(Aa p _).mono ?_);rintro f g ⟨rfl,b⟩;replace a:=a.trans<|b.mono a.size;cases k<;>(dsimp only;go_wp2_with fail))|((with_reducible refine(Aa q _).mono ?_);rintro f g ⟨rfl,b⟩;replace a:=a.trans<|b.mono a.size;cases b_L<;>(dsimp only;go_wp2_with fail))|(go_ret;exact⟨congrArg jN (Aa r).symm,a⟩)
theorem Aeh(c:jR)(d f:jF)(i j k b_L:Bool)(q:QC 144 #[f] i)(r:QC 144 #[(jJ c d)] j)(s:QC 48 #[f] k)(t:QC 145 #[(jJ c d),f] b_L)(p:Int)(g:Hid (b_L=jG->∀w,(method 454 c d "loop.example/s01308/impl.place").run jZ w=.ok (228,T U p) w))(n:jF)(u:Hid<|n=if i||(j&&k)then(jJ c d)else if b_L then jJ 201 (jL #[T U p,X V 0 0])else jT)(w:jD):Calls jZ 90 #[(jJ c d),f] w (CQ n w):=by have a:=IQ w;go_enter func90,ntmps90;go_wp2_with fail;repeat' first|((with_reducible refine(Aa q _).mono ?_);rintro h l ⟨rfl,b⟩;replace a:=a.trans<|b.mono a.size;cases i<;>(dsimp only;(try have m:=Aa g (by first|rfl|trivial));go_wp2_with fail))|((with_reducible refine(Aa r _).mono ?_);rintro h l ⟨rfl,b⟩;replace a:=a.trans<|b.mono a.size;cases j<;>(dsimp only;(try have m:=Aa g (by first|rfl|trivial));go_wp2_with fail))|((with_reducible refine(Aa s _).mono ?_);rintro h l ⟨rfl,b⟩;replace a:=a.trans<|b.mono a.size;cases k<;>(dsimp only;(try have m:=Aa g (by first|rfl|trivial));go_wp2_with fail))|((with_reducible refine(Aa t _).mono ?_);rintro h l ⟨rfl,b⟩;replace a:=a.trans<|b.mono a.size;cases b_L<;>(dsimp only;(try have m:=Aa g (by first|rfl|trivial));go_wp2_with fail))|((with_reducible refine(Gp p _).mono ?_);rintro h v ⟨rfl,o⟩;rw[o];clear o;dsimp only;go_wp2_with fail)|(go_ret;exact⟨congrArg jN (Aa u).symm,a⟩)
theorem AjS(b c:jF)(d f:Bool)(i:QC 146 #[b,T U 0] d)(j:QC 146 #[c,T U 0] f)(h:jF)(k:Hid<|h=if d then c else if f then b else jT)(w:jD):Calls jZ 91 #[b,c] w (CQ h w):=by have a:=IQ w;go_enter func91,ntmps91;go_wp2_with fail;repeat' first|((with_reducible refine(Aa i _).mono ?_);rintro l m ⟨rfl,g⟩;replace a:=a.trans<|g.mono a.size;cases d<;>(dsimp only;go_wp2_with fail))|((with_reducible refine(Aa j _).mono ?_);rintro l m ⟨rfl,g⟩;replace a:=a.trans<|g.mono a.size;cases f<;>(dsimp only;go_wp2_with fail))|(go_ret;exact⟨congrArg jN (Aa k).symm,a⟩)
theorem Ag9(c d:jF)(b:Bool)(g:QC 146 #[d,T U 0] b)(f:jF)(h:Hid<|f=if b then c else jT)(w:jD):Calls jZ 92 #[c,d] w (CQ f w):=by have a:=IQ w;go_enter func92,ntmps92;go_wp2_with fail;repeat' first|((with_reducible refine(Aa g _).mono ?_);rintro j k ⟨rfl,i⟩;replace a:=a.trans<|i.mono a.size;cases b<;>(dsimp only;go_wp2_with fail))|(go_ret;exact⟨congrArg jN (Aa h).symm,a⟩)
theorem AjT(c d:jF)(b:Bool)(g:QC 146 #[d,T U 1] b)(f:jF)(h:Hid<|f=if b then c else jT)(w:jD):Calls jZ 94 #[c,d] w (CQ f w):=by have a:=IQ w;go_enter func94,ntmps94;go_wp2_with fail;repeat' first|((with_reducible refine(Aa g _).mono ?_);rintro j k ⟨rfl,i⟩;replace a:=a.trans<|i.mono a.size;cases b<;>(dsimp only;go_wp2_with fail))|(go_ret;exact⟨congrArg jN (Aa h).symm,a⟩)
theorem Aha(c d:jF)(h i j k l m:Bool)(o:QC 146 #[c,T U 1] h)(p:QC 146 #[d,T U 1] i)(q:QC 146 #[c,T U 0] j)(r:QC 48 #[d] k)(s:QC 146 #[d,T U 0] l)(t:QC 48 #[c] m)(n:jF)(u:Hid<|n=if h then d else if i then c else if j&&k then c else if l&&m then d else jT)(w:jD):Calls jZ 93 #[c,d] w (CQ n w):=by have a:=IQ w;go_enter func93,ntmps93;go_wp2_with fail;repeat' first|((with_reducible refine(Aa o _).mono ?_);rintro f g ⟨rfl,b⟩;replace a:=a.trans<|b.mono a.size;cases h<;>(dsimp only;go_wp2_with fail))|((with_reducible refine(Aa p _).mono ?_);rintro f g ⟨rfl,b⟩;replace a:=a.trans<|b.mono a.size;cases i<;>(dsimp only;go_wp2_with fail))|((with_reducible refine(Aa q _).mono ?_);rintro f g ⟨rfl,b⟩;replace a:=a.trans<|b.mono a.size;cases j<;>(dsimp only;go_wp2_with fail))|((with_reducible refine(Aa r _).mono ?_);rintro f g ⟨rfl,b⟩;replace a:=a.trans<|b.mono a.size;cases k<;>(dsimp only;go_wp2_with fail))|((with_reducible refine(Aa s _).mono ?_);rintro f g ⟨rfl,b⟩;replace a:=a.trans<|b.mono a.size;cases l<;>(dsimp only;go_wp2_with fail))|((with_reducible refine(Aa t _).mono ?_);rintro f g ⟨rfl,b⟩;replace a:=a.trans<|b.mono a.size;cases m<;>(dsimp only;go_wp2_with fail))|(go_ret;exact⟨congrArg jN (Aa u).symm,a⟩)
theorem Aa2(c:jR)(d h:jF)(b f:Bool)(m:QC 144 #[(jJ c d)] b)(n:QC 48 #[h] f)(p:Int)(i:Hid (b=jG->∀w,(method 454 c d "loop.example/s01308/impl.place").run jZ w=.ok (228,T U p) w))(j:jF)(o:Hid<|j=if b&&f then jJ 179 (jL #[T U p,.bool jG])else jT)(w:jD):Calls jZ 96 #[(jJ c d),h] w (CQ j w):=by have a:=IQ w;go_enter func96,ntmps96;go_wp2_with fail;repeat' first|((with_reducible refine(Aa m _).mono ?_);rintro k q ⟨rfl,g⟩;replace a:=a.trans<|g.mono a.size;cases b<;>(dsimp only;(try have r:=Aa i (by first|rfl|trivial));go_wp2_with fail))|((with_reducible refine(Aa n _).mono ?_);rintro k q ⟨rfl,g⟩;replace a:=a.trans<|g.mono a.size;cases f<;>(dsimp only;(try have r:=Aa i (by first|rfl|trivial));go_wp2_with fail))|((with_reducible refine(Gp p _).mono ?_);rintro k s ⟨rfl,l⟩;rw[l];clear l;dsimp only;go_wp2_with fail)|(go_ret;exact⟨congrArg jN (Aa o).symm,a⟩)
theorem AlA(g:jF)(ty:jR)(c:jF)(b d:Bool)(l:QC 144 #[(jJ ty c)] b)(m:QC 48 #[g] d)(p:Int)(h:Hid (b=jG->∀w,(method 454 ty c "loop.example/s01308/impl.place").run jZ w=.ok (228,T U p) w))(i:jF)(n:Hid<|i=if b&&d then jJ 179 (jL #[T U p,.bool jI])else jT)(w:jD):Calls jZ 97 #[g,(jJ ty c)] w (CQ i w):=by have a:=IQ w;go_enter func97,ntmps97;go_wp2_with fail;repeat' first|((with_reducible refine(Aa l _).mono ?_);rintro j o ⟨rfl,f⟩;replace a:=a.trans<|f.mono a.size;cases b<;>(dsimp only;(try have q:=Aa h (by first|rfl|trivial));go_wp2_with fail))|((with_reducible refine(Aa m _).mono ?_);rintro j o ⟨rfl,f⟩;replace a:=a.trans<|f.mono a.size;cases d<;>(dsimp only;(try have q:=Aa h (by first|rfl|trivial));go_wp2_with fail))|((with_reducible refine(Gp p _).mono ?_);rintro j r ⟨rfl,k⟩;rw[k];clear k;dsimp only;go_wp2_with fail)|(go_ret;exact⟨congrArg jN (Aa n).symm,a⟩)
theorem Ahb(g h:jF)(b:Bool)(f:Nat)(j k b_Tny l m:Bool)(o:QC 53 #[g,.bool b] j)(p:QC 53 #[g,.bool<|!b] k)(q:QC 53 #[h,.bool b] b_Tny)(r:QC 53 #[h,.bool<|!b] l)(s:QC 48 #[g] m)(n:jF)(t:Hid<|n=if j then h else if k||b_Tny then g else if l&&m then h else jT)(w:jD)(u:jR)(Rc:Ah w f #[.bool b] u):Calls jZ 142 #[g,h,jQ<|Z<|jB f 0 V] w (CQ n w):=by have a:=IQ w;have c0:jE w (jB f 0 V)=Z (.bool b):=Rc.cell 0;go_enter func142,ntmps142;go_wp2_with fail;repeat' first|((with_reducible refine(Aa o _).mono ?_);rintro i c ⟨rfl,d⟩;replace a:=a.trans<|d.mono a.size;replace c0:jE c (jB f 0 V)=Z (.bool b):=(Rc.aB a NLN).cell 0;cases j<;>(dsimp only;go_wp2_with fail))|((with_reducible refine(Aa p _).mono ?_);rintro i c ⟨rfl,d⟩;replace a:=a.trans<|d.mono a.size;replace c0:jE c (jB f 0 V)=Z (.bool b):=(Rc.aB a NLN).cell 0;cases k<;>(dsimp only;go_wp2_with fail))|((with_reducible refine(Aa q _).mono ?_);rintro i c ⟨rfl,d⟩;replace a:=a.trans<|d.mono a.size;replace c0:jE c (jB f 0 V)=Z (.bool b):=(Rc.aB a NLN).cell 0;cases b_Tny<;>(dsimp only;go_wp2_with fail))|((with_reducible refine(Aa r _).mono ?_);rintro i c ⟨rfl,d⟩;replace a:=a.trans<|d.mono a.size;replace c0:jE c (jB f 0 V)=Z (.bool b):=(Rc.aB a NLN).cell 0;cases l<;>(dsimp only;go_wp2_with fail))|((with_reducible refine(Aa s _).mono ?_);rintro i c ⟨rfl,d⟩;replace a:=a.trans<|d.mono a.size;replace c0:jE c (jB f 0 V)=Z (.bool b):=(Rc.aB a NLN).cell 0;cases m<;>(dsimp only;go_wp2_with fail))|(go_ret;exact⟨congrArg jN (Aa t).symm,a⟩)
section
variable{aS aO aZ aW:jH}{G:Nat->Prop}
theorem WU(op:Int)(x:jF)(v:Vv)(w:jD)(hx:Vl G w x v)(ht:op=25\/op=26->v.ty=1):Calls jZ 160 #[T U op,x] w λd w'=>d=jN (.bool<|GJ op v)/\w'=w:=by
 have g:=PH;by_cases a:op=25
 .obtain⟨b,rfl⟩:=Vv.bC<|ht<|.inl a;subst a;have e:x=jJ 140 (.bool b):=hx;subst e;go_enter func160,ntmps160;go_wp2;go_ret;exact⟨rfl,rfl⟩
 by_cases c:op=26
 .obtain⟨b,rfl⟩:=Vv.bC<|ht<|.inr c;subst c;have e:x=jJ 140 (.bool b):=hx;subst e;go_enter func160,ntmps160;go_wp2;go_ret;exact⟨rfl,rfl⟩
 have f:=Ab (show GJ op v=jI by cases v<;>simp[GJ,a,c]);have h:(op==25)=jI:=zA.2 a;have i:(op==26)=jI:=zA.2 c;obtain⟨t,u,rfl⟩:=hx.form;clear a c hx ht;go_enter func160,ntmps160;go_wp2;go_ret;exact⟨by rw[Aa f];rfl,rfl⟩
end
section
open Go.RowKit Go.Extern.Stop Go.Stop Go.Extern
variable{aS aO aZ aW:jH}
structure PlE(w:jD)(pb:Nat)(at_:Int)(a:jH):Prop where row:Ah w pb #[T U at_,jJ 313<|jQ<|Z a] 247
theorem Akp(v:jF)(a:jR)(w:jD):(Instr.typeAssert (jJ 245 v) a 254 jG).run jZ w=.ok (.tuple #[jT,.bool jI]) w:=run_typeAssert_lacksB underlying254 Ok Ok v a w
theorem Qd(v:jF)(a:jR)(w:jD):(Instr.typeAssert (jJ 245 v) a 257 jG).run jZ w=.ok (.tuple #[jJ 245 v,.bool jG]) w:=run_typeAssert_hasB underlying257 Ok v a w
theorem OI(a:Nat)(w:jD):(Go.method 454 245 (jQ<|Z<|jB a 0 V) "Unwrap").run jZ w=.ok (236,jQ<|Z<|jB a 0 V) w:=Ok
theorem Qe{b:Nat}{c:Int}{a:jH}(h:PlE w b c a):Calls jZ 72 #[jJ 245<|jQ<|Z<|jB b 0 V,jJ 313<|jQ<|Z a] w λe w'=>e=jN (.bool jG)/\w'=w:=by obtain⟨i,hi,d⟩:=Z6.1 Aff;obtain⟨j,f,g⟩:=Z6.1 Afg;have h8:=@run_callFunc_extern jZ 124 _ Extern.ReflectliteType.typeOf func124 Ok Ok Ok Ok;have k:=@run_callFunc_extern jZ 240 _ (Extern.ReflectliteType.method Afh) func240 Ok Ok Ok Ok;have l:=WS;have m:=Mq;have n:=Gg;have o:=Akp;have p:=Qd;have q:=OI;have r:=run_eql_iface_types (P:=jZ) 245 313 (jQ<|Z<|jB b 0 V) (jQ<|Z a) underlying59 Ob;have s:=run_eql_iface_ptr_same (P:=jZ) w a underlying59 underlying313 hi d f;have c1:jE w (jB b 1 V)=Z (jJ 313<|jQ<|Z a):=h.row.cell 1;go_enter func72,ntmps72;go_wp2;refine wp_loop_rounds 2 ?_;rw[rounds_succ];go_wp2;rw[rounds_succ];go_wp2;go_ret;exact⟨rfl,rfl⟩
theorem FZ{d:Nat}{f:Int}{a b:jH}(h:PlE w d f a)(g:a≠b)(k:∃c t,(Q w)[jW a]?=Z (jC c t (0,0)))(l:∃c t,(Q w)[jW b]?=Z (jC c t (0,0))):Calls jZ 72 #[jJ 245<|jQ<|Z<|jB d 0 V,jJ 313<|jQ<|Z b] w λe w'=>e=jN (.bool jI)/\w'=w:=by obtain⟨i,hi,m⟩:=Z6.1 Aff;obtain⟨j,n,o⟩:=Z6.1 Afg;obtain⟨ca,r,p⟩:=k;obtain⟨s,u,q⟩:=l;have h8:=@run_callFunc_extern jZ 124 _ Extern.ReflectliteType.typeOf func124 Ok Ok Ok Ok;have v:=@run_callFunc_extern jZ 240 _ (Extern.ReflectliteType.method Afh) func240 Ok Ok Ok Ok;have x:=WS;have y:=Mq;have z:=Gg;have A:=Akp;have B:=Qd;have C:=OI;have D:=Amn;have E:=Adl;have F:=ZL;have G:=run_eql_iface_types (P:=jZ) 245 313 (jQ<|Z<|jB d 0 V) (jQ<|Z b) underlying59 Ob;have H:=run_eql_iface_ptr_other (P:=jZ) w underlying59 underlying313 hi m n (by rw[o];decide) g p q;have c1:jE w (jB d 1 V)=Z (jJ 313<|jQ<|Z a):=h.row.cell 1;go_enter func72,ntmps72;go_wp2;refine wp_loop_rounds 2 ?_;rw[rounds_succ];go_wp2;rw[rounds_succ];go_wp2;go_ret;exact⟨rfl,rfl⟩
theorem Aiv(a:Nat)(b:Int)(w:jD)(hs:Cx w aS aO aZ aW)(c:PlE w a b aO):Calls jZ 29 #[jJ 245<|jQ<|Z<|jB a 0 V] w λe w'=>e=jN (T U 1)/\w'=w:=by have hg:=hs.g1;go_enter func29,ntmps29;go_wp2_with fail;refine(Qe c).mono ?_;rintro e w' ⟨rfl,rfl⟩;go_wp2;go_ret;exact⟨rfl,rfl⟩
theorem Aiw(a:Nat)(c:Int)(w:jD)(hs:Cx w aS aO aZ aW)(b:PlE w a c aZ):Calls jZ 29 #[jJ 245<|jQ<|Z<|jB a 0 V] w λe w'=>e=jN (T U 2)/\w'=w:=by have hg:=hs.g1;have d:=hs.g2;go_enter func29,ntmps29;go_wp2_with fail;refine(FZ b (λe=>hs.nOZ e.symm) hs.rZ hs.rO).mono ?_;rintro e w' ⟨rfl,rfl⟩;go_wp2_with fail;refine(Qe b).mono ?_;rintro e w' ⟨rfl,rfl⟩;go_wp2;go_ret;exact⟨rfl,rfl⟩
theorem Aix(b:Nat)(c:Int)(w:jD)(hs:Cx w aS aO aZ aW)(a:PlE w b c aW):Calls jZ 29 #[jJ 245<|jQ<|Z<|jB b 0 V] w λe w'=>e=jN (T U 3)/\w'=w:=by have hg:=hs.g1;have d:=hs.g2;have f:=hs.g3;go_enter func29,ntmps29;go_wp2_with fail;refine(FZ a (λe=>hs.nOW e.symm) hs.rW hs.rO).mono ?_;rintro e w' ⟨rfl,rfl⟩;go_wp2_with fail;refine(FZ a (λe=>hs.nZW e.symm) hs.rW hs.rZ).mono ?_;rintro e w' ⟨rfl,rfl⟩;go_wp2_with fail;refine(Qe a).mono ?_;rintro e w' ⟨rfl,rfl⟩;go_wp2;go_ret;exact⟨rfl,rfl⟩
theorem Aiy(b:Nat)(c:Int)(w:jD)(hs:Cx w aS aO aZ aW)(a:PlE w b c aS):Calls jZ 29 #[jJ 245<|jQ<|Z<|jB b 0 V] w λe w'=>e=jN (T U 4)/\w'=w:=by have hg:=hs.g1;have d:=hs.g2;have f:=hs.g3;go_enter func29,ntmps29;go_wp2_with fail;refine(FZ a hs.nSO hs.rS hs.rO).mono ?_;rintro e w' ⟨rfl,rfl⟩;go_wp2_with fail;refine(FZ a hs.nSZ hs.rS hs.rZ).mono ?_;rintro e w' ⟨rfl,rfl⟩;go_wp2_with fail;refine(FZ a hs.nSW hs.rS hs.rW).mono ?_;rintro e w' ⟨rfl,rfl⟩;go_wp2;go_ret;exact⟨rfl,rfl⟩
def JJ(aS aO aZ aW:jH)(w:jD)(v:jF)(c:Int):Prop:=(1<=c/\c<=4)/\∃pb at_ a,v=jJ 245 (jQ<|Z<|jB pb 0 V)/\PlE w pb at_ a/\Ml aS aO aZ aW c=jJ 313 (jQ<|Z a)
theorem JJ.below{c:Int}(h:JJ aS aO aZ aW w v c)(b:Below B w w')(hB:R (Q w)<=B):JJ aS aO aZ aW w' v c:=by obtain⟨h1,d,f,a,h2,h3,h4⟩:=h;exact⟨h1,d,f,a,h2,⟨h3.row.aB b hB⟩,h4⟩
theorem Adm{c:Int}(hs:Cx w aS aO aZ aW)(h:JJ aS aO aZ aW w v c):Calls jZ 29 #[v] w λe w'=>e=jN (T U c)/\w'=w:=by
 obtain⟨h1,b,d,a,rfl,h3,h4⟩:=h;rcases(Oa:c=1\/c=2\/c=3\/c=4)with rfl|rfl|rfl|rfl
 .obtain rfl:aO=a:=by simpa[Ml]using h4
  exact Aiv b d w hs h3
 .obtain rfl:aZ=a:=by simpa[Ml]using h4
  exact Aiw b d w hs h3
 .obtain rfl:aW=a:=by simpa[Ml]using h4
  exact Aix b d w hs h3
 obtain rfl:aS=a:=by simpa[Ml]using h4
 exact Aiy b d w hs h3
theorem WT(i:Int)(a:jH)(w:jD):Calls jZ 116 #[T U i,jJ 313<|jQ<|Z a] w λc w'=>(∃b,c=jN (jJ 245<|jQ<|Z<|jB b 0 V)/\PlE w' b i a)/\Ak w w':=by have d:=Ah.new w #[T U i,jJ 313<|jQ<|Z a] 247;have f:=Ar w<|jC #[T U i,jJ 313<|jQ<|Z a] 247;go_enter func116,ntmps116;go_wp2;go_ret;exact⟨⟨_,rfl,⟨d⟩⟩,f⟩
end
end Go.Proofs.YtlcfoihgfcmfeaaGreatDoor

import Derived.Test.YteiieikcjcfkkaaGreatDoorMXAO
import Derived.Test.YteiieikcjcfkkaaGreatDoorMXAV
open Go.Proofs.Tryz
open Option renaming none->T,some->X
open Go.Value renaming int->U,slice->Y,string->Q,iface->jB,agg->jG
open Go.IntKind renaming i64->V
open Go renaming World->Z,Value->R,Calls->jE,heap_alloc_new->jm
open Bool renaming true->jA,false->jC
open And renaming intro->jS
open Go.World.ownsRow renaming alloc->jV
open List renaming length_cons->jY,map_cons->jd,cons_append->js
open Go.Proofs.Tryz renaming prog->j4
namespace Go.Proofs.YteiieikcjcfkkaaGreatDoor
set_option maxRecDepth 100000
set_option maxHeartbeats 3200000
open Go.RowKit
set_option linter.unusedVariables false
variable {t:Int}{bs:List Bool}{ts a:List Int}{N:List Nd}{d f g:List R}{B c m lo:Nat}{nd pl:R}{v u:Vv}{w w':Z}
theorem Agp (B d:Nat)(w0:Z)(T:TypeId)(v:R)(i:Int)(K:List Kc)(av:List Int->Nd)(a7:∀ks,(av ks).kids=ks)(aI:KdX T v (K.map Kc.v))(hp:PlX T v i)(bO:K.length<=3)(bP:Hid (∀ks w,Below B w0 w->jE j4 173 #[jB T v] w (NdA (av ks) w)))(aJ:Hid (∀k∈K,k.ok B d w0)):
  AdV B d w0 (jB T v) (fun b=>kcN K b++[av (kcI K b)]) (kcP K++[i]) (Tp K+1):=by
 intro N P nd pl F ah w a8 aK cC cD;obtain⟨cE,cF,cG,aI,aw,ai⟩:=aI;obtain⟨cH,cI,cJ,hp,⟨bQ,bR,bS⟩,aL⟩:=hp;have bT:=Ab (Bm aw.1 aw.2.1 aw.2.2);have ai:=Ab ai;have aL:=Ab aL;have a9:=Ab a8;have cK:=aK.row.lt;have ax:B<=w.heap.size:=by have:=aK.low;omega
 obtain⟨bU,bV,bW,bX,bY⟩:=info_parts AdT;obtain⟨ba,bb,bc,bd,bf⟩:=info_parts AdU;have bZ: j4.types.size+Made.depth= 422:=by kernel_rfl
 obtain⟨m,hm⟩:∃m,m=K.length:=⟨_,rfl⟩
 have cL:m<=3:=by omega
 have bg:=Ab hm;have b0:=Ab a7;have bh:(K.map Kc.v).length=m:=by rw[ze,hm]
 unfold KdA at ai;rw[bh]at ai;clear a8 hm aw a7 bh bO;go_enter func148,ntmps148
 go_wp2_with fail
 rw[Aa bT,Oper.upon_enter];refine(Aa ai _).mono ?_;rintro aM b3 ⟨a,rfl,bi,aN⟩;have b4:Kn B d a w nd pl N P nd pl (F++[]) (ah++[]) (Y none 0 0) [] (K.map Kc.v) b3:=⟨by rw[Z3,Z3];exact aK.below aN,Nk.of_all aN ax,bi,World.ownsRow_nil _ _ _ _,fun q hq=>by cases hq⟩
 clear aN bi;dsimp only;go_wp2_with fail
 go_loopw [5,14] (fun b5 j wr=>∃ (k:Nat) (c:List Nd) (l:List Int) (aa aj:R) (G H:List R) (ks:List Int),k<=m/\j=U V k/\Hid (c=N++kcN (K.take k) N.length/\l=P++kcP (K.take k)/\ks=kcI (K.take k) N.length/\∀j,(I:j<H.length)->∀q,H[j].ownBlock=X q->w.heap.size<=q)/\Kn B d a w nd pl c l aa aj (F++G) (ah++H) b5 ks (K.map Kc.v) wr) (fun _ j _=>m-(intOf j).toNat)
 case atStart=>exact⟨0,N,P,nd,pl,[],[],[],zD _,rfl,Ab ⟨by simp[kcN],by simp[kcP],by simp[kcI],fun j I=>absurd I (by simp)⟩,b4⟩
 case round=>
  obtain⟨k,c,l,aa,aj,G,H,ks,aI,rfl,ay,X1⟩:=hrel;by_cases ab:k<m
  ·have cM:(k:Int)<(m:Int):=by omega
   have az:k<K.length:=by rw[<-Aa bg];exact ab
   obtain⟨⟨t,u,aO⟩,ac,l1,b6⟩:=Aa aJ _ (zH az);obtain⟨g,rfl,bj⟩:=X1.Rr.at (k:=k) (by rw[ze];exact az);rw[List.getElem_map,aO]at bj;rw[aO]at ac;obtain⟨e1,e2,e3,e4⟩:=Aa ay;obtain⟨J,L,aA⟩:=YU (K.take k) N.length fun x hx=>Aa aJ x (List.mem_of_mem_take hx);obtain⟨aP,aQ,aR,bk⟩:=AaB K[k] (K.take k) N.length;rw[<-zQ az]at aP aQ aR bk;have b7:=Ago (K:=K) (k+1);have n1:c.length=N.length+Tp (K.take k):=by rw[e1,zC,J]
   have n2:l.length=P.length+Tp (K.take k):=by rw[e2,zC,L]
   have n3:ks.length=k:=by rw[e3,aA,zr];omega
   have b1:c.length+K[k].n<=65535:=by omega
   have b2:l.length+K[k].n<=65535:=by omega
   have cN:k<=65535:=by omega
   have z:=Ab (show c++K[k].f c.length=N++kcN (K.take (k+1)) N.length/\l++K[k].Qq=P++kcP (K.take (k+1))/\ks++[((c.length+(K[k].f c.length).length-1 :Nat):Int)]=kcI (K.take (k+1)) N.length from⟨by rw[aP,n1,e1,zT],by rw[aR,e2,zT],by rw[aQ,l1,n1,e3]⟩);have b8:=Ab e4;have bl:=Ab ab;have bm:=Ab n3;obtain⟨cO,o2,eo,_⟩:=Ae X1.O;clear e1 e2 e3 e4 J L aA aP aQ aR bk b7 n1 n2 n3 ay l1 b6 ab;generalize K[k].f=bn at ac z;generalize K[k].Qq=b9 at ac z;generalize K[k].n=nn at ac b1 b2;clear az aO;have ca:=Ab ac;clear ac;subst eo;go_wp2_with fail
   refine(Aa ca _ _ _ _ _ _ _ ((Aa a9).trans X1.K.low) X1.C b1 b2).mono ?_;rintro aM bo ⟨rfl,cb,cc,cP,cQ,bp,Kz,hv⟩;have M:=X1.call bp Kz hv;have cd:=X1.K.low.size;have ce:=Ab (H8 (Aa b8) (Nb hv cd));rw[zT,zT]at M;clear bp Kz hv X1 bj;generalize ((c.length+(bn c.length).length-1 :Nat):Int)=a1 at z|-;generalize c++bn c.length=cf at z M;generalize l++b9=cg at z M;dsimp only;go_wp2_with (at_builtin;refine wpList_append_lies _ rfl _ _ 24 rfl w.heap.size 3 ba (U V 0) 1 8 underlying24 bb bc bd bf rfl (by decide) _ _ _ rfl (jV M.O _) ⟨bo.heap.size,0,none⟩ 1 1 [U V a1] rfl rfl ?c1 ?c2 (by decide) ?c3 ?c4 ?c5 (bo.heap.size+1) (by simp) ?_)
   case c1=>exact A5 _ _ _ _ (by simp)
   case c2=>intro u A;simp at A;subst A;rfl
   case c3=>unfold maxLen;have:=Aa bm;omega
   case c4=>have:=Aa bm;omega
   case c5=>have:=M.K.low.size;simp;omega
   intro cR cS cT bq br bs ch;have X2:=M.app ax bq br bs;clear M bq br bs ch;go_wp2_with fail
   go_roundw
   case rel=>exact⟨k+1,cf,cg,cb,cc,_,_,_,Aa bl,by go_num,Ab ⟨(Aa z).1,(Aa z).2.1,(Aa z).2.2,Aa ce⟩,X2⟩
   case measure=>have:=Aa bl;simp[intOf];omega
  ·obtain rfl:k=m:=by omega
   obtain⟨e1,e2,e3,e4⟩:=Aa ay;rw[Aa bg,Z2]at e1 e2 e3;obtain⟨J,L,aA⟩:=YU K N.length (Aa aJ);have cU:c.length+1<=65535:=by rw[e1,zC,J];omega
   have cV:l.length+1<=65535:=by rw[e2,zC,L];omega
   have ci:=Ab (jS e1 (jS e2 (jS e3 (jS e4 (jS J L)))));obtain⟨ka,kc,rfl,_⟩:=Ae X1.O;clear e1 e2 e3 e4 J L aA ay ab;go_wp2_with fail
   obtain⟨x,aB⟩:∃x:Nd,x=av ks:=⟨_,rfl⟩
   have cj:=Ab (show ∀w,Below B w0 w->jE j4 173 #[jB T v] w (NdA x w)from fun w h=>by rw[aB];exact Aa bP _ w h);have hx:x.kids=ks:=by rw[aB];exact Aa b0 _
   have ck:=Ab aB;clear aB;have cl:=Ab ((Aa a9).trans X1.K.low);have bt:B<=wr.heap.size:=zB ax X1.K.low.size;refine(Aa cj _ (Aa cl)).mono ?_;rintro aM s ⟨⟨u,o,rfl,aC⟩,ak⟩;have bu:=X1.C.below ak;have bv:=X1.K.trans (Nk.of_all ak bt);have aS:=Af (w':=s) X1.O (fun q hq=>ak.block q (X1.O.lt q hq).2);have cm:=ak.size;have al:=Av s (Dw x.op x.num x.text u x.names.length o ka ks.length kc);have aD:=Ag.new s #[U V x.op,U V x.num,.string x.text,Y u x.names.length o,Y ka ks.length kc] 85;have r:=bu.below al;have aT:=bv.trans (Nk.of_all al (zB bt cm));have aU:=Af (w':=s.alloc (Dw x.op x.num x.text u x.names.length o ka ks.length kc)) aC (fun q hq=>al.block q (aC.lt q hq).2);have aE:=Af (w':=s.alloc (Dw x.op x.num x.text u x.names.length o ka ks.length kc)) aS (fun q hq=>al.block q (aS.lt q hq).2);have co:s.heap.size<(s.alloc (Dw x.op x.num x.text u x.names.length o ka ks.length kc)).heap.size:=by simp
   have cp:=Ab (show ∀j,(I:j<((F++G)).length)->∀q,((F++G))[j].ownBlock=X q->(Y u x.names.length o).ownBlock≠X q from fun j I q hq e=>by have:=(aC.lt q e).1;have:=(X1.C.nodes.lts.2.1 j I q hq).2;omega);clear aC aS bu bv ak al;dsimp only;go_wp2_with fail
   generalize s.alloc (Dw x.op x.num x.text u x.names.length o ka ks.length kc)=p at r aT aU aE aD co|-;generalize s.heap.size=ao at aD|-;obtain⟨aq,cn,D,_⟩:=Ae r.nodes.own;have aV:=Ab D;clear D;apply Ajp
   ·intro cq;have D:=Aa aV;obtain⟨e0,e1,e2,e3,e4⟩:=LZ aD;have u0:p.cell? ⟨d,0,none⟩=X (aa):=r.row.cell 0;rw[D]at u0;have bw:=r.row.frozen 0;have bx:=World.news_of_block (jm p (Dw x.op x.num x.text u x.names.length o ka ks.length kc));have cr:p.drew.cell? ⟨d,0,none⟩=X (Y aq (c).length cn)/\p.drew.frozen? ⟨d,0,none⟩=jC:=⟨u0,bw⟩
    have d1:p.drew.cell? ⟨ao,0,none⟩=X (U V x.op):=e0;have d2:p.drew.cell? ⟨ao,1,none⟩=X (U V x.num):=e1;have d3:p.drew.cell? ⟨ao,2,none⟩=X (.string x.text):=e2;have d4:p.drew.cell? ⟨ao,3,none⟩=X (Y u x.names.length o):=e3;have d5:p.drew.cell? ⟨ao,4,none⟩=X (Y ka ks.length kc):=e4;have bz:(p.alloc (Dw x.op x.num x.text u x.names.length o ka ks.length kc)).drew.ownsRow B 85 5 (Y aq (c).length cn) (c).length (Og (c) ((F++G)) ((ah++H))):=by
     have:=r.nodes.own;rw[D]at this;exact(jV this _).drew
    have aF:Ag (p.alloc (Dw x.op x.num x.text u x.names.length o ka ks.length kc)).drew d #[aa,aj] 227:=⟨(r.row.alloc (Dw x.op x.num x.text u x.names.length o ka ks.length kc)).out⟩
    have cs:(p.alloc (Dw x.op x.num x.text u x.names.length o ka ks.length kc)).drew.cell? ⟨d,0,none⟩=X (Y aq (c).length cn):=by
     have:=aF.cell 0;rw[D]at this;exact this
    have bA:(Y aq (c).length cn).ownBlock≠X d:=by rw[<-D];exact Ac r.row r.nodes.own (by decide)
    have ct:B<=p.heap.size:=by have:=r.row.lt;have:=r.low;omega
    clear e0 e1 e2 e3 e4 u0 bw D;go_region_law (refine step_append_lies _ rfl _ _ 28 rfl B 85 bU (jG #[U V 0,U V 0,.string ByteArray.empty,Y none 0 0,Y none 0 0]) 5 80 underlying28 bV bW bX bY rfl (by decide) (Y aq (c).length cn) (c).length (Og (c) ((F++G)) ((ah++H))) rfl bz ⟨p.heap.size,0,none⟩ 1 1 [U V x.op,U V x.num,.string x.text,Y u x.names.length o,Y ka ks.length kc] rfl rfl bx (by intro u A;simp at A;rcases A with rfl|rfl|rfl|rfl|rfl<;>rfl) (by decide) (by unfold maxLen;omega) (by omega) (by simp;omega) _ rfl ?_;intro g7 c7 aW bB S hat ab;have aX:Ag aW d #[aa,aj] 227:=⟨(S.block d aF.lt (fun e=>bA e.symm)).trans aF.out⟩;have aG:=aX.cell 0;have aY:=aX.frozen 0)
    all_goals
     have bC:(p.alloc (Dw x.op x.num x.text u x.names.length o ka ks.length kc)).grownBy aW (aa).ownBlock:=by rw[Aa aV];exact⟨S.os,S.tape,S.output,S.size,S.block⟩
     obtain⟨ad,ar⟩:=r.pushN (g7:=g7) (c7:=c7) (x:=x) (u:= Y u x.names.length o) (k:= Y ka ks.length kc) _ ct (LC aU (by omega)) (by rw[hx];exact LC aE (by omega)) (Aa cp) (fun j I q hq e=>(X1.ap q e).2 j I hq) (fun q hq=>(X1.ap q hq).1) bC bB (by rw[Aa aV];exact hat.imp id (fun e=>by rw[e];show(p.alloc _).heap.size=_;simp));have ae:=aT.trans ar;have aZ:=Ab (show ∀q,(Y ka ks.length kc:R).ownBlock=X q->w.heap.size<=q from fun q hq=>(aE.lt q hq).1);clear bB S hat ab aX aF cs cr d1 d2 d3 d4 d5 bx bz bC ar;clear aG aY;generalize aW.setCell ⟨d,0,none⟩ (Y (X ⟨g7,0,none⟩) ((c).length+1) c7)=y at ad ae|-;clear bA;revert aZ;revert ae;revert ad;revert y;revert c7;revert g7;exact cq.out
   intro g7 c7 y ad ae aZ;clear aD r aT aU aE;go_wp2_with fail
   obtain⟨af,ag,aH,_⟩:=Ae ad.places;have au:=Ab aH;have C8:=ad.below (L5 y);have bD:=ae.trans (Nk.of_all (L5 y) (zB ax ae.low.size));have s1:y.drew.cell? ⟨d,1,none⟩=X (Y af (l).length ag):=by have:=C8.row.cell 1;rw[aH]at this;exact this
   have cu:(Y af (l).length ag).ownBlock≠X d:=by rw[<-aH];exact Ac C8.row C8.places (by decide)
   have cv:=Ab (Aa aL y.drew);have bE:B<=y.drew.heap.size:=by have:=C8.row.lt;have:=C8.low;omega
   clear aH ad ae;go_region_law (first
    |(refine AbV rfl _ _ _ rfl T (v) rfl _ bZ _ _ hp _ bQ bR bS (fun cw w'=>cw=U V i/\Below y.heap.size y.drew w') ((Aa cv).mono (fun aM w' h=>⟨_,h.1,rfl,h.2⟩)) ?_;rintro cW E ⟨rfl,a0⟩;have W:=C8.below a0;have bF:=bD.trans (Nk.of_all a0 bE);have cx:B<=E.heap.size:=zB bE a0.size;have cy:E.cell? ⟨d,1,none⟩=X (Y af (l).length ag):=(by have:=W.row.cell 1;rw[Aa au]at this;exact this);have cz:=W.row.frozen 1;have bG:(E.alloc (.cells #[U V i] 3)).ownsRow B 3 1 (Y af (l).length ag) (l).length (Aq (l)):=(by have:=W.places;rw[Aa au]at this;exact jV this _);have s5:(E.alloc (.cells #[U V i] 3)).cell? ⟨d,1,none⟩=X (Y af (l).length ag):=(by have:=(W.row.alloc (.cells #[U V i] 3)).cell 1;rw[Aa au]at this;exact this);have bH:=World.news_of_block (jm E (.cells #[U V i] 3));have a2:Ag (E.alloc (.cells #[U V i] 3)) d #[_,_] 227:=W.row.alloc (.cells #[U V i] 3))
    |(refine step_append_lies _ rfl _ _ 24 rfl B 3 ba (U V 0) 1 8 underlying24 bb bc bd bf rfl (by decide) (Y af (l).length ag) (l).length (Aq (l)) rfl bG ⟨E.heap.size,0,none⟩ 1 1 [U V i] rfl rfl bH (by intro u A;simp at A;rcases A with rfl;rfl) (by decide) (by unfold maxLen;omega) (by omega) (by simp;omega) _ rfl ?_;intro bI bJ a3 bK a4 bL cA;have a5:Ag a3 d #[_,_] 227:=⟨(a4.block d a2.lt (fun e=>cu e.symm)).trans a2.out⟩;have aG:=a5.cell 1;have aY:=a5.frozen 1))
   all_goals
    have bM:(E.alloc (.cells #[U V i] 3)).grownBy a3 (aj).ownBlock:=by rw[Aa au];exact a4
    obtain⟨a6,bN⟩:=W.pushP (g7:=bI) (c7:=bJ) _ i cx bM bK (by rw[Aa au];exact bL.imp id (fun e=>by rw[e];simp));have ar:=bF.trans bN;clear bK a4 bL cA bM s1 cy cz s5 aG aY a5 a2 bH bG C8 W bD bF bN;generalize a3.setCell ⟨d,1,none⟩ (Y (X ⟨bI,0,none⟩) ((l).length+1) bJ)=cB at a6 ar|-;have aG:cB.cell? ⟨d,0,none⟩=X (Y (X ⟨g7,0,none⟩) ((c).length+1) c7):=a6.row.cell 0;go_wp2_with fail
    go_ret
    obtain⟨e1,e2,e3,e4,J,L⟩:=Aa ci;refine⟨congrArg (fun m:Nat=>Ending.returned (U V (m:Int))) ?_,_,_,G++[Y u x.names.length o],H++[Y ka ks.length kc],?_,ar,H8 e4 (Qg (Aa aZ))⟩
    ·simp only[zC,jY,List.length_nil,e1];omega
    ·rw[<-zT N,<-zT P,<-zT F,<-zT ah,<-e1,<-e2,<-e3,<-Aa ck];exact a6
theorem Ax:∀(e:Ex) (b:Nat),(DC e b).length=e.cnt
 |.int ..,_=>rfl
 |.text ..,_=>rfl
 |.bool ..,_=>rfl
 |.set ..,_=>rfl
 |.name ..,_=>rfl
 |.attr ..,_=>rfl
 |.lett ..,_=>rfl
 |.un _ _ k,b=>by simp[DC,Ex.cnt,Ax k]
 |.bin _ _ l r,b=>by simp[DC,Ex.cnt,Ax l,Ax r];omega
 |.ite _ c t e,b=>by simp[DC,Ex.cnt,Ax c,Ax t,Ax e];omega
theorem Gu:∀(e:Ex),(YT e).length=e.cnt
 |.int .. =>rfl
 |.text .. =>rfl
 |.bool .. =>rfl
 |.set .. =>rfl
 |.name .. =>rfl
 |.attr .. =>rfl
 |.lett .. =>rfl
 |.un _ _ k=>by simp[YT,Ex.cnt,Gu k]
 |.bin _ _ l a=>by simp[YT,Ex.cnt,Gu l,Gu a];omega
 |.ite _ c t e=>by simp[YT,Ex.cnt,Gu c,Gu t,Gu e];omega
def Ex.sok (w:Z):Ex->Prop
 |.set _ a n c ss=>Ap w a n c ss/\ss.length<=1048576
 |.un _ _ k=>k.sok w
 |.bin _ _ l r=>l.sok w/\r.sok w
 |.ite _ c t e=>c.sok w/\t.sok w/\e.sok w
 |_=>True
theorem Ex.sok_below {w w':Z}{B:Nat}(a:Below B w w')(hB:w.heap.size<=B):∀(e:Ex),e.sok w->e.sok w'
 |.int ..,h=>h
 |.text ..,h=>h
 |.bool ..,h=>h
 |.set ..,h=>⟨h.1.below a hB,h.2⟩
 |.name ..,h=>h
 |.attr ..,h=>h
 |.lett ..,h=>h
 |.un _ _ k,h=>k.sok_below (w:=w) a hB h
 |.bin _ _ l r,h=>⟨l.sok_below a hB h.1,r.sok_below a hB h.2⟩
 |.ite _ c t e,h=>⟨c.sok_below a hB h.1,t.sok_below a hB h.2.1,e.sok_below a hB h.2.2⟩
def Ex.kc (e:Ex):Kc:=⟨e.val,DC e,YT e,e.cnt⟩
theorem YV (e:Ex)(b:Nat):DC e b=kcN (e.kids.map Ex.kc) b++[{ CV e with kids:=kcI (e.kids.map Ex.kc) b }]/\YT e=kcP (e.kids.map Ex.kc)++[e.pos]/\e.cnt=Tp (e.kids.map Ex.kc)+1:=by
 cases e<;>simp[DC,YT,Ex.kids,Ex.kc,kcN,kcI,kcP,Tp,Ex.cnt,Ex.pos,CV]<;>omega
theorem Ex.sok_kid {e:Ex}(h:e.sok w):∀k∈e.kids,k.sok w:=by
 cases e<;>simp[Ex.kids]<;>simp_all[Ex.sok]
theorem Agq (B:Nat)(w0:Z)(hB:w0.heap.size<=B)(e:Ex)(h:e.sok w0)(ks:List Int)(w:Z)(b:Below B w0 w):jE j4 173 #[e.val] w (NdA { CV e with kids:=ks } w):=by
 by_cases hs:∃i a n c ss,e= .set i a n c ss
 ·obtain⟨i,a,n,c,ss,rfl⟩:=hs;exact AdS i a n c ss w (h.1.below b hB) h.2
 ·exact Ajo e (fun i a n c ss he=>hs ⟨i,a,n,c,ss,he⟩) w
theorem Wl (B a:Nat)(w0:Z)(hB:w0.heap.size<=B)(e:Ex)(h:e.sok w0):AdV B a w0 e.val (DC e) (YT e) e.cnt:=by
 obtain⟨T,v,d,c,hp⟩:=e.mth;have f:∀k∈e.kids.map Ex.kc,k.ok B a w0:=fun k c=>by
  obtain⟨x,hx,rfl⟩:=zg.1 c;have:=e.kids_lt x hx;exact⟨x.form,Wl B a w0 hB x (Ex.sok_kid h x hx),Ax x,Gu x⟩
 have:=Agp B a w0 T v e.pos (e.kids.map Ex.kc) (fun ks=>{ CV e with kids:=ks }) (fun _=>rfl) (by rw[z7];exact c) hp (by rw[ze];exact e.kids_3) (Ab fun ks w g=>by rw[<-d];exact Agq B w0 hB e h ks w g) (Ab f);rw[<-d,<-funext fun b=>(YV e b).1,<-(YV e 0).2.1,<-(YV e 0).2.2]at this;exact this
termination_by e.cnt
theorem Agr (a:Nat)(w:Z):jE j4 148 #[.pointer (X ⟨a,0,T⟩),.nilIface] w fun b w'=>b= .returned (U V (-1))/\w'=w:=by
 go_enter func148,ntmps148
 go_wp2_with fail
 go_ret
 exact⟨rfl,rfl⟩
structure Sx where
 at':Int
 kind:Int
 name:ByteArray
 cond:Option Ex
 grant:Option Ex
def AH:Option Ex->R
 |none=> .nilIface
 |some e=>e.val
def Gm (x:Sx):List R:= [U V x.at',U V x.kind,Q x.name,AH x.cond,AH x.grant]
def GN (S:List Sx):List R:=S.flatMap Gm
theorem Aak:∀(S:List Sx),(GN S).length=S.length*5
 |[]=>rfl
 |x ::S=>by
  have:=Aak S;rw[GN]at this|-;rw[zi,zC,this,jY];simp[Gm];omega
theorem Pw:∀(S:List Sx) (j:Nat) (h:j<S.length) (a:Nat),a<5->(GN S)[j*5+a]? =(Gm S[j])[a]?
 |x ::S,0,h,a,hr=>by
  rw[GN,zi,z0,zU,Z5 (by simp[Gm];omega)];simp
 |x ::S,j+1,h,a,hr=>by
  have b:=Pw S j (by simpa using h) a hr;rw[GN]at b|-;rw[zi,yL (by simp[Gm];omega)];have e:(j+1)*5+a-(Gm x).length=j*5+a:=by simp[Gm];omega
  rw[e,b];simp only[z8]
 |[],_,h,_,_=>absurd h (by simp)
def AF:Option Ex->Nat
 |none=>0
 |some e=>e.cnt
def Kk:Option Ex->Nat->List Nd
 |none,_=> []
 |some e,b=>DC e b
def plO:Option Ex->List Int
 |none=> []
 |some e=>YT e
def GD:Option Ex->Nat->Int
 |none,_=>-1
 |some e,b=>((b+e.cnt-1 :Nat):Int)
def VO (w:Z):Option Ex->Prop
 |none=>True
 |some e=>e.sok w
theorem FI (o:Option Ex)(b:Nat):(Kk o b).length=AF o:=by
 cases o
 ·rfl
 ·exact Ax _ _
theorem UB (o:Option Ex):(plO o).length=AF o:=by
 cases o
 ·rfl
 ·exact Gu _
def AM:Nat->List Sx->List Nd
 |_,[]=> []
 |b,x ::S=>Kk x.cond b++Kk x.grant (b+AF x.cond)++AM (b+AF x.cond+AF x.grant) S
def GX:List Sx->List Int
 |[]=> []
 |x ::S=>plO x.cond++plO x.grant++GX S
def BK:Nat->List Sx->List St
 |_,[]=> []
 |b,x ::S=>⟨x.kind,x.name,GD x.cond b,GD x.grant (b+AF x.cond)⟩ ::BK (b+AF x.cond+AF x.grant) S
def Bu (S:List Sx):Nat:=(S.map fun x=>AF x.cond+AF x.grant).sum
theorem A4 (x:Sx)(S:List Sx):Bu (x ::S)=AF x.cond+AF x.grant+Bu S:=by simp[Bu]
theorem El:∀(S:List Sx) (b:Nat),(AM b S).length=Bu S
 |[],_=>rfl
 |x ::S,b=>by rw[AM,zC,zC,FI,FI,El S,A4]
theorem Wm:∀(S:List Sx),(GX S).length=Bu S
 |[]=>rfl
 |x ::S=>by rw[GX,zC,zC,UB,UB,Wm S,A4]
theorem Fh:∀(S:List Sx) (b:Nat),(BK b S).length=S.length
 |[],_=>rfl
 |x ::S,b=>by rw[BK,jY,Fh S,jY]
theorem L7 (A B:List Sx):Bu (A++B)=Bu A+Bu B:=by simp[Bu]
theorem Nc (x:Sx):∀(S:List Sx) (b:Nat),AM b (S++[x])=AM b S++Kk x.cond (b+Bu S)++Kk x.grant (b+Bu S+AF x.cond)
 |[],b=>by simp[AM,Bu]
 |y ::S,b=>by
  rw[js,AM,AM,Nc x S,A4];have e:b+AF y.cond+AF y.grant+Bu S=b+(AF y.cond+AF y.grant+Bu S):=by omega
  rw[e];simp only[zT]
theorem Tr (x:Sx):∀(S:List Sx),GX (S++[x])=GX S++plO x.cond++plO x.grant
 |[]=>by simp[GX]
 |y ::S=>by
  rw[js,GX,GX,Tr x S];simp only[zT]
theorem Nf (x:Sx):∀(S:List Sx) (b:Nat),BK b (S++[x])=BK b S++[⟨x.kind,x.name,GD x.cond (b+Bu S),GD x.grant (b+Bu S+AF x.cond)⟩]
 |[],b=>by simp[BK,Bu]
 |y ::S,b=>by
  rw[js,BK,BK,Nf x S,A4];have e:b+AF y.cond+AF y.grant+Bu S=b+(AF y.cond+AF y.grant+Bu S):=by omega
  rw[e];rfl
theorem Ts (L:List St)(s:St):Dk (L++[s])=Dk L++[U V s.kind,Q s.name,U V s.cond,U V s.grant]:=by simp[Dk]
def AdR (B nb:Nat) (N:List Nd) (P:List Int) (nd pl:R) (nv kv:List R) (M:List Nd) (Q:List Int) (ix:Int) (w:Z) (r:Ending) (w':Z):Prop:=
 r= .returned (U V ix)/\∃nd' pl' nv' kv',OV w' B nb (N++M) (P++Q) nd' pl' (nv++nv') (kv++kv')/\Nk B nb nd pl w nd' pl' w'
theorem Ajq (B a:Nat)(w0:Z)(hB:w0.heap.size<=B)(o:Option Ex)(hs:VO w0 o)(N:List Nd)(P:List Int)(nd pl:R)(b c:List R)(w:Z)(d:Below B w0 w)(h:OV w B a N P nd pl b c)(h1:N.length+AF o<=65535)(h2:P.length+AF o<=65535):
  jE j4 148 #[.pointer (X ⟨a,0,T⟩),AH o] w (AdR B a N P nd pl b c (Kk o N.length) (plO o) (GD o N.length) w):=by
 cases o with
 |none=>exact(Agr a w).mono fun f w' ⟨e1,e2⟩=>⟨e1,nd,pl,[],[],by rw[e2];simpa[Kk,plO]using h,by rw[e2];exact Nk.refl _ _ _ _ _⟩
 |some e=>exact(Wl B a w0 hB e hs N P nd pl b c w d h h1 h2).mono fun f w' ⟨e1,g,i,j,k,l,m,_⟩=>⟨by rw[e1,Ax];rfl,g,i,j,k,l,m⟩
theorem OV.other {P:List Int}(h:OV w B c N P nd pl d f){v:R}(O:w.ownsRow lo 53 4 v m g)(b:∀q,q<w.heap.size->v.ownBlock≠X q->w'.heap[q]? =w.heap[q]?):OV w' B c N P nd pl d f:=
 ⟨⟨(b c h.row.lt (Ac h.row O (by decide))).trans h.row.out⟩,
   h.nodes.upto (fun q hq=>b q (h.nodes.lts.1 q hq).2 (fun e=>Ai O h.nodes.own (by decide) q e hq)) (fun j a q hq=>b q (h.nodes.lts.2.1 j a q hq).2 (fun e=>Ai O (h.nodes.names j (by rw[<-h.nodes.len];exact a) a) (by decide) q e hq)) (fun j a q hq=>b q (h.nodes.lts.2.2 j a q hq).2 (fun e=>Ai O (h.nodes.kids j (by rw[<-h.nodes.lenk];exact a) a) (by decide) q e hq)),
   Af h.places (fun q hq=>b q (h.places.lt q hq).2 (fun e=>Ai O h.places (by decide) q e hq)),h.apart,h.low⟩
theorem Nk.stm {a:Nat}{c d:R}{P:List Int}{f g:List R}(h:Nk B a nd pl w c d w')(C:OV w B a N P nd pl f g){v:R}{b:List R}(O:w.ownsRow lo 53 4 v m b):w'.ownsRow lo 53 4 v m b:=
 Af O (fun q hq=>h.block q (O.lt q hq).2 (fun e=>Ac C.row O (by decide) (by rw[hq,e])) (fun e=>Ai O C.nodes.own (by decide) q hq e) (fun e=>Ai O C.places (by decide) q hq e))
theorem Qs:∀(e:Ex) (b:Nat),DC e.st b=DC e b
 |.un i op k,b=>by rw[Ex.st,DC,DC,Qs k,Eo]
 |.bin i op l r,b=>by rw[Ex.st,DC,DC,Qs l,Eo,Eo,Qs r]
 |.ite i c t e,b=>by rw[Ex.st,DC,DC,Qs c,Eo,Eo,Eo,Qs t,Qs e]
 |.int ..,b=>rfl
 |.text ..,b=>rfl
 |.bool ..,b=>rfl
 |.set ..,b=>rfl
 |.name ..,b=>rfl
 |.attr ..,b=>rfl
 |.lett ..,b=>rfl
noncomputable def Ef (ls:List Ex) (x:Sx):Sx:=⟨x.at',x.kind,x.name,x.cond.map (AG ls),x.grant.map (AG ls)⟩
def Pg (ls:List Ex) (y:Sx):List Ex:=if y.kind=1 then ls++[y.cond.getD (.bool 0 jC)]else ls
noncomputable def Ce:List Ex->List Sx->List Sx
 |_,[]=> []
 |ls,x ::S=>Ef ls x ::Ce (Pg ls (Ef ls x)) S
def Ia (b:Bool):Option Ex->Bool
 |some e=>isB b e
 |none=>jC
def Bb:List Sx->List Sx
 |[]=> []
 |x ::S=>if x.kind=2/\Ia jC x.cond=jA then Bb S else if x.kind=2/\Ia jA x.cond=jA then [⟨x.at',3,⟨#[]⟩,T,x.grant⟩]else x ::Bb S
def usE (n:Int):Ex->Bool
 |.lett _ m=>decide (m=n)
 |.un _ _ k=>usE n k
 |.bin _ _ l r=>usE n l||usE n r
 |.ite _ c t e=>usE n c||(usE n t||usE n e)
 |_=>jC
def usO (n:Int):Option Ex->Bool
 |some e=>usE n e
 |none=>jC
def usS (n:Int) (x:Sx):Bool:=usO n x.cond||usO n x.grant
def EF:Option Ex->Bool
 |some e=>Ao e
 |none=>jA
def Ed:Int->List Sx->List (Sx×Int)
 |_,[]=> []
 |n,x ::S=>if x.kind=1 then (if !((Ed (n+1) S).any fun q=>usS n q.1)&&EF x.cond then Ed (n+1) S else (x,n) ::Ed (n+1) S)else (x,-1) ::Ed n S
def CC (K:List (Sx×Int)):List Int:=(K.filter fun q=>decide (q.1.kind=1)).map Prod.snd
def ixL (left:List Int) (n:Int):Int:=(left.idxOf n:Nat)
def Cr (left:List Int):Ex->Ex
 |.lett i n=> .lett i (ixL left n)
 |.un i op k=> .un i op (Cr left k)
 |.bin i op l r=> .bin i op (Cr left l) (Cr left r)
 |.ite i c t e=> .ite i (Cr left c) (Cr left t) (Cr left e)
 |e=>e
def MN (left:List Int) (x:Sx):Sx:=⟨x.at',x.kind,x.name,x.cond.map (Cr left),x.grant.map (Cr left)⟩
def Qt (X:List Sx):List Sx:=(Ed 0 X).map fun q=>MN (CC (Ed 0 X)) q.1
noncomputable def BM (X:List Sx):List Sx:=Qt (Bb (Ce [] X))
def Yo (ts:List Int):Option Ex->Prop
 |none=>True
 |some g=>Al ts g=X 4
def IE:List Int->List Sx->Prop
 |_,[]=>True
 |ts,x ::S=>(x.kind=1/\∃e t,x.cond=some e/\Al ts e=some t/\x.grant=T/\IE (ts++[t]) S)\/
  (x.kind=2/\(∃e,x.cond=some e/\Al ts e=some 1)/\Yo ts x.grant/\IE ts S)\/(x.kind=3/\x.cond=T/\Yo ts x.grant/\IE ts S)
theorem Fu.snoc {ls:List Ex}(b:Fu ts ls)(d:ls.length=ts.length){e:Ex}(h:Al ts e=X t):Fu (ts++[t]) (ls++[e]):=fun n c hc a=>by
 rcases Nat.lt_trichotomy n ls.length with h1|h1|h1
 ·rw[Z5 h1]at hc;obtain⟨v,hv,f⟩:=b n c hc a;exact⟨v,hv,by rw[Z5 (by omega)];exact f⟩
 ·subst h1;simp at hc;subst hc;obtain⟨v,hv⟩:=Option.isSome_iff_exists.1 a;refine⟨v,hv,?_⟩;rw[IX hv]at h;rw[d];simp;exact(Option.some.inj h).symm
 ·rw[yA (by simp;omega)]at hc;cases hc
theorem Aeh {ls:List Ex}(a:Fu ts ls):∀{g:Option Ex},Yo ts g->Yo ts (g.map (AG ls))
 |none,_=>trivial
 |some g,h=>BP a g 4 h
theorem JZ:∀(S:List Sx) (ts:List Int) (ls:List Ex),Fu ts ls->ls.length=ts.length->IE ts S->IE ts (Ce ls S)
 |[],_,_,_,_,_=>trivial
 |x ::S,ts,ls,hl,hn,h=>by
  rw[Ce];rcases h with⟨k,e,t,h1,h2,h3,h4⟩|⟨k,⟨e,h1,h2⟩,h3,h4⟩|⟨k,h1,h3,h4⟩
  ·have a:=BP hl e t h2;have e1:Pg ls (Ef ls x)=ls++[AG ls e]:=by rw[Pg,if_pos (show(Ef ls x).kind=1 from k)];simp[Ef,h1]
   refine .inl ⟨k,AG ls e,t,by simp[Ef,h1],a,by simp[Ef,h3],?_⟩;rw[e1];exact JZ S (ts++[t]) (ls++[AG ls e]) (hl.snoc hn a) (by simp[hn]) h4
  ·have e1:Pg ls (Ef ls x)=ls:=by rw[Pg,if_neg (show(Ef ls x).kind≠1 by show x.kind≠1;omega)]
   rw[e1];exact .inr (.inl ⟨k,⟨AG ls e,by simp[Ef,h1],BP hl e 1 h2⟩,Aeh hl h3,JZ S ts ls hl hn h4⟩)
  ·have e1:Pg ls (Ef ls x)=ls:=by rw[Pg,if_neg (show(Ef ls x).kind≠1 by show x.kind≠1;omega)]
   rw[e1];exact .inr (.inr ⟨k,by simp[Ef,h1],Aeh hl h3,JZ S ts ls hl hn h4⟩)
theorem IF:∀(S:List Sx) (ts:List Int),IE ts S->IE ts (Bb S)
 |[],_,_=>trivial
 |x ::S,ts,h=>by
  rw[Bb];rcases h with⟨k,e,t,h1,h2,h3,h4⟩|⟨k,h1,h3,h4⟩|⟨k,h1,h3,h4⟩
  ·rw[if_neg (by omega),if_neg (by omega)];exact .inl ⟨k,e,t,h1,h2,h3,IF S _ h4⟩
  ·split
   ·exact IF S ts h4
   ·split
    ·exact .inr (.inr ⟨rfl,rfl,h3,trivial⟩)
    ·exact .inr (.inl ⟨k,h1,h3,IF S ts h4⟩)
  ·rw[if_neg (by omega),if_neg (by omega)];exact .inr (.inr ⟨k,h1,h3,IF S ts h4⟩)
def tsL (ts:List Int) (l:List Int):List Int:=l.map fun m=>ts.getD m.toNat 0
theorem Md {ts f l:List Int} :∀(e:Ex) (t:Int),(∀m,usE m e=jA->0<=m->m.toNat<ts.length->m∈f)->Al ts e=X t->Al (tsL ts f) (Cr (f++l) e)=X t
 |.lett i n,t,hu,h=>by
  rw[Al]at h;split at h
  ·rename_i h0;have o:n.toNat<ts.length:=(zd.1 h).1;have hm:=hu n (by simp[usE]) h0 o;have hi:=List.idxOf_lt_length_iff.2 hm;rw[Cr,ixL,List.idxOf_append,if_pos hm,Al,if_pos (by omega),zV,tsL,zZ,zG hi,List.getElem_idxOf hi];simp only[Option.map_some,yC,h,Option.getD_some]
  ·cases h
 |.un i op k,t,hu,h=>by
  rw[Cr,Al];rw[Al]at h;cases g:Al ts k with
  |none=>rw[g]at h;cases h
  |some a=>rw[g]at h;rw[Md k a (fun m hm=>hu m (by simp[usE,hm])) g];exact h
 |.bin i op x y,t,hu,h=>by
  rw[Cr,Al];rw[Al]at h;cases hx:Al ts x with
  |none=>rw[hx]at h;cases h
  |some a=>
   cases hy:Al ts y with
   |none=>rw[hx,hy]at h;cases h
   |some b=>rw[hx,hy]at h;rw[Md x a (fun m hm=>hu m (by simp[usE,hm])) hx,Md y b (fun m hm=>hu m (by simp[usE,hm])) hy];exact h
 |.ite i x y z,t,hu,h=>by
  rw[Cr,Al];rw[Al]at h;cases hx:Al ts x with
  |none=>rw[hx]at h;cases h
  |some a=>
   cases hy:Al ts y with
   |none=>rw[hx,hy]at h;cases h
   |some b=>
    cases j:Al ts z with
    |none=>rw[hx,hy,j]at h;cases h
    |some d=>rw[hx,hy,j]at h;rw[Md x a (fun m hm=>hu m (by simp[usE,hm])) hx,Md y b (fun m hm=>hu m (by simp[usE,hm])) hy,Md z d (fun m hm=>hu m (by simp[usE,hm])) j];exact h
 |.int i n,t,_,h=>h
 |.text i n,t,_,h=>h
 |.bool i n,t,_,h=>h
 |.set i a n c ss,t,_,h=>h
 |.name i n,t,_,h=>by cases h
 |.attr i n,t,_,h=>h
theorem Aei {b:List Int}{g:Option Ex}(c:∀m,usO m g=jA->0<=m->m.toNat<ts.length->m∈a)(h:Yo ts g):Yo (tsL ts a) (g.map (Cr (a++b))):=by
 cases g with
 |none=>trivial
 |some e=>exact Md e 4 c h
theorem Aej (b:∀m∈a,m.toNat<ts.length)(n:Nat)(c:n=ts.length):tsL (ts++[t]) (a++[(n:Int)])=tsL ts a++[t]:=by
 subst c;rw[tsL,tsL,zR,jd,List.map_nil]
 congr 1
 ·refine List.map_congr_left (fun m hm=>?_);rw[yC,yC,Z5 (b m hm)]
 ·simp
theorem Aek (b:∀m∈a,m.toNat<ts.length):tsL (ts++[t]) a=tsL ts a:=
 List.map_congr_left (fun m hm=>by rw[yC,yC,Z5 (b m hm)])
theorem Pt {x:Sx}{n:Int}{K:List (Sx×Int)}(h:x.kind=1):CC ((x,n) ::K)=n ::CC K:=by simp[CC,h]
theorem FR {x:Sx}{n:Int}{K:List (Sx×Int)}(h:x.kind≠1):CC ((x,n) ::K)=CC K:=by simp[CC,h]
theorem Qu:∀(S:List Sx) (ts b:List Int),(∀m∈b,m.toNat<ts.length)->(∀q∈Ed (ts.length:Nat) S,∀m,usS m q.1=jA->0<=m->m.toNat<ts.length->m∈b)->IE ts S->
  IE (tsL ts b) ((Ed (ts.length:Nat) S).map fun q=>MN (b++CC (Ed (ts.length:Nat) S)) q.1)
 |[],_,_,_,_,_=>trivial
 |x ::S,ts,b,hl,hu,h=>by
  rcases h with⟨k,e,t,h1,h2,h3,h4⟩|⟨k,⟨e,h1,h2⟩,h3,h4⟩|⟨k,h1,h3,h4⟩
  ·have en:((ts.length:Nat):Int)+1=((ts++[t]).length:Nat):=by simp
   rw[Ed,if_pos k]at hu|-;rw[en]at hu|-;have f:∀m∈b,m.toNat<(ts++[t]).length:=fun m hm=>by have:=hl m hm;simp;omega
   split
   ·rename_i d;rw[if_pos d]at hu;have i:∀q∈Ed ((ts++[t]).length:Nat) S,usS ((ts.length:Nat):Int) q.1=jC:=fun q hq=>by
     simp only[zF,Bool.not_eq_true',List.any_eq_false]at d;simpa using d.1 q hq
    have:=Qu S (ts++[t]) b f (fun q hq m hm h0 c=>by
     rcases Nat.lt_or_ge m.toNat ts.length with a|a
     ·exact hu q hq m hm h0 a
     ·have:m=((ts.length:Nat):Int):=by simp at c;omega
      rw[this,i q hq]at hm;cases hm) h4
    rw[Aek hl]at this;exact this
   ·rename_i d;rw[if_neg d]at hu;have g:=Qu S (ts++[t]) (b++[((ts.length:Nat):Int)]) (fun m hm=>by
     rcases zN.1 hm with hm|hm
     ·exact f m hm
     ·rw[zS.1 hm];simp) (fun q hq m hm h0 c=>by
     rcases Nat.lt_or_ge m.toNat ts.length with a|a
     ·exact Z7 _ (hu q (zf _ hq) m hm h0 a)
     ·have:m=((ts.length:Nat):Int):=by simp at c;omega
      rw[this];simp) h4
    rw[Aej hl ts.length rfl]at g;rw[Pt k];have j:b++((ts.length:Nat):Int) ::CC (Ed ((ts++[t]).length:Nat) S)=(b++[((ts.length:Nat):Int)])++CC (Ed ((ts++[t]).length:Nat) S):=by simp
    rw[jd];refine .inl ⟨k,Cr (b++((ts.length:Nat):Int) ::CC (Ed ((ts++[t]).length:Nat) S)) e,t,by simp[MN,h1],Md e t (fun m hm h0 c=>hu _ (za ..) m (by simp[usS,h1,usO,hm]) h0 c) h2,by simp[MN,h3],?_⟩;rw[j];exact g
  ·rw[Ed,if_neg (by omega)]at hu|-;rw[FR (by omega),jd];refine .inr (.inl ⟨k,⟨Cr (b++CC (Ed (ts.length:Nat) S)) e,by simp[MN,h1],Md e 1 (fun m hm h0 c=>hu _ (za ..) m (by simp[usS,h1,usO,hm]) h0 c) h2⟩,Aei (fun m hm h0 c=>hu _ (za ..) m (by simp[usS,hm]) h0 c) h3,Qu S ts b hl (fun q hq=>hu q (zf _ hq)) h4⟩)
  ·rw[Ed,if_neg (by omega)]at hu|-;rw[FR (by omega),jd];refine .inr (.inr ⟨k,by simp[MN,h1],Aei (fun m hm h0 c=>hu _ (za ..) m (by simp[usS,hm]) h0 c) h3,Qu S ts b hl (fun q hq=>hu q (zf _ hq)) h4⟩)
theorem UE {X:List Sx}(h:IE [] X):IE [] (BM X):=by
 have h1:=JZ X [] [] (fun n c hc=>by simp at hc) rfl h;have h2:=IF _ [] h1;have:=Qu (Bb (Ce [] X)) [] [] (fun m hm=>by cases hm) (fun q hq m hm h0 a=>by simp at a) h2;exact this
def okV:Vv->Prop
 |.int n=>Di n
 |.set ss=>ss.length<=1048576
 |_=>True
def Ib:Ex->Prop
 |.int _ n=>Di n
 |.set _ _ _ _ ss=>ss.length<=1048576
 |.un _ _ k=>Ib k
 |.bin _ _ l r=>Ib l/\Ib r
 |.ite _ c t e=>Ib c/\Ib t/\Ib e
 |_=>True
theorem Aib (v:Vv)(h:okV v):Ib v.ex:=by cases v<;>exact h
theorem Aic {e:Ex}(h:e.cv=X v)(a:Ib e):okV v:=by
 cases e<;>simp only[Ex.cv]at h<;>first|(cases h;exact a)|(cases h;trivial)|cases h
theorem Tx {p:Int×Int}(h:DF p= .ok v)(hp:p.2=0->Di p.1):okV v:=by
 unfold DF at h;split at h
 ·cases h;exact hp ‹_›
 ·cases h
theorem Aid (v:Int):(fit v).2=0->Di (fit v).1:=fun h=>by
 unfold fit at*;split at h
 ·rename_i q;rw[if_pos q];exact⟨q.1,q.2⟩
 ·cases h
theorem WI (op a b:Int):(AZ op a b).2=0->Di (AZ op a b).1:=fun h=>by
 unfold AZ Vp Uj at*
 repeat' split at h
 all_goals first|(simp only[*,if_true,if_false]at*;exact Aid _ h)|(simp_all;done)|skip
theorem AgE {op:Int}(hv:okV v)(h:GV op v= .ok u):okV u:=by
 cases v with
 |int n=>simp only[GV]at h;split at h
         ·exact Tx h (WI _ _ _)
         ·cases h
 |bool b=>simp only[GV]at h;split at h<;>cases h;trivial
 |set ss=>
  simp only[GV]at h;split at h
  ·cases h;have:ss.length<=1048576:=hv;exact⟨by omega,by omega⟩
  ·cases h
 |text s=>cases h
theorem Ael {ss tt:List ByteArray}(h:EV (Jg ss tt)= .ok v):okV v:=by
 unfold EV at h;split at h
 ·cases h;rename_i a;unfold Jg at*;split at a
  ·rename_i hp;rw[dif_pos hp];have q:=Classical.choose_spec hp;cases hv:(AC ss&&AC tt)with
   |false=>have:=(q.bad hv).2;rw[a]at this;cases this
   |true=>
    obtain⟨M,_,h1,h2⟩:=q.good hv;by_cases b:M.length<=64
    ·show(Classical.choose hp).1.length<=1048576;rw[(h2 b).1];omega
    ·have:=(h1 (by omega)).2;rw[a]at this;cases this
  ·cases a
 ·cases h
theorem WJ {op:Int}{w u:Vv}(hv:okV v)(a:okV w)(h:Ch op v w= .ok u):okV u:=by
 unfold Ch at h;split at h
 ·cases h;trivial
 split at h
 ·cases h;trivial
 split at h
 ·split at h<;>cases h;trivial
 ·rename_i ss tt;have hs:ss.length<=1048576:=hv;split at h
  ·exact Ael h
  split at h
  ·cases h;show(BR ss tt).length<=1048576;unfold BR;split
   ·exact zB (H7 _ _ _) hs
   ·exact zD _
  split at h
  ·cases h;show(Bc ss tt).length<=1048576;unfold Bc;split
   ·exact zB (H7 _ _ _) hs
   ·exact zD _
  split at h<;>cases h
  trivial
 ·split at h
  ·cases h;trivial
  split at h
  ·cases h;trivial
  split at h
  ·exact Tx h (WI _ _ _)
  ·cases h
 ·cases h
theorem IG {e:Ex}(hc:e.con=jA)(a:Ib e)(h:DI Sw [] e= .ok v):okV v:=by
 cases e<;>first|(cases h;exact a)|(cases h;trivial)|cases hc
theorem Aem {e c:Ex}(a:Ib e)(h:Ar e=X c):Ib c:=by
 unfold Ar at h;split at h
 ·cases h
 split at h
 ·rename_i g;split at h
  ·rename_i v hv;cases h;refine Aib v ?_;cases e with
   |un i op k=>
    rw[DI]at hv;have n:k.con=jA:=by simpa[Ex.kids]using g
    cases hq:DI Sw [] k with
    |err c=>rw[hq]at hv;cases hv
    |ok x=>rw[hq]at hv;exact AgE (IG n a hq) hv
   |bin i op l j=>
    rw[DI]at hv;have d:l.con=jA/\j.con=jA:=by simpa[Ex.kids]using g
    cases hq:DI Sw [] l with
    |err c=>rw[hq]at hv;cases hv
    |ok x=>
     rw[hq]at hv;dsimp only at hv;split at hv
     ·cases hv;exact IG d.1 a.1 hq
     ·cases f:DI Sw [] j with
      |err c=>rw[f]at hv;cases hv
      |ok y=>
       rw[f]at hv;dsimp only at hv
       first
       |exact WJ (IG d.1 a.1 hq) (IG d.2 a.2 f) hv
       |(split at hv
         ·cases hv;exact IG d.2 a.2 f
         ·exact WJ (IG d.1 a.1 hq) (IG d.2 a.2 f) hv)
   |ite i x y z=>
    rw[DI]at hv;have m:x.con=jA/\y.con=jA/\z.con=jA:=by simpa[Ex.kids]using g
    cases hq:DI Sw [] x with
    |err c=>rw[hq]at hv;cases hv
    |ok b=>
     rw[hq]at hv;cases b with
     |bool b=>cases b
              ·exact IG m.2.2 a.2.2 hv
              ·exact IG m.2.1 a.2.1 hv
     |_=>cases hv
   |_=>simp[Ex.kids]at*
  ·cases h
 ·cases h
theorem Aen {ls:List Ex}(B:∀c∈ls,Ib c){e c:Ex}(f:Ib e)(h:AR ls e=X c):Ib c:=by
 cases e with
 |lett i n=>
  rw[AR]at h;split at h
  ·rename_i d C;split at h
   ·cases h;exact B _ (zp C)
   ·cases h
  ·cases h
 |un i op k=>
  rw[AR]at h;split at h
  ·cases k with
   |un D o j=>
    rw[Np]at h;split at h<;>cases h
    exact f
   |_=>cases h
  ·cases h
 |bin i op x y=>
  rw[AR]at h;have a:∀{z:Ex},z=x\/z=y->Ib z:=fun q=>q.elim (fun e=>e ▸ f.1) (fun e=>e ▸ f.2);by_cases g:op=25
  ·subst g;exact a (En h)
  by_cases l:op=26
  ·subst l;exact a (En h)
  by_cases m:op=16
  ·subst m;exact a (H9 h)
  by_cases p:op=17
  ·subst p;exact a (JX h)
  by_cases r:op=18
  ·subst r;rcases JF h with e|e
   ·exact a (.inl e)
   ·rw[e];exact zD _
  by_cases h11:op=11
  ·subst h11;exact a (Nq h)
  by_cases h12:op=12
  ·subst h12;exact a (DQ h)
  by_cases h13:op=13
  ·subst h13;exact a (JY h)
  by_cases h14:op=14
  ·subst h14;exact a (DQ h)
  by_cases s:op=19
  ·subst s;obtain⟨b,rfl⟩:=AX h;trivial
  by_cases t:op=22
  ·subst t;obtain⟨b,rfl⟩:=AX h;trivial
  by_cases u:op=20
  ·subst u;obtain⟨b,rfl⟩:=AX h;trivial
  by_cases v:op=21
  ·subst v;obtain⟨b,rfl⟩:=AX h;trivial
  by_cases w:op=24
  ·subst w;obtain⟨b,rfl⟩:=Fi h;trivial
  by_cases A:op=23
  ·subst A;obtain⟨b,rfl⟩:=Mc h;trivial
  simp[CS,g,l,m,p,r,h11,h12,h13,h14,s,t,u,v,w,A]at h
 |ite i x y z=>
  rw[AR]at h
  repeat' split at h
  all_goals first|(cases h;first|exact f.2.1|exact f.2.2)|cases h
 |_=>cases h
theorem GH {ls:List Ex}(b:∀c∈ls,Ib c){e:Ex}(a:Ib e):Ib (FL ls e):=by
 unfold FL;cases hf:Ar e with
 |some c=>exact Aem a hf
 |none=>
  cases d:AR ls e with
  |none=>exact a
  |some c=>exact Aen b a d
theorem Ge {ls:List Ex}(b:∀c∈ls,Ib c):∀(e:Ex),Ib e->Ib (AG ls e)
 |.un i op k,h=>by rw[AG];exact GH b (show Ib (.un i op _)from Ge b k h)
 |.bin i op x y,h=>by rw[AG];exact GH b (show Ib (.bin i op _ _)from⟨Ge b x h.1,Ge b y h.2⟩)
 |.ite i x y z,h=>by rw[AG];exact GH b (show Ib (.ite i _ _ _)from⟨Ge b x h.1,Ge b y h.2.1,Ge b z h.2.2⟩)
 |.int i n,h=>by rw[AG];exact GH b h;all_goals (intros;simp_all)
 |.text i n,h=>by rw[AG];exact GH b h;all_goals (intros;simp_all)
 |.bool i n,h=>by rw[AG];exact GH b h;all_goals (intros;simp_all)
 |.set i a n c ss,h=>by rw[AG];exact GH b h;all_goals (intros;simp_all)
 |.name i n,h=>by rw[AG];exact GH b h;all_goals (intros;simp_all)
 |.attr i n,h=>by rw[AG];exact GH b h;all_goals (intros;simp_all)
 |.lett i n,h=>by rw[AG];exact GH b h;all_goals (intros;simp_all)
noncomputable def Kw:List Ex->List Sx->List (Sx×Int)
 |_,[]=> []
 |ls,x ::S=>
  if x.kind=1 then (Ef ls x,(ls.length:Int)) ::Kw (Pg ls (Ef ls x)) S
  else if x.kind=2/\Ia jC (Ef ls x).cond=jA then Kw ls S
  else if x.kind=2/\Ia jA (Ef ls x).cond=jA then [(⟨x.at',3,⟨#[]⟩,T,(Ef ls x).grant⟩,0)]
  else if x.kind=3 then [(Ef ls x,0)]
  else (Ef ls x,0) ::Kw ls S
def Qv:Int->List Sx->List (Sx×Int)
 |_,[]=> []
 |n,x ::S=>if x.kind=1 then (x,n) ::Qv (n+1) S else (x,0) ::Qv n S
def AgF:List Sx->Prop
 |[]=>True
 |x ::S=>(x.kind=3->S=[])/\AgF S
theorem Qw:∀(S:List Sx) (ls:List Ex),AgF S->Kw ls S=Qv ls.length (Bb (Ce ls S))
 |[],_,_=>rfl
 |x ::S,ls,h=>by
  have a:(Ef ls x).kind=x.kind:=rfl;rw[Kw,Ce,Bb,a];by_cases h1:x.kind=1
  ·rw[if_pos h1,if_neg (by omega),if_neg (by omega),Qv,if_pos (show(Ef ls x).kind=1 from h1),Qw S _ h.2];have:(Pg ls (Ef ls x)).length=ls.length+1:=by rw[Pg,if_pos (show(Ef ls x).kind=1 from h1)];simp
   rw[this];simp
  ·have b:Pg ls (Ef ls x)=ls:=by rw[Pg,if_neg (show(Ef ls x).kind≠1 from h1)]
   rw[if_neg h1,b];split
   ·exact Qw S ls h.2
   ·split
    ·rw[Qv,if_neg (show ¬ (3 :Int)=1 by decide),Qv];rfl
    ·rw[Qv,if_neg (show(Ef ls x).kind≠1 from h1),<-Qw S ls h.2];split
     ·rename_i h3;rw[h.1 h3,Kw]
     ·rfl
def Ke:List (Sx×Int)->List (Sx×Int)
 |[]=> []
 |q ::D=>if q.1.kind=1/\((Ke D).any fun r=>usS q.2 r.1)=jC/\EF q.1.cond=jA then Ke D else q ::Ke D
def Ic (q:Sx×Int):Sx×Int:=if q.1.kind=1 then q else (q.1,0)
theorem UI:∀(S:List Sx) (n:Int),Ke (Qv n S)=(Ed n S).map Ic
 |[],_=>rfl
 |x ::S,n=>by
  rw[Qv,Ed];have b:∀(m:Int) (K:List (Sx×Int)),((K.map Ic).any fun a=>usS m a.1)=K.any fun a=>usS m a.1:=fun m K=>by
   rw[List.any_map]
   congr 1
   funext q
   show usS m (Ic q).1=usS m q.1;unfold Ic;split<;>rfl
  by_cases h1:x.kind=1
  ·rw[if_pos h1,if_pos h1,Ke,UI S (n+1),b];cases c:(Ed (n+1) S).any fun q=>usS n q.1 with
   |true=>simp[Ic,h1]
   |false=>
    cases hs:EF x.cond with
    |true=>simp[h1]
    |false=>simp[Ic,h1]
  ·rw[if_neg h1,if_neg h1,Ke,if_neg (fun e=>h1 e.1),UI S n];simp[Ic,h1]
theorem Aeo (K:List (Sx×Int)):CC (K.map Ic)=CC K:=by
 unfold CC;rw[List.filter_map];have e1:(K.filter ((fun q=>decide (q.1.kind=1)) ∘ Ic))=K.filter fun q=>decide (q.1.kind=1):=by
  congr 1
  funext q
  show decide ((Ic q).1.kind=1)=decide (q.1.kind=1);unfold Ic;split<;>rfl
 rw[e1,z7];refine List.map_congr_left (fun q hq=>?_);have:=of_decide_eq_true (List.mem_filter.1 hq).2;show(Ic q).2=q.2;rw[Ic,if_pos this]
theorem AgG (K:List (Sx×Int)):(K.map Ic).map Prod.fst=K.map Prod.fst:=by
 rw[z7];refine List.map_congr_left (fun q _=>?_);show(Ic q).1=q.1;unfold Ic;split<;>rfl
theorem Acc (X:List Sx)(h:AgF X):BM X=((Ke (Kw [] X)).map Prod.fst).map (MN (CC (Ke (Kw [] X)))):=by
 have e:Ke (Kw [] X)=(Ed 0 (Bb (Ce [] X))).map Ic:=by rw[Qw X [] h];exact UI _ 0
 rw[e,Aeo,AgG,BM,Qt,z7];rfl
theorem Aez {j:Nat}(h:j<bs.length)(h1:(bs.take j).any id=jC)(h2:bs[j]=jC):(bs.take (j+1)).any id=jC:=by
 rw[zQ h,List.any_append,h1];simp[h2]
theorem AgV {j:Nat}(h:j<bs.length)(h2:bs[j]=jA):bs.any id=jA:=
 List.any_eq_true.2 ⟨bs[j],zH h,by simp[h2]⟩
theorem J0 (n op num:Int)(text:ByteArray)(an:Option Addr)(nn cn:Nat)(ka:Option Addr)(m kc:Nat)(hm:m<=1048576)(a:List K5)(v:a.length=m)(bs:List Bool)(x:bs.length=m)(w:Z)(y:BT w ka a)
  (z:∀j,(h1:j<a.length)->(h2:j<bs.length)->∀r,Ah w r->jE j4 16 #[jG #[U V a[j].op,U V a[j].num,Q a[j].text,Y a[j].an a[j].nn a[j].cn,Y a[j].ka a[j].kn a[j].kc],U V n] r (AJ bs[j] r)):
  jE j4 16 #[jG #[U V op,U V num,Q text,Y an nn cn,Y ka m kc],U V n] w (AJ (decide (op=7/\num=n)||bs.any id) w):=by
 have c:=Av w (BV op num text an nn cn ka m kc);have W:=Ab z;have aa:=Ab v;have A:=Ab x;have B:=y.below c NLN;clear z v x y;by_cases d:op=7/\num=n
 ·have g:=Ab (show(decide (op=7/\num=n)||bs.any id)=jA by rw[zL d];rfl);have e7:(op==7)=jA:=zM.2 d.1;have en:(num==n)=jA:=zM.2 d.2;clear d;go_enter func16,ntmps16
  go_wp2_with fail
  go_ret
  exact⟨by rw[Aa g];rfl,c⟩
 ·have g:=Ab (show(decide (op=7/\num=n)||bs.any id)=bs.any id by rw[zJ d];rfl);have hc:((op==7)=jC/\(num==n)=(num==n))\/((op==7)=jA/\(num==n)=jC):=by
   by_cases h:op=7
   ·exact .inr ⟨zM.2 h,zA.2 (fun e=>d ⟨h,e⟩)⟩
   ·exact .inl ⟨zA.2 h,rfl⟩
  clear d;generalize (decide (op=7/\num=n)||bs.any id)=zz at g|-;rcases hc with⟨e7,en⟩|⟨e7,en⟩
  all_goals
   go_enter func16,ntmps16
   go_wp2_with fail
   generalize w.alloc (BV op num text an nn cn ka m kc)=ab at c B|-;go_loopw [19] (fun i wr=>∃j:Nat,j<=m/\i=U V j/\Ah ab wr/\Hid ((bs.take j).any id=jC)) (fun i _=>m-(intOf i).toNat)
   case atStart=>exact⟨0,zD _,rfl,BRN,Ab rfl⟩
   case round=>
    obtain⟨j,af,rfl,f,C⟩:=hrel;by_cases o:j<m
    ·have ag:(j:Int)<(m:Int):=by omega
     have s:j<a.length:=by rw[Aa aa];exact o
     have p:j<bs.length:=by rw[Aa A];exact o
     obtain⟨b,ah,rfl,ai,hc⟩:=(B.below f NLN) j s;have t:=hc 0 (by decide);have c1:=hc 1 (by decide);have c2:=hc 2 (by decide);have c3:=hc 3 (by decide);have c4:=hc 4 (by decide);simp only[K5.cs,zX,yG,z6]at t c1 c2 c3 c4;have q:=Ab (Aa W j s p);have D:=Ab (show bs[j]=jC->(bs.take (j+1)).any id=jC from fun h=>Aez p (Aa C) h);have E:=Ab (show bs[j]=jA->bs.any id=jA from fun h=>AgV p h);have F:=Ab o;generalize a[j]=k at t c1 c2 c3 c4 q;generalize bs[j]=ac at q D E;obtain⟨G,H,I,J,K,L,M,N,O⟩:=k;dsimp only at t c1 c2 c3 c4 q;clear hc o s p;have P:=c.trans (f.mono c.size);have u:=Av wr (BV G H I J K L M N O);have ad:=P.trans (u.mono P.size);obtain⟨aj,d1,d2,d3,d4,_⟩:=AP (Ag.new wr #[U V G,U V H,Q I,Y J K L,Y M N O] 48);go_wp2_with fail
     refine(Aa q _ ad).mono ?_;rintro ak al ⟨rfl,ae⟩;have S:=(f.trans (u.mono f.size)).trans (ae.mono (zB f.size u.size));cases ac with
     |true=>
      have l:=Ab (Aa E rfl);dsimp only;go_wp2_with fail
      go_ret
      exact⟨by rw[Aa g,Aa l];rfl,c.trans (S.mono c.size)⟩
     |false=>
      have l:=Ab (Aa D rfl);dsimp only;go_wp2_with fail
      go_roundw
      case rel=>exact⟨j+1,Aa F,by go_num,S,l⟩
      case measure=>have:=Aa F;simp[intOf];omega
    ·have e:j=m:=by omega
     subst e;have l:=Ab (show bs.any id=jC by rw[<-Aa C,zY (by rw[Aa A];exact NLN)]);go_wp2_with fail
     go_ret
     exact⟨by rw[Aa g,Aa l];rfl,c.trans (f.mono c.size)⟩
theorem EP {n:Int}{e:Ex}{k:K5}(a:e.kids=[])(h:Tq w e k)(b:usE n e=decide (k.op=7/\k.num=n)):jE j4 16 #[jG #[U V k.op,U V k.num,Q k.text,Y k.an k.nn k.cn,Y k.ka k.kn k.kc],U V n] w (AJ (usE n e) w):=by
 have:=J0 n k.op k.num k.text k.an k.nn k.cn k.ka 0 k.kc (by decide) [] rfl [] rfl w (CW w _) (fun j a1=>absurd a1 (by simp));rw[h.leaf a,b];simpa using this
theorem JI (n:Int):∀(e:Ex) (k:K5) (w:Z),Tq w e k->Be e=jA->jE j4 16 #[jG #[U V k.op,U V k.num,Q k.text,Y k.an k.nn k.cn,Y k.ka k.kn k.kc],U V n] w (AJ (usE n e) w)
 |.un i op c,k,w,h,ho=>by
  obtain⟨h1,h2,h3,h4,h5,a,h6,h7⟩:=h;simp only[Be,zF,zI]at ho;have e0:usE n (.un i op c)=(decide (k.op=7/\k.num=n)||[usE n c].any id):=by
   rw[usE,zJ (by rw[h1];omega)];simp
  rw[e0,h5];exact J0 n k.op k.num k.text k.an k.nn k.cn k.ka 1 k.kc (by decide) [a] rfl [usE n c] rfl w h6 (fun j a1 a2 b d=>by
   match j,a1 with
   |0,_=>exact JI n c a b (h7.below d NLN) ho.2)
 |.bin i op l r,k,w,h,ho=>by
  obtain⟨h1,h2,h3,h4,h5,a,f,h6,h7,h8⟩:=h;simp only[Be,zF,zI]at ho;have e0:usE n (.bin i op l r)=(decide (k.op=7/\k.num=n)||[usE n l,usE n r].any id):=by
   rw[usE,zJ (by rw[h1];omega)];simp
  rw[e0,h5];exact J0 n k.op k.num k.text k.an k.nn k.cn k.ka 2 k.kc (by decide) [a,f] rfl [usE n l,usE n r] rfl w h6 (fun j a1 a2 b d=>by
   match j,a1 with
   |0,_=>exact JI n l a b (h7.below d NLN) ho.2.1
   |1,_=>exact JI n r f b (h8.below d NLN) ho.2.2)
 |.ite i c t e,k,w,h,ho=>by
  obtain⟨h1,h2,h3,h4,h5,a,f,g,h6,h7,h8,h9⟩:=h;simp only[Be,zF]at ho;have e0:usE n (.ite i c t e)=(decide (k.op=7/\k.num=n)||[usE n c,usE n t,usE n e].any id):=by
   rw[usE,zJ (by rw[h1];omega)];simp
  rw[e0,h5];exact J0 n k.op k.num k.text k.an k.nn k.cn k.ka 3 k.kc (by decide) [a,f,g] rfl [usE n c,usE n t,usE n e] rfl w h6 (fun j a1 a2 b d=>by
   match j,a1 with
   |0,_=>exact JI n c a b (h7.below d NLN) ho.1
   |1,_=>exact JI n t f b (h8.below d NLN) ho.2.1
   |2,_=>exact JI n e g b (h9.below d NLN) ho.2.2)
 |.int ..,k,w,h,ho=>EP rfl h (by rw[h.op];simp[usE,EZ,CV])
 |.text ..,k,w,h,ho=>EP rfl h (by rw[h.op];simp[usE,EZ,CV])
 |.bool ..,k,w,h,ho=>EP rfl h (by rw[h.op];simp[usE,EZ,CV])
 |.set ..,k,w,h,ho=>EP rfl h (by rw[h.op];simp[usE,EZ,CV])
 |.name ..,k,w,h,ho=>EP rfl h (by rw[h.op];simp[usE,EZ,CV])
 |.attr ..,k,w,h,ho=>EP rfl h (by rw[h.op];simp[usE,EZ,CV])
 |.lett ..,k,w,h,ho=>EP rfl h (by rw[h.op,h.num];simp[usE,EZ,Acg,CV])
end Go.Proofs.YteiieikcjcfkkaaGreatDoor

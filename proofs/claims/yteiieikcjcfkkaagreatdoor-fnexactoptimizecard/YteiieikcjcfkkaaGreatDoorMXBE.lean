import Derived.Test.YteiieikcjcfkkaaGreatDoorMXBD
import Derived.Test.YteiieikcjcfkkaaGreatDoorMXBF
import Derived.Test.YteiieikcjcfkkaaGreatDoorMXBG
import Derived.Deep.OwnRows
import Derived.Test.YteiieikcjcfkkaaGreatDoorMXBL
open Go.Proofs.Tryz
open Option renaming none->T,some->X
open Go.Value renaming int->U,slice->Y,string->Q,iface->jB,agg->jG,nilIface->jL,ownBlock->ja
open Go.IntKind renaming i64->V
open Go renaming World->Z,Value->R,Addr->jD,Calls->jE,TypeId->jJ,maxLen->jM,bodyPost_ret->jN,results->jR,info_parts->jZ,heap_setCell_other->jc,wpList_append_lies->jj,heap_alloc_new->jm
open Bool renaming true->jA,false->jC
open Go.Obj renaming cells->jF
open Go.Ending renaming returned->jH
open And renaming intro->jS
open ByteArray renaming empty->jU
open Go.World.ownsRow renaming alloc->jV
open Go.World renaming size_alloc->jW,ownsRow_nil->jX,news_of_block->jp
open List renaming length_cons->jY,map_cons->jd
open Go.Proofs.Tryz renaming prog->j4
namespace Go.Proofs.YteiieikcjcfkkaaGreatDoor
open Go.RowKit
set_option linter.unusedSimpArgs false
set_option linter.unnecessarySimpa false
set_option linter.unusedVariables false
set_option maxRecDepth 100000
set_option maxHeartbeats 12800000
variable {cs:Array R}{z:Int}{u:List Bool}{i:List Int}{S:List Sx}{k c7 hi q:Nat}{G:Nat->Prop}{o:Obj}{x y:Sx}{t:jJ}{v s l:R}{w w':Z}
def Afe (w:Z) (a:Option jD) (zs:List Int):Prop:=∀j,(h:j<zs.length)->∃b,a=X ⟨b,0,T⟩/\b<w.heap.size/\w.cell? ⟨b,j,T⟩=X (U V zs[j])
theorem Afe.below {a:Option jD}{c:List Int}(h:Afe w a c)(d:Below w.heap.size w w'):Afe w' a c:=fun j f=>by
 obtain⟨b,h1,h2,h3⟩:=h j f;exact⟨b,h1,zE h2 d.size,(d.cell (p:=⟨b,j,T⟩) h2).trans h3⟩
structure RnM (w1 wr:Z) (v:R) (X:List Sx):Prop where
 outs:wr.ownsRow w1.heap.size 108 5 v X.length (GN X)
 low:Below w1.heap.size w1 wr
 mem:Sa (fun b=>v.ownBlock≠some b) wr X
theorem RnM.out {i a d:Z}{X:List Sx}{g7:Nat}(h:RnM i w' v X)(g:Below w'.heap.size w' a)(h1:Zo (fun b=>v.ownBlock≠some b) a x.cond)(h2:Zo (fun b=>v.ownBlock≠some b) a x.grant)
  (O:d.ownsRow i.heap.size 108 5 (Y (some ⟨g7,0,T⟩) (X.length+1) c7) (X.length+1) (GN X++Gm x))(hg:(a.alloc o).grownBy d v.ownBlock)(hat:v.ownBlock=some g7\/g7=a.heap.size+1):
  RnM i d (Y (some ⟨g7,0,T⟩) (X.length+1) c7) (X++[x]):=by
 have A:=Av a o;have l:=An h.outs g NLN;have K:Iq (fun b=>v.ownBlock=some b) a d:=⟨hg.os,hg.tape,hg.output,zB A.size hg.size,fun k f hS=>(hg.block k (zE f A.size) (fun e=>hS e.symm)).trans (A.block k f)⟩
 have c:=h.low.trans (g.mono h.low.size);have j:∀e:Ex,e.mem (fun b=>v.ownBlock≠some b) a->e.mem (fun b=>(Y (some ⟨g7,0,T⟩) (X.length+1) c7).ownBlock≠some b) d:=fun e he=>by
  have m:e.mem (fun b=>v.ownBlock≠some b/\b≠g7) a:=Ex.mem_le (fun b g hs=>⟨hs,fun n=>by
   rcases hat with q|q
   ·exact hs (by rw[n];exact q)
   ·omega⟩) e he
  exact Ex.mem_le (fun b _ hs e=>hs.2 (by simpa[ja]using e.symm)) e (Ex.mem_kpt K (fun b hs hS=>hs.1 hS) e m)
 refine⟨?_,⟨K.os.trans c.os,K.tape.trans c.tape,K.output.trans c.output,zB c.size K.size,fun k f=>(K.block k (zE f c.size) (fun e=>by have:=(l.lt k e).1;omega)).trans (c.block k f)⟩,((h.mem.map fun e he=>e.mem_below g NLN he).map j).snoc (fun e he=>j e (h1 e he)) (fun e he=>j e (h2 e he))⟩;rw[zC,Mx];exact O
theorem J5 {X:List Sx}{L:List Sx}{f:Sx->Sx}(h:X.map Cc=(L.map f).map Cc)(hx:Cc x=Cc (f y)):(X++[x]).map Cc=((L++[y]).map f).map Cc:=by
 rw[zR,zR,zR,h,jd,jd,jd,hx];rfl
theorem Rg (S:List Sx)(p:List Int)(m g c:Nat)(a:Option jD)(nz bE:Nat)(w:Z)(hm:S.length=m)(bV:m<=65535)(h:Yt w g S)(bf:p.length=nz)(bW:nz<=65535)(bg:Afe w a p)(bh:p.Nodup)(J:∀x∈S,∀q,usS q x=jA->q∈p)(hx:Sa TT w S):
  jE j4 67 #[Y (some ⟨g,0,T⟩) m c,Y a nz bE] w fun aH w'=>∃v X,aH=jH v/\w'.ownsRow w.heap.size 108 5 v X.length (GN X)/\X.map Cc=(S.map (MN p)).map Cc/\Sa TT w' X/\(∀x∈X,∃s∈S,x.at'=s.at')/\Below w.heap.size w w':=by
 obtain⟨aR,aS,aT,aU,aV⟩:=jZ Zp;have bi:=Ab hm;have bF:=Ab h;have bG:=Ab J;have bj:=Ab bh;have bH:=Ab bg;have bk:=Ab bf;have bI:=Ab (show Sa (fun b=>b<w.heap.size) w S from hx.map fun e he=>Ex.mem_le (fun b aE _=>aE) e he);clear hm h J bh bg hx bf;have bJ:=@run_makeMap j4;have bl:IS (w.alloc (.map #[] 0)) w.heap.size []:=⟨#[],0,jm w _,rfl,fun j aW=>absurd aW (by simp)⟩
 have a0:=Av w (.map #[] 0);have a1:=(Below.refl (w.alloc (.map #[] 0)).heap.size (w.alloc (.map #[] 0))).alloc NLN (jF #[.map (some w.heap.size)] 175);have aX:=Ag.new (w.alloc (.map #[] 0)) #[.map (some w.heap.size)] 175;have aF:=bl.below a1;have a2:=a0.trans (a1.mono a0.size);simp only[jW]at aX;have bK:∃bm,bm=(w.alloc (.map #[] 0)).alloc (jF #[.map (some w.heap.size)] 175):=⟨_,rfl⟩
 clear a0 a1 bl;go_enter func67,ntmps67
 go_wp2_with fail
 obtain⟨bm,bn⟩:=bK;rw[<-bn]at aF aX a2|-;clear bn bJ;go_loopw [15] (fun i wr=>∃k:Nat,k<=nz/\i=U V k/\IS wr w.heap.size (p.take k)/\Ag wr (w.heap.size+1) #[.map (some w.heap.size)] 175/\Below w.heap.size w wr) (fun i _=>nz-(intOf i).toNat)
 case atStart=>exact⟨0,by omega,rfl,aF,aX,a2⟩
 case round=>
  clear aF aX a2;obtain⟨k,bX,rfl,aI,aJ,aK⟩:=hrel;by_cases aj:k<nz
  ·have bL:(k:Int)<(nz:Int):=by omega
   have L:k<p.length:=by rw[Aa bk];exact aj
   obtain⟨b,rfl,bY,hc⟩:=(Aa bH).below aK k L;have bo:p[k] ∉ p.take k:=fun aL=>by
    obtain⟨j,aW,e⟩:=zy aL;rw[zr]at aW;rw[List.getElem_take]at e;exact(List.pairwise_iff_getElem.1 (Aa bj)) j k (by omega) L (by omega) e
   obtain⟨r,bp,bq,br,bM,bs⟩:=Afc wr w.heap.size (p.take k) p[k] aI bo;rw[show(p.take k).length=k by rw[zr];omega]at bp;have bt:IS r w.heap.size (p.take (k+1)):=by rw[zQ L];exact bq
   have bN:Ag r (w.heap.size+1) #[.map (some w.heap.size)] 175:=⟨(br _ (by omega)).trans aJ.out⟩
   have bO:=aK.trans (bs w.heap.size NLN);have bZ:wr.cell? ⟨w.heap.size+1,0,T⟩=some (.map (some w.heap.size)):=aJ.cell 0;generalize p[k]=z at hc bp;have M:=Ab aj;have bP:=Ab bt;clear bo bq br bM bs L aI aj bt;go_wp2_with fail
   go_roundw
   case rel=>exact⟨k+1,Aa M,by go_num,Aa bP,bN,bO⟩
   case measure=>have:=Aa M;simp[intOf];omega
  ·have bQ:k=nz:=by omega
   subst bQ;have bu:=Ab (show IS wr w.heap.size p by rw[zY (by rw[Aa bk];omega)]at aI;exact aI);have bv:=Ab aJ;have bw:=Ab aK;clear aj aI;have a3:=aK.size;have bR:=aJ.lt;go_wp2_with fail
   clear aJ aK;have bS:∃N,N=wr:=⟨_,rfl⟩
   obtain⟨N,bx⟩:=bS;rw[<-bx]at bu bv bw a3 bR|-;clear bx;go_loopw [27,9] (fun i o wr=>∃k:Nat,k<=m/\i=U V k/\(∃X,X.map Cc=((S.take k).map (MN p)).map Cc/\X.length=k/\(∀x∈X,∃s∈S,x.at'=s.at')/\RnM N wr o X)) (fun i _ _=>m-(intOf i).toNat)
   case atStart=>exact⟨0,by omega,rfl,[],rfl,rfl,(fun x hx=>by cases hx),jX _ _ _ _,BRN,fun x hx=>by cases hx⟩
   case round=>
    obtain⟨j,aW,rfl,X,bz,bA,bB,E⟩:=hrel;have B:=Ab (jS bz bA);have aM:=Ab bB;clear bz bA bB;have aY:=(Aa bw).trans (E.low.mono a3);by_cases aj:j<m
    ·have bL:(j:Int)<(m:Int):=by omega
     have L:j<S.length:=by rw[Aa bi];exact aj
     have aF:=(Aa bF).below aY;obtain⟨aG,c1,c2,c3,c4⟩:=aF.at j L;have aN:=Aa bI _ (zH L);have a4:=Aa bG _ (zH L);have a5:=zH L;have M:=Ab aj;have aO:=Ab (show S.take (j+1)=S.take j++[S[j]]from zQ L);generalize S[j]=x at aG c1 c2 c3 c4 aN a4 aO a5;have aZ:=Ab a5;clear a5;obtain⟨f,l,n,ak,al⟩:=x;simp only at aG c1 c2 c3 c4 aN;clear aj L aF;have ah:=Ag.new wr #[U V f,U V l,Q n,AH ak,AH al] 108;have A:=Av wr (jF #[U V f,U V l,Q n,AH ak,AH al] 108);have b0:=E.low.size;have bC:=((Aa bv).after E.low NLN).after A NLN;have bD:=((Aa bu).below E.low).below A;have aL:∀b,b<w.heap.size->(fun b=>u9.ownBlock≠some b) b:=fun b aE e=>by have:=(E.outs.lt b e).1;omega
     have K:=Zr (G:=fun b=>u9.ownBlock≠some b) bC bD (Aa bj) ⟨f,l,n,ak,al⟩ a4
      (fun e he=>e.mem_below A NLN (e.mem_below aY NLN (Ex.mem_le (fun b _ aE=>aL b aE) e (aN.1 e he))))
      (fun e he=>e.mem_below A NLN (e.mem_below aY NLN (Ex.mem_le (fun b _ aE=>aL b aE) e (aN.2 e he))))
     dsimp only at K;clear aL aN a4 bC bD;have e3:=Bi ak;have e4:=Bi al;have a6:=fun c'=>@Mw (Cr p) c' ak;have a7:=fun c'=>@Mw (Cr p) c' al;have ai:=Ab (fun (c' d:Option Ex) (C:c'.map Ex.st=(ak.map (Cr p)).map Ex.st) (D:d.map Ex.st=(al.map (Cr p)).map Ex.st)=>show Cc ⟨f,l,n,c',d⟩=Cc (MN p ⟨f,l,n,ak,al⟩) by simp only[Cc,MN,C,D]);generalize ak.map (Cr p)=b1 at K a6 ai;generalize al.map (Cr p)=b2 at K a7 ai;have ao:=Ab a6;have ap:=Ab a7;clear a6 a7;generalize AH ak=b3 at ah A K e3 c3 ao;generalize AH al=b4 at ah A K e4 c4 ap;rcases e3 with rfl|⟨b5,b6,rfl⟩<;>rcases e4 with rfl|⟨b7,b8,rfl⟩
     ·have O:=Ab K;clear K;obtain⟨aq,ar,au,av,aw,_⟩:=AP ah;go_wp2_with fail
      refine(Aa O).mono ?_;rintro aH r ⟨⟨a8,a9,rfl,⟨c',rfl,C,P⟩,⟨d,rfl,D,W⟩⟩,aa⟩;have F:=(Aa ao) c' C;have H:=(Aa ap) d D;have ab:=Ab (jS P W);have ax:=Ab (Aa ai c' d C D);have I:=A.trans (aa.mono A.size);have ay:=An E.outs I NLN;have e5:=Fc c';have e6:=Fc d;clear O ao ap ai C P D W aa aG c1 c2 c3 c4 aq ar au av aw ah A;have ac:=Ab (show AH c'=oV c' from rfl);have ad:=Ab (show AH d=oV d from rfl);generalize oV c'=az at ac e5 F|-;generalize oV d=aA at ad e6 H|-;have ba:az=jL:=F.2 (by first|rfl|trivial)
      subst ba;have bb:aA=jL:=H.2 (by first|rfl|trivial)
      subst bb;clear F H e5 e6;have bc:=I.size;dsimp only;go_wp2_with (at_builtin;refine jj _ rfl _ _ 64 rfl N.heap.size 108 aR (jG #[U V 0,U V 0,Q jU,jL,jL]) 5 64 underlying64 aS aT aU aV rfl (by decide) _ _ _ rfl (jV ay _) ⟨r.heap.size,0,T⟩ 1 1 [U V f,U V l,Q n,jL,jL] rfl rfl ?c1 ?c2 (by decide) ?c3 ?c4 ?c5 (r.heap.size+1) (by simp) ?_)
      case c1=>exact jp (jm r _)
      case c2=>intro u J;simp at J;rcases J with rfl|rfl|rfl|rfl|rfl<;>rfl
      case c3=>have:=(Aa B).2;unfold jM;omega
      case c4=>have:=(Aa B).2;omega
      case c5=>simp;omega
      intro g7 aB aC ae af hat bd;have ag:aC.ownsRow N.heap.size 108 5 (Y (some ⟨g7,0,T⟩) (X.length+1) aB) (X.length+1) (GN X++Gm ⟨f,l,n,c',d⟩):=by rw[show Gm ⟨f,l,n,c',d⟩=[U V f,U V l,Q n,jL,jL] by simp only[Gm,show AH c'=_ from Aa ac,show AH d=_ from Aa ad]];exact ae
      have aD:=Ab (E.out (x:=⟨f,l,n,c',d⟩) I (Aa ab).1 (Aa ab).2 ag af hat);clear af hat ae ag;go_wp2_with fail
      go_roundw
      case rel=>exact⟨j+1,Aa M,by go_num,X++[⟨f,l,n,c',d⟩],by rw[Aa aO];exact J5 (Aa B).1 (Aa ax),by simp[(Aa B).2],(fun y hy=>by
       rcases zN.1 hy with hy|hy
       ·exact Aa aM y hy
       ·rw[zS.1 hy];exact⟨_,Aa aZ,rfl⟩),by have:=Aa aD;simpa using this⟩
      case measure=>have:=Aa M;simp[intOf];omega
     ·have O:=Ab K;clear K;obtain⟨aq,ar,au,av,aw,_⟩:=AP ah;go_wp2_with fail
      refine(Aa O).mono ?_;rintro aH r ⟨⟨a8,a9,rfl,⟨c',rfl,C,P⟩,⟨d,rfl,D,W⟩⟩,aa⟩;have F:=(Aa ao) c' C;have H:=(Aa ap) d D;have ab:=Ab (jS P W);have ax:=Ab (Aa ai c' d C D);have I:=A.trans (aa.mono A.size);have ay:=An E.outs I NLN;have e5:=Fc c';have e6:=Fc d;clear O ao ap ai C P D W aa aG c1 c2 c3 c4 aq ar au av aw ah A;have ac:=Ab (show AH c'=oV c' from rfl);have ad:=Ab (show AH d=oV d from rfl);generalize oV c'=az at ac e5 F|-;generalize oV d=aA at ad e6 H|-;have ba:az=jL:=F.2 (by first|rfl|trivial)
      subst ba;obtain⟨aP,u6,rfl⟩:∃t u,aA=jB t u:=e6.resolve_left (fun q=>by have:=H.1 q;first|cases this|exact this.elim)
      clear F H e5 e6;have bc:=I.size;dsimp only;go_wp2_with (at_builtin;refine jj _ rfl _ _ 64 rfl N.heap.size 108 aR (jG #[U V 0,U V 0,Q jU,jL,jL]) 5 64 underlying64 aS aT aU aV rfl (by decide) _ _ _ rfl (jV ay _) ⟨r.heap.size,0,T⟩ 1 1 [U V f,U V l,Q n,jL,(jB aP u6)] rfl rfl ?c1 ?c2 (by decide) ?c3 ?c4 ?c5 (r.heap.size+1) (by simp) ?_)
      case c1=>exact jp (jm r _)
      case c2=>intro u J;simp at J;rcases J with rfl|rfl|rfl|rfl|rfl<;>rfl
      case c3=>have:=(Aa B).2;unfold jM;omega
      case c4=>have:=(Aa B).2;omega
      case c5=>simp;omega
      intro g7 aB aC ae af hat bd;have ag:aC.ownsRow N.heap.size 108 5 (Y (some ⟨g7,0,T⟩) (X.length+1) aB) (X.length+1) (GN X++Gm ⟨f,l,n,c',d⟩):=by rw[show Gm ⟨f,l,n,c',d⟩=[U V f,U V l,Q n,jL,(jB aP u6)] by simp only[Gm,show AH c'=_ from Aa ac,show AH d=_ from Aa ad]];exact ae
      have aD:=Ab (E.out (x:=⟨f,l,n,c',d⟩) I (Aa ab).1 (Aa ab).2 ag af hat);clear af hat ae ag;go_wp2_with fail
      go_roundw
      case rel=>exact⟨j+1,Aa M,by go_num,X++[⟨f,l,n,c',d⟩],by rw[Aa aO];exact J5 (Aa B).1 (Aa ax),by simp[(Aa B).2],(fun y hy=>by
       rcases zN.1 hy with hy|hy
       ·exact Aa aM y hy
       ·rw[zS.1 hy];exact⟨_,Aa aZ,rfl⟩),by have:=Aa aD;simpa using this⟩
      case measure=>have:=Aa M;simp[intOf];omega
     ·have O:=Ab K;clear K;obtain⟨aq,ar,au,av,aw,_⟩:=AP ah;go_wp2_with fail
      refine(Aa O).mono ?_;rintro aH r ⟨⟨a8,a9,rfl,⟨c',rfl,C,P⟩,⟨d,rfl,D,W⟩⟩,aa⟩;have F:=(Aa ao) c' C;have H:=(Aa ap) d D;have ab:=Ab (jS P W);have ax:=Ab (Aa ai c' d C D);have I:=A.trans (aa.mono A.size);have ay:=An E.outs I NLN;have e5:=Fc c';have e6:=Fc d;clear O ao ap ai C P D W aa aG c1 c2 c3 c4 aq ar au av aw ah A;have ac:=Ab (show AH c'=oV c' from rfl);have ad:=Ab (show AH d=oV d from rfl);generalize oV c'=az at ac e5 F|-;generalize oV d=aA at ad e6 H|-;obtain⟨aQ,u5,rfl⟩:∃t u,az=jB t u:=e5.resolve_left (fun q=>by have:=F.1 q;first|cases this|exact this.elim)
      have bb:aA=jL:=H.2 (by first|rfl|trivial)
      subst bb;clear F H e5 e6;have bc:=I.size;dsimp only;go_wp2_with (at_builtin;refine jj _ rfl _ _ 64 rfl N.heap.size 108 aR (jG #[U V 0,U V 0,Q jU,jL,jL]) 5 64 underlying64 aS aT aU aV rfl (by decide) _ _ _ rfl (jV ay _) ⟨r.heap.size,0,T⟩ 1 1 [U V f,U V l,Q n,(jB aQ u5),jL] rfl rfl ?c1 ?c2 (by decide) ?c3 ?c4 ?c5 (r.heap.size+1) (by simp) ?_)
      case c1=>exact jp (jm r _)
      case c2=>intro u J;simp at J;rcases J with rfl|rfl|rfl|rfl|rfl<;>rfl
      case c3=>have:=(Aa B).2;unfold jM;omega
      case c4=>have:=(Aa B).2;omega
      case c5=>simp;omega
      intro g7 aB aC ae af hat bd;have ag:aC.ownsRow N.heap.size 108 5 (Y (some ⟨g7,0,T⟩) (X.length+1) aB) (X.length+1) (GN X++Gm ⟨f,l,n,c',d⟩):=by rw[show Gm ⟨f,l,n,c',d⟩=[U V f,U V l,Q n,(jB aQ u5),jL] by simp only[Gm,show AH c'=_ from Aa ac,show AH d=_ from Aa ad]];exact ae
      have aD:=Ab (E.out (x:=⟨f,l,n,c',d⟩) I (Aa ab).1 (Aa ab).2 ag af hat);clear af hat ae ag;go_wp2_with fail
      go_roundw
      case rel=>exact⟨j+1,Aa M,by go_num,X++[⟨f,l,n,c',d⟩],by rw[Aa aO];exact J5 (Aa B).1 (Aa ax),by simp[(Aa B).2],(fun y hy=>by
       rcases zN.1 hy with hy|hy
       ·exact Aa aM y hy
       ·rw[zS.1 hy];exact⟨_,Aa aZ,rfl⟩),by have:=Aa aD;simpa using this⟩
      case measure=>have:=Aa M;simp[intOf];omega
     ·have O:=Ab K;clear K;obtain⟨aq,ar,au,av,aw,_⟩:=AP ah;go_wp2_with fail
      refine(Aa O).mono ?_;rintro aH r ⟨⟨a8,a9,rfl,⟨c',rfl,C,P⟩,⟨d,rfl,D,W⟩⟩,aa⟩;have F:=(Aa ao) c' C;have H:=(Aa ap) d D;have ab:=Ab (jS P W);have ax:=Ab (Aa ai c' d C D);have I:=A.trans (aa.mono A.size);have ay:=An E.outs I NLN;have e5:=Fc c';have e6:=Fc d;clear O ao ap ai C P D W aa aG c1 c2 c3 c4 aq ar au av aw ah A;have ac:=Ab (show AH c'=oV c' from rfl);have ad:=Ab (show AH d=oV d from rfl);generalize oV c'=az at ac e5 F|-;generalize oV d=aA at ad e6 H|-;obtain⟨aQ,u5,rfl⟩:∃t u,az=jB t u:=e5.resolve_left (fun q=>by have:=F.1 q;first|cases this|exact this.elim)
      obtain⟨aP,u6,rfl⟩:∃t u,aA=jB t u:=e6.resolve_left (fun q=>by have:=H.1 q;first|cases this|exact this.elim)
      clear F H e5 e6;have bc:=I.size;dsimp only;go_wp2_with (at_builtin;refine jj _ rfl _ _ 64 rfl N.heap.size 108 aR (jG #[U V 0,U V 0,Q jU,jL,jL]) 5 64 underlying64 aS aT aU aV rfl (by decide) _ _ _ rfl (jV ay _) ⟨r.heap.size,0,T⟩ 1 1 [U V f,U V l,Q n,(jB aQ u5),(jB aP u6)] rfl rfl ?c1 ?c2 (by decide) ?c3 ?c4 ?c5 (r.heap.size+1) (by simp) ?_)
      case c1=>exact jp (jm r _)
      case c2=>intro u J;simp at J;rcases J with rfl|rfl|rfl|rfl|rfl<;>rfl
      case c3=>have:=(Aa B).2;unfold jM;omega
      case c4=>have:=(Aa B).2;omega
      case c5=>simp;omega
      intro g7 aB aC ae af hat bd;have ag:aC.ownsRow N.heap.size 108 5 (Y (some ⟨g7,0,T⟩) (X.length+1) aB) (X.length+1) (GN X++Gm ⟨f,l,n,c',d⟩):=by rw[show Gm ⟨f,l,n,c',d⟩=[U V f,U V l,Q n,(jB aQ u5),(jB aP u6)] by simp only[Gm,show AH c'=_ from Aa ac,show AH d=_ from Aa ad]];exact ae
      have aD:=Ab (E.out (x:=⟨f,l,n,c',d⟩) I (Aa ab).1 (Aa ab).2 ag af hat);clear af hat ae ag;go_wp2_with fail
      go_roundw
      case rel=>exact⟨j+1,Aa M,by go_num,X++[⟨f,l,n,c',d⟩],by rw[Aa aO];exact J5 (Aa B).1 (Aa ax),by simp[(Aa B).2],(fun y hy=>by
       rcases zN.1 hy with hy|hy
       ·exact Aa aM y hy
       ·rw[zS.1 hy];exact⟨_,Aa aZ,rfl⟩),by have:=Aa aD;simpa using this⟩
      case measure=>have:=Aa M;simp[intOf];omega
    ·have bT:j=m:=by omega
     have bU:=Ab (show S.take j=S from zY (by rw[Aa bi];omega));subst bT;clear aj;go_wp2_with fail
     go_ret
     exact⟨u9,X,rfl,World.ownsRow.mono E.outs a3,by rw[(Aa B).1,Aa bU],E.mem.map fun e he=>Ex.mem_le (fun _ _ _=>trivial) e he,Aa aM,aY⟩
def Rh (X:List Sx) (k:Nat):List (Sx×Int):=Ed ((AS (X.take (X.length-k)):Nat):Int) (X.drop (X.length-k))
theorem Ri (X:List Sx):Rh X 0=[]:=by rw[Rh,Nat.sub_zero,List.drop_length];rfl
theorem Aa6 (X:List Sx):Rh X X.length=Ed 0 X:=by rw[Rh,Nat.sub_self,List.drop_zero,List.take_zero];rfl
theorem Ahk {X:List Sx}(b:k<X.length)(j:Nat)(c:j=X.length-1-k)(a:j<X.length)(hx:X[j].kind=1):
  AS (X.take (X.length-k))=AS (X.take j)+1/\X.length-(k+1)=j/\(!((Rh X k).any fun q=>usS (AS (X.take j):Nat) q.1)&&EF X[j].cond=jA->Rh X (k+1)=Rh X k)/\
  (¬ (!((Rh X k).any fun q=>usS (AS (X.take j):Nat) q.1)&&EF X[j].cond)=jA->Rh X (k+1)=(X[j],((AS (X.take j):Nat):Int)) ::Rh X k):=by
 have e1:X.length-k=j+1:=by omega
 have e2:X.length-(k+1)=j:=by omega
 have e3:AS (X.take (j+1))=AS (X.take j)+1:=by rw[zQ a,Li,if_pos hx]
 have e4:X.drop j=X[j] ::X.drop (j+1):=z5 a;have e5:Rh X k=Ed (((AS (X.take j):Nat):Int)+1) (X.drop (j+1)):=by rw[Rh,e1,e3];rfl
 refine⟨by rw[e1,e3],e2,fun h=>?_,fun h=>?_⟩
 ·rw[Rh,e2,e4,Ed,if_pos hx,<-e5,if_pos (by simpa using h)]
 ·rw[Rh,e2,e4,Ed,if_pos hx,<-e5,if_neg h]
theorem Acy {X:List Sx}(b:k<X.length)(j:Nat)(c:j=X.length-1-k)(a:j<X.length)(hx:X[j].kind≠1):
  AS (X.take (X.length-k))=AS (X.take j)/\X.length-(k+1)=j/\Rh X (k+1)=(X[j],-1) ::Rh X k:=by
 have e1:X.length-k=j+1:=by omega
 have e2:X.length-(k+1)=j:=by omega
 have e3:AS (X.take (j+1))=AS (X.take j):=by rw[zQ a,Li,if_neg hx];rfl
 have e4:X.drop j=X[j] ::X.drop (j+1):=z5 a;have e5:Rh X k=Ed ((AS (X.take j):Nat):Int) (X.drop (j+1)):=by rw[Rh,e1,e3]
 exact⟨by rw[e1,e3],e2,by rw[Rh,e2,e4,Ed,if_neg hx,<-e5]⟩
def Xo (U:List Bool):Option Ex->List Bool
 |none=>U
 |some e=>Mu U e
theorem Zs {m:Nat}{o:Option Ex}(h:∀e,o=X e->Mv m e)(a:List Bool)(n:Nat):(Xo a o)[n]? =(a[n]?).map fun b=>b||usO n o:=by
 cases o with
 |none=>cases c:a[n]?<;>simp[Xo,usO,c]
 |some e=>exact Ll e (h e rfl) a n
theorem Xp (c n:Nat)(g:n<=65535)(o:Option Ex)(h:∀e,o=X e->Mv n e)(a:Z)(b:List Bool)(d:Vi a c b)(f:b.length=n):jE j4 64 #[AH o,Y (X ⟨c,0,T⟩) n n] a (Ii c (Xo b o) a)/\(Xo b o).length=n:=by
 cases o with
 |none=>exact⟨(Ae9 _ a).mono fun i w' h=>⟨h.1,by rw[h.2];exact d,by rw[h.2];exact Iq.refl _ _⟩,f⟩
 |some e=>exact Gi c n g e (h e rfl) a b d f
structure NdP (X:List Sx) (n k:Nat) (N:Int) (U:List Bool) (Kl:List Sx) (Zl:List Int):Prop where
 num:N=(AS (X.take (X.length-k)):Nat)
 kl:Kl=((Rh X k).map Prod.fst).reverse
 zl:Zl=(CC (Rh X k)).reverse
 ul:U.length=n
 us:∀i:Nat,i<n->U[i]? =some ((Rh X k).any fun q=>usS i q.1)
 few:Kl.length<=k/\Zl.length<=k
theorem Aa7 {K:List (Sx×Int)}{n:Nat}{a:List Bool}(h:∀i:Nat,i<n->a[i]? =X (K.any fun q=>usS i q.1))(h1:∀e,x.cond=X e->Mv n e)(h2:∀e,x.grant=X e->Mv n e):∀i:Nat,i<n->(Xo (Xo a x.cond) x.grant)[i]? =X (((x,z) ::K).any fun q=>usS i q.1):=fun i hi=>by
 rw[Zs h2,Zs h1,h i hi];simp only[Option.map_some,List.any_cons,usS]
 congr 1
 cases usO (i:Int) x.cond<;>cases usO (i:Int) x.grant<;>simp
theorem Zt (X:List Sx)(i:Nat):AS (X.take i)<=AS X:=by
 unfold AS;exact((List.take_sublist i X).filter _).length_le
theorem NdP.lett {X:List Sx}{n k:Nat}{N:Int}{c:List Bool}{d:List Sx}{f:List Int}(h:NdP X n k N c d f)(p:AS X=n)(r:k<X.length)(j:Nat)(s:j=X.length-1-k)(t:j<X.length)(hx:X[j].kind=1)(h1:∀e,X[j].cond=some e->Mv n e)(h2:∀e,X[j].grant=some e->Mv n e):
  ∃ (nn:Nat) (g:Bool),N=(nn:Int)+1/\nn<n/\c[nn]? =some g/\((!g&&EF X[j].cond)=jA->NdP X n (k+1) nn c d f)/\((!g&&EF X[j].cond)=jC->NdP X n (k+1) nn (Xo (Xo c X[j].cond) X[j].grant) (d++[X[j]]) (f++[(nn:Int)])):=by
 obtain⟨e1,e2,e3,e4⟩:=Ahk r j s t hx;have v:AS (X.take j)+1<=n:=by rw[<-e1,<-p];exact Zt X _
 refine⟨AS (X.take j),(Rh X k).any fun q=>usS (AS (X.take j):Nat) q.1,by rw[h.num,e1];rfl,by omega,h.us _ (by omega),fun m=>?_,fun m=>?_⟩
 ·have e5:=e3 (by simpa using m);exact⟨by rw[e2],by rw[e5];exact h.kl,by rw[e5];exact h.zl,h.ul,by rw[e5];exact h.us,⟨Nat.le_succ_of_le h.few.1,Nat.le_succ_of_le h.few.2⟩⟩
 ·have e5:=e4 (by rw[m];decide);refine⟨by rw[e2],by rw[e5,h.kl];simp,by rw[e5,Pt hx,h.zl];simp,?_,by rw[e5];exact Aa7 h.us h1 h2,?_⟩
  ·have:∀(b:List Bool) (o:Option Ex),b.length=n->(∀e,o=some e->Mv n e)->(Xo b o).length=n:=fun b o w u=>by
    have hat:=fun i=>Zs u b i;apply Nat.le_antisymm
    ·rcases Nat.lt_or_ge n (Xo b o).length with q|q
     ·have a:=hat n;rw[yA (l:=b) (by omega),zG q]at a;cases a
     ·exact q
    ·rcases Nat.lt_or_ge (Xo b o).length n with q|q
     ·have a:=hat (Xo b o).length;rw[zG (l:=b) (by omega),yA NLN]at a;cases a
     ·exact q
   exact this _ _ (this _ _ h.ul h1) h2
  ·simp;exact h.few
theorem NdP.other {X:List Sx}{n k:Nat}{N:Int}{a:List Bool}{b:List Sx}{c:List Int}(h:NdP X n k N a b c)(d:k<X.length)(j:Nat)(f:j=X.length-1-k)(g:j<X.length)(hx:X[j].kind≠1)(h1:∀e,X[j].cond=some e->Mv n e)(h2:∀e,X[j].grant=some e->Mv n e)(i:(Xo (Xo a X[j].cond) X[j].grant).length=n):
  NdP X n (k+1) N (Xo (Xo a X[j].cond) X[j].grant) (b++[X[j]]) c:=by
 obtain⟨e1,e2,e5⟩:=Acy d j f g hx;exact⟨by rw[h.num,e1,e2],by rw[e5,h.kl];simp,by rw[e5,FR hx];exact h.zl,i,by rw[e5];exact Aa7 h.us h1 h2,by simp;exact⟨h.few.1,Nat.le_succ_of_le h.few.2⟩⟩
structure Xq (bn:Nat) (W W':Z):Prop where
 kpt:Iq (fun b=>b=bn\/b=bn+1\/b=bn+3\/b=bn+4\/bn+6<=b) W W'
 oth:KeepsOthers W W'
theorem Xq.refl (b:Nat)(a:Z):Xq b a a:=⟨Iq.refl _ _,KeepsOthers.refl _⟩
theorem Xq.trans {a:Nat}{A B C:Z}(h:Xq a A B)(k:Xq a B C):Xq a A C:=⟨h.kpt.trans k.kpt (fun _ _ t=>t),h.oth.trans k.oth⟩
theorem Xq.of_below {d:Nat}{a b:Z}(h:Below a.heap.size a b):Xq d a b:=⟨Iq.of_below h,⟨h.size,fun k o c _=>(h.block k (z4.1 c).1).trans c⟩⟩
theorem Xq.kp {a:Nat}{b c w:Z}(h:Xq a b c)(d:w.heap.size<=a)(hs:a+6<=b.heap.size):KpB w.heap.size (a+5) b c:=
 ⟨⟨h.kpt.os,h.kpt.tape,h.kpt.output,h.kpt.size,fun k f=>h.kpt.block k (by omega) (by omega)⟩,h.kpt.block _ (by omega) (by omega)⟩
structure SE (bn n:Nat) (w:Z) (N:Int) (U:List Bool) (vk:R) (Kl:List Sx) (vn:R) (Zl:List Int) (W:Z):Prop where
 num:Ag W bn #[.int V N] 3
 use:Vi W (bn+1) U
 ubx:Ag W (bn+2) #[Y (X ⟨bn+1,0,T⟩) n n] 118
 kbx:Ag W (bn+3) #[vk] 64
 nbx:Ag W (bn+4) #[vn] 51
 kown:W.ownsRow (bn+6) 108 5 vk Kl.length (GN Kl)
 nown:W.ownsRow (bn+6) 2 1 vn Zl.length (Zl.map fun x=>Value.int V x)
 low:Below w.heap.size w W
 sz:bn+6<=W.heap.size
theorem SE.below {b n:Nat}{N:Int}{c:List Bool}{d f:R}{g:List Sx}{j k:Z}(h:SE b n w N c d g f i j)(a:Below j.heap.size j k):SE b n w N c d g f i k:=
 ⟨h.num.after a NLN,Ag.after h.use a NLN,h.ubx.after a NLN,h.kbx.after a NLN,h.nbx.after a NLN,An h.kown a NLN,An h.nown a NLN,h.low.trans (a.mono h.low.size),zB h.sz a.size⟩
theorem NE {a:Z}{b:Nat}(R:Ag a b cs t)(h:a.heap[b]? =X o)(c:o.isCells=jC):False:=by
 rw[R.out]at h;cases h;cases c
theorem FU {a:Z}{B size n:Nat}{e:jJ}{b:List R}(O:a.ownsRow B e size v n b)(hq:v.ownBlock=X q)(h:a.heap[q]? =X o)(c:o.isCells=jC):False:=by
 rcases O.2 with⟨hv,_⟩|⟨g,cap,d,hv,_,hg,_⟩
 ·rw[hv]at hq;cases hq
 ·rw[hv]at hq;obtain rfl:g=q:=by simpa[ja]using hq
  rw[hg]at h;cases h;cases c
theorem SE.grown {d n:Nat}{w:Z}{N:Int}{j:List Bool}{l m:Value}{p:List Sx}{r:List Int}{a f:Z}{row:Option Nat}(u:w.heap.size<=d)(h:SE d n w N j l p m r a)(hg:a.grownBy f row)(g:∀i,row=X i->d+6<=i/\∃o:Obj,a.heap[i]? =X o/\o.isCells=jC):SE d n w N j l p m r f:=by
 have c:∀{b:Nat} {cs:Array Value} {t:jJ},Ag a b cs t->Ag f b cs t:=fun R=>G8 R hg (fun e=>by
  obtain⟨_,o,h1,h2⟩:=g _ e.symm;exact NE R h1 h2)
 have ok:∀{B size k:Nat} {e:jJ} {v:Value} {s:List Value},a.ownsRow B e size v k s->f.ownsRow B e size v k s:=fun O=>Ak O (fun q hq=>hg.block q (O.lt q hq).2 (fun e=>by
  obtain⟨_,o,h1,h2⟩:=g _ e.symm;exact FU O hq h1 h2))
 exact⟨c h.num,c h.use,c h.ubx,c h.kbx,c h.nbx,ok h.kown,ok h.nown,h.low.grown hg h.low.size (fun k e=>by have:=(g k e).1;omega),zB h.sz hg.size⟩
theorem SE.setN {a n:Nat}{N:Int}{c:List Bool}{d f:R}{g:List Sx}{b:Z}(j:w.heap.size<=a)(h:SE a n w N c d g f i b)(M:Int):SE a n w M c d g f i (b.setCell ⟨a,0,T⟩ (U V M))/\Xq a b (b.setCell ⟨a,0,T⟩ (U V M)):=
 ⟨⟨h.num.set 0 _,Ag.setFar (p:=⟨a,0,T⟩) h.use (by show a+1≠a;omega) _,h.ubx.setFar (p:=⟨a,0,T⟩) (by show a+2≠a;omega) _,h.kbx.setFar (p:=⟨a,0,T⟩) (by show a+3≠a;omega) _,h.nbx.setFar (p:=⟨a,0,T⟩) (by show a+4≠a;omega) _,
  AW h.kown _ _ (fun q hq=>by have:=(h.kown.lt q hq).1;show q≠a;omega),AW h.nown _ _ (fun q hq=>by have:=(h.nown.lt q hq).1;show q≠a;omega),h.low.setCell (p:=⟨a,0,T⟩) j _,by simpa using h.sz⟩,
   ⟨(Iq.refl _ b).setCell (p:=⟨a,0,T⟩) (fun _=> .inl rfl) _,KeepsOthers.setCell _ _ _⟩⟩
theorem SE.mark {a n:Nat}{N:Int}{m f:List Bool}{g i:R}{j:List Sx}{l:List Int}{d c:Z}(s:w.heap.size<=a)(h:SE a n w N m g j i l d)(p:Vi c (a+1) f)(K:Iq (fun k=>k=a+1) d c):SE a n w N f g j i l c/\Xq a d c:=
 ⟨⟨h.num.kpt K (by omega),p,h.ubx.kpt K (by omega),h.kbx.kpt K (by omega),h.nbx.kpt K (by omega),Ak h.kown (fun q hq=>K.block q (h.kown.lt q hq).2 (by have:=(h.kown.lt q hq).1;omega)),Ak h.nown (fun q hq=>K.block q (h.nown.lt q hq).2 (by have:=(h.nown.lt q hq).1;omega)),
  h.low.trans ⟨K.os,K.tape,K.output,K.size,fun k b=>K.block k (by have:=h.sz;omega) (by omega)⟩,zB h.sz K.size⟩,
   ⟨⟨K.os,K.tape,K.output,K.size,fun k b t=>K.block k b (by omega)⟩,⟨K.size,fun k o b r=>(K.block k (z4.1 b).1 (fun e=>by subst e;exact NE h.use b r)).trans b⟩⟩⟩
theorem SE.pushN {a n:Nat}{N:Int}{s i:Value}{m:List Sx}{r:List Int}{f d:Z}{z:Int}(G:w.heap.size<=a)(h:SE a n w N u s m i r f)(O:d.ownsRow (a+6) 2 1 l (r.length+1) ((r.map fun x=>U V x)++[U V z]))(hg:(f.alloc o).grownBy d i.ownBlock):
  SE a n w N u s m l (r++[z]) (d.setCell ⟨a+4,0,T⟩ l)/\Xq a f (d.setCell ⟨a+4,0,T⟩ l)/\Ag d (a+4) #[i] 51:=by
 have A:=Av f o;have c:=h.below A;have lo:∀q,i.ownBlock=X q->a+6<=q:=fun q hq=>(h.nown.lt q hq).1;have g:∀{b:Nat} {cs:Array Value} {t:jJ},Ag (f.alloc o) b cs t->b<a+6->Ag d b cs t:=fun R H=>G8 R hg (fun e=>by have:=lo _ e.symm;omega);have v:d.ownsRow (a+6) 108 5 s m.length (GN m):=Ak c.kown (fun q hq=>hg.block q (c.kown.lt q hq).2 (fun e=>ER c.kown c.nown (by decide) hq e.symm));have B:Iq (fun b=>b=a\/b=a+1\/b=a+3\/b=a+4\/a+6<=b) f d:=⟨hg.os,hg.tape,hg.output,zB A.size hg.size,fun k y hS=>(hg.block k (zE y A.size) (fun e=>hS (by have:=lo _ e.symm;omega))).trans (A.block k y)⟩
 have C:KeepsOthers f d:=(KeepsOthers.alloc f o).trans (KeepsOthers.of_grownBy hg (fun j D e E=>by
  cases hc:D.isCells with
  |true=>rfl
  |false=>exact(FU c.nown e E hc).elim))
 have F:a+6<=d.heap.size:=zB c.sz hg.size;refine⟨⟨(g c.num (by omega)).setFar (p:=⟨a+4,0,T⟩) (by show a≠a+4;omega) _,Ag.setFar (p:=⟨a+4,0,T⟩) (g c.use (by omega)) (by show a+1≠a+4;omega) _,(g c.ubx (by omega)).setFar (p:=⟨a+4,0,T⟩) (by show a+2≠a+4;omega) _,(g c.kbx (by omega)).setFar (p:=⟨a+4,0,T⟩) (by show a+3≠a+4;omega) _,(g c.nbx (by omega)).set 0 _,
  AW v _ _ (fun q hq=>by have:=(v.lt q hq).1;show q≠a+4;omega),?_,?_,by simpa using F⟩,⟨B.setCell (p:=⟨a+4,0,T⟩) (fun _=> .inr (.inr (.inr (.inl rfl)))) _,C.trans (KeepsOthers.setCell _ _ _)⟩,g c.nbx (by omega)⟩
 ·rw[zC,zR];exact AW O _ _ (fun q hq=>by have:=(O.lt q hq).1;show q≠a+4;omega)
 ·exact(c.low.grown hg c.low.size (fun k e=>by have:=lo _ e;omega)).setCell (p:=⟨a+4,0,T⟩) (by show w.heap.size<=a+4;omega) _
theorem SE.pushK {a n:Nat}{N:Int}{i:Value}{m:List Sx}{r:List Int}{f d:Z}(F:w.heap.size<=a)(h:SE a n w N u i m s r f)(O:d.ownsRow (a+6) 108 5 l (m.length+1) (GN m++Gm x))(hg:(f.alloc o).grownBy d i.ownBlock):
  SE a n w N u l (m++[x]) s r (d.setCell ⟨a+3,0,T⟩ l)/\Xq a f (d.setCell ⟨a+3,0,T⟩ l)/\Ag d (a+3) #[i] 64:=by
 have A:=Av f o;have c:=h.below A;have lo:∀q,i.ownBlock=X q->a+6<=q:=fun q hq=>(h.kown.lt q hq).1;have g:∀{b:Nat} {cs:Array Value} {t:jJ},Ag (f.alloc o) b cs t->b<a+6->Ag d b cs t:=fun R G=>G8 R hg (fun e=>by have:=lo _ e.symm;omega);have v:d.ownsRow (a+6) 2 1 s r.length (r.map fun x=>U V x):=Ak c.nown (fun q hq=>hg.block q (c.nown.lt q hq).2 (fun e=>ER c.nown c.kown (by decide) hq e.symm));have z:Iq (fun b=>b=a\/b=a+1\/b=a+3\/b=a+4\/a+6<=b) f d:=⟨hg.os,hg.tape,hg.output,zB A.size hg.size,fun k y hS=>(hg.block k (zE y A.size) (fun e=>hS (by have:=lo _ e.symm;omega))).trans (A.block k y)⟩
 have B:KeepsOthers f d:=(KeepsOthers.alloc f o).trans (KeepsOthers.of_grownBy hg (fun j C e D=>by
  cases hc:C.isCells with
  |true=>rfl
  |false=>exact(FU c.kown e D hc).elim))
 have E:a+6<=d.heap.size:=zB c.sz hg.size;refine⟨⟨(g c.num (by omega)).setFar (p:=⟨a+3,0,T⟩) (by show a≠a+3;omega) _,Ag.setFar (p:=⟨a+3,0,T⟩) (g c.use (by omega)) (by show a+1≠a+3;omega) _,(g c.ubx (by omega)).setFar (p:=⟨a+3,0,T⟩) (by show a+2≠a+3;omega) _,(g c.kbx (by omega)).set 0 _,(g c.nbx (by omega)).setFar (p:=⟨a+3,0,T⟩) (by show a+4≠a+3;omega) _,
  ?_,AW v _ _ (fun q hq=>by have:=(v.lt q hq).1;show q≠a+3;omega),?_,by simpa using E⟩,⟨z.setCell (p:=⟨a+3,0,T⟩) (fun _=> .inr (.inr (.inl rfl))) _,B.trans (KeepsOthers.setCell _ _ _)⟩,g c.kbx (by omega)⟩
 ·rw[zC,Mx];exact AW O _ _ (fun q hq=>by have:=(O.lt q hq).1;show q≠a+3;omega)
 ·exact(c.low.grown hg c.low.size (fun k e=>by have:=lo _ e;omega)).setCell (p:=⟨a+3,0,T⟩) (by show w.heap.size<=a+3;omega) _
section
open Go.RowKit Go.Shelf
attribute [local go_sem] Oper.semAt_some
theorem AiJ:(j4.info? 4).map (fun i=>(i.zero,i.size,i.bytes))=X (X (.bool jC),1,1):=by kernel_rfl
theorem Ahl:(j4.info? 2).map (fun i=>(i.zero,i.size,i.bytes))=X (X (U V 0),1,8):=by kernel_rfl
theorem Zu (z:R)(n:Nat):madeCells #[z] n=(List.replicate n z).toArray:=by
 apply Array.ext
 ·rw[size_madeCells];simp
 ·intro i h1 h2;simp[madeCells,Nat.mod_one]
def ndW (wA:Z) (n g m c:Nat):Z:=(((((wA.alloc (jF #[U V n] 3)).alloc (jF (madeCells #[.bool jC] n) 4)).alloc (jF #[Y (X ⟨wA.heap.size+1,0,T⟩) n n] 118)).alloc (jF #[Y T 0 0] 64)).alloc (jF #[Y T 0 0] 51)).alloc (jF #[Y (X ⟨g,0,T⟩) m c] 64)
theorem Aff (w a:Z)(d:Below w.heap.size w a)(n g m c:Nat):SE a.heap.size n w n (List.replicate n jC) (Y T 0 0) [] (Y T 0 0) [] (ndW a n g m c)/\Ag (ndW a n g m c) (a.heap.size+5) #[Y (X ⟨g,0,T⟩) m c] 64/\(ndW a n g m c).heap.size=a.heap.size+6/\Below a.heap.size a (ndW a n g m c):=by
 have B:Below a.heap.size a (ndW a n g m c):=(((((Av a _).alloc (by simp) _).alloc (by simp;omega) _).alloc (by simp;omega) _).alloc (by simp;omega) _).alloc (by simp;omega) _;have j:=(((((Ag.new a #[U V n] 3).alloc (jF (madeCells #[.bool jC] n) 4)).alloc (jF #[Y (X ⟨a.heap.size+1,0,T⟩) n n] 118)).alloc (jF #[Y T 0 0] 64)).alloc (jF #[Y T 0 0] 51)).alloc (jF #[Y (X ⟨g,0,T⟩) m c] 64);have f:=((((Ag.new (a.alloc (jF #[U V n] 3)) (madeCells #[.bool jC] n) 4).alloc (jF #[Y (X ⟨a.heap.size+1,0,T⟩) n n] 118)).alloc (jF #[Y T 0 0] 64)).alloc (jF #[Y T 0 0] 51)).alloc (jF #[Y (X ⟨g,0,T⟩) m c] 64);have r2:=(((Ag.new ((a.alloc (jF #[U V n] 3)).alloc (jF (madeCells #[.bool jC] n) 4)) #[Y (X ⟨a.heap.size+1,0,T⟩) n n] 118).alloc (jF #[Y T 0 0] 64)).alloc (jF #[Y T 0 0] 51)).alloc (jF #[Y (X ⟨g,0,T⟩) m c] 64);have r3:=((Ag.new (((a.alloc (jF #[U V n] 3)).alloc (jF (madeCells #[.bool jC] n) 4)).alloc (jF #[Y (X ⟨a.heap.size+1,0,T⟩) n n] 118)) #[Y T 0 0] 64).alloc (jF #[Y T 0 0] 51)).alloc (jF #[Y (X ⟨g,0,T⟩) m c] 64);have h:=(Ag.new ((((a.alloc (jF #[U V n] 3)).alloc (jF (madeCells #[.bool jC] n) 4)).alloc (jF #[Y (X ⟨a.heap.size+1,0,T⟩) n n] 118)).alloc (jF #[Y T 0 0] 64)) #[Y T 0 0] 51).alloc (jF #[Y (X ⟨g,0,T⟩) m c] 64);have i:=Ag.new (((((a.alloc (jF #[U V n] 3)).alloc (jF (madeCells #[.bool jC] n) 4)).alloc (jF #[Y (X ⟨a.heap.size+1,0,T⟩) n n] 118)).alloc (jF #[Y T 0 0] 64)).alloc (jF #[Y T 0 0] 51)) #[Y (X ⟨g,0,T⟩) m c] 64;simp only[jW]at f r2 r3 h i;have hs:(ndW a n g m c).heap.size=a.heap.size+6:=by simp only[ndW,jW]
 refine⟨⟨j,?_,r2,r3,h,jX _ _ _ _,jX _ _ _ _,d.trans (B.mono d.size),by rw[hs];exact NLN⟩,i,hs,B⟩;show Ag _ _ ((List.replicate n jC).map fun b=>Value.bool b).toArray 4;rw[List.map_replicate,<-Zu];exact f
theorem Rj:∀(S:List Sx) (n:Int) (q:Sx×Int),q∈Ed n S->q.1∈S
 |[],n,q,h=>by cases h
 |x ::S,n,q,h=>by
  rw[Ed]at h;split at h
  ·split at h
   ·exact zf _ (Rj S _ q h)
   ·rcases zP.1 h with rfl|h
    ·exact za ..
    ·exact zf _ (Rj S _ q h)
  ·rcases zP.1 h with rfl|h
   ·exact za ..
   ·exact zf _ (Rj S _ q h)
theorem Ahm {B:Nat}{a:Option jD}{c:Nat}{b:List Int}(O:w.ownsRow B 2 1 (Y a b.length c) b.length (b.map fun x=>U V x)):Afe w a b:=fun j d=>by
 obtain⟨x,c',e1,e2⟩:=Ae O;cases e1;obtain⟨g,rfl,_,hc⟩:=e2 (Nat.lt_of_le_of_lt (zD _) d);have f:=hc j (U V b[j]) (by simp[d]);exact⟨g,rfl,World.block_lt_of_cell? w _ f,f⟩
theorem Ex.mem_obj {w:Z}{k:Nat}{o:Obj}(d:w.heap[k]? =X o)(i:o.isCells=jC)(o':Obj):∀(e:Ex),e.mem TT w->e.mem TT (w.putObj k o')
 |.int ..,h=>h
 |.text ..,h=>h
 |.bool ..,h=>h
 |.set _ a n c ss,h=>⟨⟨h.1.len,h.1.cap,h.1.small,h.1.sizes,fun j m=>by
   obtain⟨b,p,r,s,hc⟩:=h.1.cells j m;obtain⟨q,hq,l⟩:=cells_of_cell hc;have t:b≠k:=fun e=>by
    subst e;rw[show w.heap[b]? =X q from hq]at d;cases d;rw[i]at l;cases l
   exact⟨b,p,r,by simpa using s,by rw[<-hc];exact World.cell?_of_block (World.putObj_heap_other (fun e=>t e))⟩⟩,h.2⟩
 |.name ..,h=>h
 |.attr ..,h=>h
 |.lett ..,h=>h
 |.un _ _ e,h=>Ex.mem_obj d i o' e h
 |.bin _ _ e f,h=>⟨Ex.mem_obj d i o' e h.1,Ex.mem_obj d i o' f h.2⟩
 |.ite _ e f g,h=>⟨Ex.mem_obj d i o' e h.1,Ex.mem_obj d i o' f h.2.1,Ex.mem_obj d i o' g h.2.2⟩
def xAt (X:List Sx) (j:Nat):Sx:=(X[j]?).getD ⟨0,0,⟨#[]⟩,T,T⟩
theorem Afg {X:List Sx}{j:Nat}(h:j<X.length):xAt X j=X[j]:=by simp[xAt,h]
theorem UT (X:List Sx)(m g c:Nat)(w:Z)(hm:X.length=m)(bo:m<=65535)(h:Yt w g X)(hx:Sa TT w X)(h1:∀x∈X,x.kind=1->∃e,x.cond=some e)(K:∀x∈X,(∀e,x.cond=some e->Mv (AS X) e)/\(∀e,x.grant=some e->Mv (AS X) e))
  (cm:Ed 0 X≠ [])(aE:∀q∈Ed 0 X,∀m,usS m q.1=jA->m∈CC (Ed 0 X))(cn:(CC (Ed 0 X)).Nodup):
  jE j4 29 #[Y (some ⟨g,0,T⟩) m c] w fun co w'=>∃v S,co=jH v/\w'.ownsRow w.heap.size 108 5 v S.length (GN S)/\S.map Cc=(Qt X).map Cc/\Sa TT w' S/\(∀y∈S,∃s∈X,y.at'=s.at')/\Below w.heap.size w w':=by
 obtain⟨cp,cq,cr,ct,cu⟩:=jZ Zp;obtain⟨cv,cw,cx,cy,cz⟩:=jZ Ahl;have bp:=Ab (UR X m g c w hm bo h);have aW:AS X<=65535:=by have:=Xl X;omega
 refine(callsIn_wide (n:=5)).1 ?_;refine callsIn_of_wp_marks func29 rfl trivial ?_ rfl;simp only[ntmps29,List.size_toArray,jY,List.length_nil,Nat.reduceAdd,Nat.reduceSub,Array.replicate_succ,Array.replicate_zero,List.push_toArray,List.append_toArray,List.nil_append,List.cons_append];have cA:=run_make_row' (P:=j4) 118 4 (.bool jC) 1 underlying118 AiJ rfl V V (AS X) (by omega) (by omega);have cB:=Ab h1;have bq:=Ab K;have cC:=Ab hx;have cD:=Ab h;have ac:=Ab hm;have cE:=h.lt;clear h1 K hx h hm;generalize br:AS X=n at bp aW cA bq;have bs:=Ab br;clear br
 gi_wp2
 refine⟨trivial,?_⟩;refine(callsIn_wide.2 (Aa bp)).mono ?_;rintro e b ⟨rfl,aF⟩;dsimp only
 gi_wp2
 refine⟨trivial,?_⟩;refine(Uh 4 _ _ _ _).mono ?_;rintro e dh ⟨rfl,rfl⟩;dsimp only;obtain⟨cF,cG,ah,cH⟩:=Aff w b aF n g m c
 gi_wp2
 simp only[jW,Z4,Nat.reduceAdd]
 change Code.wpIn _ _ _ _ _ _ (ndW b n g m c)
 have L:=aF.size;have cI:StC (ndW b n g m c) g m (xAt X):=fun j ai=>by
  have:=((Aa cD).below (aF.trans (cH.mono aF.size))).at j (by rw[Aa ac];exact ai);rw[Afg (by rw[Aa ac];exact ai)];exact this
 refine Ug (F:=Fence.wide) (n:=5) (P:=j4) rfl (by omega) (gf:=112) (lb:=#[.pointer (some ⟨b.heap.size+5,0,T⟩)]) rfl trivial (N:=m) (Kp:=KpB w.heap.size (b.heap.size+5)) (enc:=fun k=>#[U V ((m-1-k:Nat):Int),sxA (xAt X (m-1-k))]) (enters_of func112 (by kernel_rfl) rfl)
  (fun h k=>KpB.trans h k) (KpB.putObj (n0:=w.heap.size) (Bs:=b.heap.size+5) (by rw[ah];omega) (by rw[ah];omega)) (OJ 4 (b.heap.size+5) w.heap.size g m c (xAt X) bo cE (ndW b n g m c) (by rw[ah];omega) cG cI) (fun k=>rfl)
  (fun k d=>∃N D W C M r,NdP X n k N D C r/\SE b.heap.size n w N D W C M r d)
  (fun k d di row aX hg au=>by
   obtain⟨N,D,W,C,M,r,p,q⟩:=aX;exact⟨N,D,W,C,M,r,p,q.grown L hg (by rw[ah]at au;exact au)⟩)
  ⟨n,List.replicate n jC,_,[],_,[],⟨by rw[<-Aa bs,Nat.sub_zero,Z2],by rw[Ri];rfl,by rw[Ri];rfl,by simp,fun i hi=>by rw[Ri];simp[hi],by simp⟩,cF⟩ ?round ?done
 case round=>
  intro l k d K aX cJ;obtain⟨N,D,W,C,M,r,H,f⟩:=aX;obtain⟨j,ai⟩:∃j,j=m-1-k:=⟨_,rfl⟩
  have aj:j<X.length:=by rw[Aa ac];omega
  rw[ah]at K|-;rw[<-ai,Afg aj];have O:=Aa bq _ (zH aj);have aG:=Aa cB _ (zH aj);have aY:k<X.length:=by rw[Aa ac];exact cJ
  have aZ:j=X.length-1-k:=by rw[Aa ac];exact ai
  have av:=Ab (fun hx=>H.lett (Aa bs) aY j aZ aj hx O.1 O.2);have aw:=Ab (fun hx K=>H.other aY j aZ aj hx O.1 O.2 K);have cK:=H.few.1;have cL:=H.few.2;have bt:=H.ul;have bu:=Ab bt;clear aY aZ H;generalize X[j]=x at O aG av aw|-;clear ai aj;obtain⟨ak,ad,al,E,aa⟩:=x;simp only at O aG av aw;have a0:=Ab (fun d D h K=>Xp (b.heap.size+1) n aW E O.1 d D h K);have a1:=Ab (fun d D h K=>Xp (b.heap.size+1) n aW aa O.2 d D h K);have aH:=Ab (fun (e:Ex) (he:E=some e) (d:Z)=>show jE j4 63 #[AH E] d (AJ (EF E) d) by rw[he];exact Dq e d);have aI:=Ab aG;clear O aG;have ao:=Ag.new d #[U V ak,U V ad,Q al,AH E,AH aa] 108;have ax:=Av d (jF #[U V ak,U V ad,Q al,AH E,AH aa] 108);have dj:b.heap.size+6<=d.heap.size:=f.sz;unfold sxA;have e3:=Bi E;have e4:=Bi aa;have bv:=Ab (fun (ay az:R) (h3:AH E=ay) (h4:AH aa=az)=>show Gm ⟨ak,ad,al,E,aa⟩=[U V ak,U V ad,Q al,ay,az] by simp only[Gm,h3,h4]);generalize a2:AH E=ay at ao ax e3 a0 aH|-;generalize bw:AH aa=az at ao ax e4 a1|-;have bx:=Ab (Aa bv ay az a2 bw);have a3:=Ab a2;clear bv a2 bw;obtain⟨cs,a4⟩:∃cs,cs= #[U V ak,U V ad,Q al,ay,az]:=⟨_,rfl⟩
  rw[<-a4]at ao;have aJ:=Ab a4;clear a4;rcases e3 with rfl|⟨dk,dl,rfl⟩<;>rcases e4 with rfl|⟨dm,dn,rfl⟩
  all_goals
   gi_wp2
   refine⟨(KeepsOthers.alloc _ _).from _,(Xq.of_below ax).kp L f.sz,fun _ z=>SE b.heap.size n w N D W C M r z/\Ag z d.heap.size cs 108,fun _ A B row hs hg au=>⟨hs.1.grown L hg au,G8 hs.2 hg (fun e=>by
    obtain⟨_,o,h1,h2⟩:=au _ e.symm;exact NE hs.2 h1 h2)⟩,⟨f.below ax,by rw[Aa aJ]at ao|-;exact ao⟩,?_⟩
   clear ao ax f;rintro z ⟨ap,aq⟩;rw[Aa aJ]at aq;have bz:=ap.sz;obtain⟨dp,dq,dr,ds,dt,_⟩:=AP aq;have a5:=Xq.refl b.heap.size z;by_cases hx:ad=1
   case' pos=>
    first
     |obtain⟨e,he⟩:=Aa aI hx
      have h3:=Aa a3;rw[he]at h3;obtain⟨t,u,q⟩:=e.form;rw[show AH (some e)=_ from q]at h3;cases h3
      done
     |subst hx
      obtain⟨nn,bA,rfl,du,bB,bC,bD⟩:=Aa av rfl;obtain⟨e,he⟩:=Aa aI rfl;have a6:=Ab (Aa aH e he);clear av aw aH aI aJ a3;have dv:(nn:Int)<(n:Int):=by omega
      have dw:z.cell? ⟨b.heap.size,0,T⟩=some (U V ((nn:Int)+1)):=ap.num.cell 0;have dx:=fun j=>ap.num.frozen j;obtain⟨G,ae⟩:=ap.setN L (nn:Int);have ab:=aq.setFar (p:=⟨b.heap.size,0,T⟩) (by show d.heap.size≠b.heap.size;omega) (U V nn);have n3:(z.setCell ⟨b.heap.size,0,T⟩ (U V nn)).cell? ⟨b.heap.size,0,T⟩=some (U V nn):=G.num.cell 0;have bE:(z.setCell ⟨b.heap.size,0,T⟩ (U V nn)).cell? ⟨b.heap.size+2,0,T⟩=some (Y (some ⟨b.heap.size+1,0,T⟩) n n):=G.ubx.cell 0;have b3:(z.setCell ⟨b.heap.size,0,T⟩ (U V nn)).cell? ⟨b.heap.size+1,nn,T⟩=some (.bool bA):=by rw[Ag.cell G.use];simp[bB]
      obtain⟨bF,bG,bH,bI,bJ,_⟩:=AP ab;clear bB bt aq a5;have aA:=Ab bD;have aK:=Ab bC;clear bD bC;cases bA
      case' false=>
       gi_wp2
       refine⟨trivial,?_⟩;refine(CallsIn.inRound l (callsIn_wide.2 (Aa a6 _))).mono ?_;rintro e4 aL ⟨rfl,aM⟩;dsimp only;replace G:=G.below aM;replace ab:=ab.after aM NLN;replace ae:=ae.trans (Xq.of_below aM);clear aM n3 bE b3 bF bG bH bI bJ a6;cases bK:EF E
       case true=>
        have cM:=Ab (Aa aK (by rw[bK];rfl));clear aA aK
        gi_wp2
        exact⟨ae.oth.from _,ae.kp L bz,_,_,_,_,_,_,Aa cM,G⟩
       have aN:=Ab (Aa aA (by rw[bK];rfl));clear aA aK
      case' true=>
       have aN:=Ab (Aa aA rfl);clear aA aK a6
       gi_wp2
       refine⟨trivial,?_⟩;clear n3 bE b3 bF bG bH bI bJ;generalize z.setCell ⟨b.heap.size,0,T⟩ (U V nn)=aL at G ab ae|-
      all_goals
       have cN:aL.cell? ⟨b.heap.size+4,0,T⟩=some M:=G.nbx.cell 0;have cO:aL.cell? ⟨b.heap.size,0,T⟩=some (U V nn):=G.num.cell 0;obtain⟨cP,s1,s2,cQ,cR,_⟩:=AP ab;have dy:=G.sz
       gi_wp2_with (gi_at_builtin;refine wpListIn_append_own _ rfl _ _ 51 rfl (b.heap.size+6) 2 cv (U V 0) 1 8 underlying51 cw cx cy cz rfl (by decide) _ _ _ rfl (jV G.nown _) ⟨aL.heap.size,0,T⟩ 1 1 [U V nn] rfl rfl (cell_one_new _ _ _) (by simp[Value.oneCell']) (by unfold jM;omega) (by omega) (by simp;omega) ?_;intro dz a7 a8 a9 _;obtain⟨bL,c5,rfl⟩:=ownsRow_succ a8;obtain⟨ar,S5,ba⟩:=G.pushN L a8 a9;have dA:a7.cell? ⟨b.heap.size+4,0,T⟩=some M:=ba.cell 0;have dB:a7.frozen? ⟨b.heap.size+4,0,T⟩=jC:=ba.frozen 0;have aB:=(G8 (ab.alloc _) a9 (fun e=>Ac ab G.nown (by decide) e.symm)).setFar (p:=⟨b.heap.size+4,0,T⟩) (by show d.heap.size≠b.heap.size+4;omega) (Y (some ⟨bL,0,T⟩) (r.length+1) c5);obtain⟨cS,cT,cU,cV,cW,_⟩:=AP aB;have cX:=ar.ubx.cell 0)
       have aO:=ae.trans S5;clear a8 a9 ba S5 ae ab cN cO cP s1 s2 cQ cR;generalize a7.setCell ⟨b.heap.size+4,0,T⟩ (Y (some ⟨bL,0,T⟩) (r.length+1) c5)=bb at ar aB aO cS cT cU cV cW cX|-;refine⟨trivial,?_⟩
   case' neg=>
    have e1:(ad==1)=jC:=zA.2 hx;have aN:=Ab (Aa aw hx);clear av aw aH aI hx aJ a3;have dC:z.cell? ⟨b.heap.size+2,0,T⟩=some (Y (some ⟨b.heap.size+1,0,T⟩) n n):=ap.ubx.cell 0
    gi_wp2
    refine⟨trivial,?_⟩;obtain⟨bb,rfl⟩:∃d,d=z:=⟨_,rfl⟩
    have aO:=a5;have ar:=ap;have aB:=aq;clear a5 aq
   all_goals
    refine(CallsIn.inRound l (callsIn_wide.2 (Aa a0 bb D ar.use (Aa bu)).1)).mono ?_;rintro e6 bc ⟨rfl,bM,bd⟩;dsimp only;have bf:=Ab (Aa a0 bb D ar.use (Aa bu)).2;obtain⟨aC,bN⟩:=ar.mark L bM bd;have bg:=aB.kpt bd (by omega);have bO:=aO.trans bN;clear bM bd bN aO aB;obtain⟨bP,bQ,x2,x3,bR,_⟩:=AP bg;have cY:bc.cell? ⟨b.heap.size+2,0,T⟩=some (Y (some ⟨b.heap.size+1,0,T⟩) n n):=aC.ubx.cell 0;generalize cZ:Xo D E=bS at aC bf
    gi_wp2
    refine⟨trivial,?_⟩;refine(CallsIn.inRound l (callsIn_wide.2 (Aa a1 bc bS aC.use (Aa bf)).1)).mono ?_;rintro e7 bh ⟨rfl,bT,bi⟩;dsimp only;have c0:=Ab (Aa a1 bc bS aC.use (Aa bf)).2;obtain⟨aP,bU⟩:=aC.mark L bT bi;have c1:=bg.kpt bi (by omega);have c2:=bO.trans bU;clear bT bi bU bO bg bP bQ x2 x3 bR cY;obtain⟨bP,bQ,x2,x3,bR,_⟩:=AP c1;have dD:bh.cell? ⟨b.heap.size+3,0,T⟩=some W:=aP.kbx.cell 0;have dE:=aP.sz
    gi_wp2_with (gi_at_builtin;refine wpListIn_append_own _ rfl _ _ 64 rfl (b.heap.size+6) 108 cp (jG #[U V 0,U V 0,Q jU,jL,jL]) 5 64 underlying64 cq cr ct cu rfl (by decide) _ _ _ rfl (jV aP.kown _) ⟨bh.heap.size,0,T⟩ 1 1 (Gm ⟨ak,_,al,E,aa⟩) rfl rfl (by rw[Aa bx];exact jp (jm bh _)) (by rw[Aa bx];intro u aE;simp at aE;rcases aE with rfl|rfl|rfl|rfl|rfl<;>rfl) (by unfold jM;omega) (by omega) (by simp;omega) ?_;intro dF bV bW c3 _;obtain⟨dG,dH,rfl⟩:=ownsRow_succ bW;obtain⟨c4,c6,bX⟩:=aP.pushK L bW c3;have dI:bV.cell? ⟨b.heap.size+3,0,T⟩=some W:=bX.cell 0;have dJ:bV.frozen? ⟨b.heap.size+3,0,T⟩=jC:=bX.frozen 0)
    have bY:=c2.trans c6;exact⟨bY.oth.from _,bY.kp L bz,_,_,_,_,_,_,by subst cZ;first|exact Aa aN (Aa c0)|exact Aa aN,c4⟩
 case done=>
  rintro af d c7 ⟨N,D,W,C,M,r,H,f⟩ aQ;rw[ah]at c7;have aR:C.reverse=(Ed 0 X).map Prod.fst:=by
   rw[H.kl,List.reverse_reverse,<-Aa ac,Aa6]
  have bZ:r.reverse=CC (Ed 0 X):=by
   rw[H.zl,List.reverse_reverse,<-Aa ac,Aa6]
  have cK:=H.few.1;have cL:=H.few.2;have c8: 0<C.length:=by
   rcases Nat.eq_zero_or_pos C.length with q|q
   ·rw[List.length_eq_zero_iff.1 q]at aR;exact absurd (List.map_eq_nil_iff.1 aR.symm) cm
   ·exact q
  have b0:=(z4.1 aQ).1;obtain⟨gk,aS,rfl,dK,dL⟩:=f.kown.form c8;obtain⟨a,ca,rfl,_⟩:=NZ r (b.heap.size+6) M d f.nown (by omega);have c9:d.cell? ⟨b.heap.size+3,0,T⟩=some (Y (some ⟨gk,0,T⟩) C.length aS):=f.kbx.cell 0;have b1:=Ab (Yr C (b.heap.size+6) gk aS d f.kown (by omega));have aT:=Ab aR;have bj:=Ab bZ;clear aR bZ H
  gi_wp2
  refine⟨trivial,?_⟩;refine(callsIn_wide.2 (Aa b1)).mono ?_;rintro e1 aU ⟨rfl,aV,I⟩;dsimp only;have bk:=f.nbx.kpt I (by omega);have b2:=f.kbx.kpt I (by omega);have ag:=Ak f.nown (fun q hq=>I.block q (f.nown.lt q hq).2 (fun e=>by subst e;exact ER f.nown f.kown (by decide) hq rfl));have bl:aU.heap[af]? =some (.deferred (some [])):=(I.block af b0 (fun e=>by subst e;exact FU f.kown rfl aQ rfl)).trans aQ;have b4:Below w.heap.size w aU:=f.low.trans ⟨I.os,I.tape,I.output,I.size,fun q hq=>I.block q (by have:=f.sz;omega) (by omega)⟩;obtain⟨dM,dN,da,b5⟩:=NZ r (b.heap.size+6) _ aU ag (by omega);cases da;have b6:=Ab b5;have n1:aU.cell? ⟨b.heap.size+4,0,T⟩=some (Y a r.length ca):=bk.cell 0;have b7:=zE b0 I.size;clear b1 f I b5 aQ c9
  gi_wp2
  refine⟨trivial,?_⟩;refine(callsIn_wide.2 (Aa b6)).mono ?_;rintro e2 z ⟨rfl,b8,J⟩;dsimp only;have b9:=bk.kpt J (fun e=>by have:=(ag.lt _ e).1;omega);have cb:=b2.kpt J (fun e=>by have:=(ag.lt _ e).1;omega);have cc:=Ak aV (fun q hq=>J.block q (aV.lt q hq).2 (fun e=>ER aV ag (by decide) hq e));have db:z.heap[af]? =some (.deferred (some [])):=(J.block af b7 (fun e=>FU ag e bl rfl)).trans bl;have aD:Below w.heap.size w z:=b4.trans ⟨J.os,J.tape,J.output,J.size,fun q hq=>J.block q (by omega) (fun e=>by have:=(ag.lt _ e).1;omega)⟩;have dc:=zE b7 J.size;have dO:z.cell? ⟨b.heap.size+3,0,T⟩=some (Y (some ⟨gk,0,T⟩) C.length aS):=cb.cell 0;have dP:z.cell? ⟨b.heap.size+4,0,T⟩=some (Y a r.length ca):=b9.cell 0;have cd:=Ab (Rg C.reverse r.reverse C.length gk aS a r.length ca z (List.length_reverse) (by omega) (Pp cc) (List.length_reverse) (by omega)
   (by have:=b8;rw[show r.length=r.reverse.length by simp]at this;exact Ahm this) (by rw[Aa bj];exact cn)
   (fun x hx q hq=>by
    rw[Aa aT]at hx;rw[Aa bj];obtain⟨p,hp,rfl⟩:=zg.1 hx;exact aE p hp q hq)
   (fun x hx=>by
    rw[Aa aT]at hx;obtain⟨p,hp,rfl⟩:=zg.1 hx;have hm:=Aa cC _ (Rj X 0 p hp);have ce:∀e:Ex,e.mem TT w->e.mem TT z:=fun e he=>Ex.mem_le (fun _ _ _=>trivial) e (e.mem_below aD NLN he);exact⟨fun e he=>ce e (hm.1 e he),fun e he=>ce e (hm.2 e he)⟩))
  clear bk b2 ag aV bl b4 b6 J n1 b9 cb b8 cc
  gi_wp2
  refine⟨trivial,?_⟩;refine(callsIn_wide.2 (Aa cd)).mono ?_;rintro e3 bm ⟨v,S,rfl,cf,cg,ch,ci,cj⟩;dsimp only;have bn:bm.heap[af]? =some (.deferred (some [])):=(cj.block af dc).trans db;have dd:=Ab (show S.map Cc=(Qt X).map Cc by rw[cg,Aa aT,Aa bj,Qt];simp only[z7];rfl);have ck:=Ab cf;have de:=Ab ci;clear ci;have df:=Ab ch;have cl:=aD.trans (cj.mono aD.size);have dg:=aD.size;clear cd cg cf ch aD
  gi_wp2
  refine⟨by simp,.inl ⟨_,_,rfl,run_takeDeferred bn,?_⟩⟩;refine⟨_,results_tmp rfl _ _ _,v,S,rfl,?_,Aa dd,?_,fun y hy=>?_,?_⟩
  ·exact World.ownsRow.mono (Ak (Aa ck) (fun q hq=>World.putObj_heap_other (fun e=>by subst e;exact FU (Aa ck) hq bn rfl))) dg
  ·exact(Aa df).map fun e he=>Ex.mem_obj bn rfl _ e he
  ·obtain⟨s,hs,e⟩:=Aa de y hy;rw[Aa aT]at hs;obtain⟨p,hp,rfl⟩:=zg.1 hs;exact⟨_,Rj X 0 p hp,e⟩
  ·exact cl.trans ((Below.refl _ bm).grown (grownBy_putObj' bm af _) (by have:=cl.size;omega) (fun q e=>by cases e;omega))
end
def SF (S:List Sx):List Ex:=S.flatMap fun x=> [x.cond.getD (.bool 0 jC),x.grant.getD (.bool 0 jC)]
def SG (b:Nat) (x:Sx):St:=⟨x.kind,x.name,if x.cond.isSome then ((b:Nat):Int)else -1,if x.grant.isSome then ((b+1 :Nat):Int)else -1⟩
def ixS:Nat->List Sx->List St
 |_,[]=> []
 |b,x ::S=>SG b x ::ixS (b+2) S
theorem My:∀(S:List Sx) (b:Nat),(ixS b S).length=S.length
 |[],_=>rfl
 |x ::S,b=>by rw[ixS,jY,jY,My S]
theorem Zv:∀(S:List Sx) (b k:Nat) (h:k<S.length) (a:k<(ixS b S).length),(ixS b S)[k]=SG (b+2*k) S[k]
 |x ::S,b,0,h,a=>by simp only[ixS,zt,Nat.mul_zero,zX]
 |x ::S,b,k+1,h,a=>by
  have e:=Zv S (b+2) k (by simpa using h) (by rw[My];simpa using h);simp only[ixS,z8];rw[e]
  congr 1
  omega
 |[],_,_,h,_=>absurd h (by simp)
theorem Zw:∀(S:List Sx) (k:Nat) (h:k<S.length),(SF S)[2*k]? =X (S[k].cond.getD (.bool 0 jC))/\(SF S)[2*k+1]? =X (S[k].grant.getD (.bool 0 jC))
 |x ::S,0,h=>⟨rfl,rfl⟩
 |x ::S,k+1,h=>by
  have e:=Zw S k (by simpa using h);simp only[z8];rw[<-e.1,<-e.2];exact⟨rfl,rfl⟩
 |[],_,h=>absurd h (by simp)
theorem Aa9 {Es:List Ex} :∀(S:List Sx) (b:Nat) (ns:List ByteArray) (ts tt:List Int),(∀j e,(SF S)[j]? =X e->Es[b+j]? =X e)->IE ts S->Vg ns S->∃n1 c,AI Es (ns,ts,tt) (ixS b S)=X (n1,c,tt++IA ts S)
 |[],b,ns,ts,tt,_,_,_=>⟨ns,ts,by rw[ixS,AI,IA,Z3]⟩
 |x ::S,b,ns,ts,tt,hE,h,hL=>by
  have hc:∀e,x.cond=X e->Es[b]? =X e:=fun e he=>hE 0 e (by rw[SF,zi];simp[he]);have hg:∀e,x.grant=X e->Es[b+1]? =X e:=fun e he=>hE 1 e (by rw[SF,zi];simp[he]);have hS:∀j e,(SF S)[j]? =X e->Es[b+2+j]? =X e:=fun j e he=>by
   rw[Z4,Nat.add_comm 2 j];exact hE (j+2) e (by rw[SF,zi];simpa[SF]using he)
  have f:∀(ns:List ByteArray) (ts tt:List Int),Yo ts x.grant->AU Es (ns,ts,tt) (SG b x)=X (ns,ts,tt++Mh ts x.grant):=fun ns ts tt i=>by
   unfold AU SG;cases hx:x.grant with
   |none=>
    rw[if_pos (by simp)];simp[Mh]
   |some e=>
    rw[hx]at i;simp only[Option.isSome_some,if_true];rw[if_neg (by omega),zV,hg e hx];dsimp only;unfold ckG;rw[show Al ts e=X 4 from i];rfl
  have l:∀(e:Ex),x.cond=X e->AQ Es (ns,ts,tt) (SG b x)=RP x.kind x.name (ns,ts,tt) (Al ts e) (A7 ts e):=fun e he=>by
   unfold AQ SG;rw[he];simp only[Option.isSome_some,if_true];rw[if_neg (by omega),zV,hc e he]
  rw[ixS,AI,Bp];rcases h with⟨k,e,t,h1,h2,h3,h4⟩|⟨k,⟨e,h1,h2⟩,h3,h4⟩|⟨k,h1,h3,h4⟩
  ·rw[Vg,Mg k]at hL;have m:x.name ∉ ns:=hL.2 _ za;have d:AQ Es (ns,ts,tt) (SG b x)=X (ns++[x.name],ts++[t],tt++Mh ts x.cond):=by
    rw[l e h1,k,h2,Aba m,h1];rfl
   rw[d,zm,f _ _ _ (by rw[h3];trivial),zm];obtain⟨n1,c,hq⟩:=Aa9 S (b+2) (ns++[x.name]) (ts++[t]) ((tt++Mh ts x.cond)++Mh (ts++[t]) x.grant) hS h4 ⟨(List.nodup_cons.1 hL.1).2,fun a g hm=>by
    rcases zN.1 hm with q|q
    ·exact hL.2 a (zf _ g) q
    ·rw[zS.1 q]at g;exact(List.nodup_cons.1 hL.1).1 g⟩
   refine⟨n1,c,?_⟩;rw[hq,IA,if_pos k,h1,zm,h2,Option.getD_some,<-h1];simp only[zT]
  ·rw[Vg,JH (by omega)]at hL;have d:AQ Es (ns,ts,tt) (SG b x)=X (ns,ts,tt++Mh ts x.cond):=by
    rw[l e h1,h2,Xr (by omega),h1];rfl
   rw[d,zm,f _ _ _ h3,zm];obtain⟨n1,c,hq⟩:=Aa9 S (b+2) ns ts ((tt++Mh ts x.cond)++Mh ts x.grant) hS h4 hL;refine⟨n1,c,?_⟩;rw[hq,IA,if_neg (by omega)];simp only[zT]
  ·rw[Vg,JH (by omega)]at hL;have d:AQ Es (ns,ts,tt) (SG b x)=X (ns,ts,tt++Mh ts x.cond):=by
    unfold AQ SG;rw[h1,if_pos (by simp)];simp[Mh]
   rw[d,zm,f _ _ _ h3,zm];obtain⟨n1,c,hq⟩:=Aa9 S (b+2) ns ts ((tt++Mh ts x.cond)++Mh ts x.grant) hS h4 hL;refine⟨n1,c,?_⟩;rw[hq,IA,if_neg (by omega)];simp only[zT]
theorem Afh {Es:List Ex} :∀(S:List Sx) (b:Nat),(∀j e,(SF S)[j]? =X e->Es[b+j]? =X e)->Dl Es (ixS b S)=Bu S
 |[],b,_=>rfl
 |x ::S,b,hE=>by
  have hc:∀e,x.cond=X e->Es[b]? =X e:=fun e he=>hE 0 e (by rw[SF,zi];simp[he]);have hg:∀e,x.grant=X e->Es[b+1]? =X e:=fun e he=>hE 1 e (by rw[SF,zi];simp[he]);have hS:∀j e,(SF S)[j]? =X e->Es[b+2+j]? =X e:=fun j e he=>by
   rw[Z4,Nat.add_comm 2 j];exact hE (j+2) e (by rw[SF,zi];simpa[SF]using he)
  have a:=Afh S (b+2) hS;rw[A4,<-a,ixS,Dl,jd,List.sum_cons,<-Dl]
  congr 1
  have e1:Bj Es (SG b x).cond=AF x.cond:=by
   unfold Bj SG;cases hx:x.cond with
   |none=>simp[AF]
   |some e=>
    simp only[Option.isSome_some,if_true];rw[if_neg (by omega),zV,hc e hx];rfl
  have e2:Bj Es (SG b x).grant=AF x.grant:=by
   unfold Bj SG;cases hx:x.grant with
   |none=>simp[AF]
   |some e=>
    simp only[Option.isSome_some,if_true];rw[if_neg (by omega),zV,hg e hx];rfl
  rw[e1,e2]
theorem Afi:∀(S:List Sx) (f:Sx->Nat) (k:Nat) (h:k<S.length),f S[k]<=(S.map f).sum
 |x ::S,f,0,h=>by simp
 |x ::S,f,k+1,h=>by
  have:=Afi S f k (by simpa using h);simp only[z8,jd,List.sum_cons];omega
 |[],_,_,h=>absurd h (by simp)
theorem AjG (hg:∀x∈S,(∀e,x.cond=X e->e.typed)/\(∀e,x.grant=X e->e.typed))(hc:Bu S<=4000):∀s∈ixS 0 S,okP (SF S) s.cond/\okP (SF S) s.grant:=fun s hs=>by
 obtain⟨k,c,rfl⟩:=zy hs;have a:k<S.length:=by rw[My]at c;exact c
 have hx:=hg _ (zH a);have b:AF S[k].cond+AF S[k].grant<=4000:=zB (by
  rw[Bu];exact Afi S (fun x=>AF x.cond+AF x.grant) k a) hc
 obtain⟨e1,e2⟩:=Zw S k a;rw[Zv S 0 k a c,zU];constructor
 ·cases hq:S[k].cond with
  |none=>exact .inl (by simp[SG,hq])
  |some e=>exact .inr ⟨2*k,e,by simp[SG,hq],by rw[e1,hq];rfl,hx.1 e hq,by rw[hq]at b;simp only[AF]at b;omega⟩
 ·cases hq:S[k].grant with
  |none=>exact .inl (by simp[SG,hq])
  |some e=>exact .inr ⟨2*k+1,e,by simp[SG,hq],by rw[e2,hq];rfl,hx.2 e hq,by rw[hq]at b;simp only[AF]at b;omega⟩
set_option maxRecDepth 100000
set_option maxHeartbeats 6400000
theorem IU {G:Nat->Prop}{w:Z} :∀(e:Ex),e.mem G w->e.sok w
 |.int ..,_=>trivial
 |.text ..,_=>trivial
 |.bool ..,_=>trivial
 |.set ..,h=>⟨h.1,h.2.1⟩
 |.name ..,_=>trivial
 |.attr ..,_=>trivial
 |.lett ..,_=>trivial
 |.un _ _ k,h=>IU k h
 |.bin _ _ l r,h=>⟨IU l h.1,IU r h.2⟩
 |.ite _ c t e,h=>⟨IU c h.1,IU t h.2.1,IU e h.2.2⟩
theorem Abb {o:Option Ex}(h:Zo G w o):VO w o:=by
 cases o with
 |none=>trivial
 |some e=>exact IU e (h e rfl)
theorem Ahn (S:List Sx)(k:Nat)(a:k<S.length):DJ (SF S) (SG (2*k) S[k]).cond=AH S[k].cond/\DJ (SF S) (SG (2*k) S[k]).grant=AH S[k].grant:=by
 obtain⟨e1,e2⟩:=Zw S k a;unfold DJ SG;constructor
 ·cases hq:S[k].cond with
  |none=>simp[AH]
  |some e=>
   simp only[Option.isSome_some,if_true];rw[if_neg (by omega),zV,e1,hq];rfl
 ·cases hq:S[k].grant with
  |none=>simp[AH]
  |some e=>
   simp only[Option.isSome_some,if_true];rw[if_neg (by omega),zV,e2,hq];rfl
def RtT (S:List Sx) (lo:Nat) (r:Ending) (w':Z):Prop:=∃x n cx y m cy z p cz nv kv hi,r=jH (jG #[Y x n cx,Y y m cy,Y z p cz])/\ED w' lo hi x n cx y m cy z p cz (AM 0 S) nv kv (BK 0 S) (IA [] S)
theorem Xs (S:List Sx)(m g c:Nat)(aT af ag:jD)(w:Z)(hm:S.length=m)(a8:m<=600)(h:Yt w g S)(hat:∀x∈S,∃a:Nat,x.at'=a)(hx:Sa TT w S)(ah:N9 w aT)(ai:RL w af ag)(B:IE [] S)(hf:Vg AO S)(hg:∀x∈S,(∀e,x.cond=X e->e.typed)/\(∀e,x.grant=X e->e.typed))(hc:Bu S<=4000):
  jE j4 28 #[Y (X ⟨g,0,T⟩) m c] w fun o w'=>RtT S w.heap.size o w'/\Below w.heap.size w w':=by
 have aj:=Ab hm;have aL:=Ab hat;have aM:=Ab hx;have ak:=Ab hc;have aN:=Ab (AjG hg hc);obtain⟨n1,aO,al⟩:=Aa9 (Es:=SF S) S 0 AO [] [] (fun j e he=>by rw[zU];exact he) B hf;have ao:=Ab al;have aP:=Ab (Afh (Es:=SF S) S 0 (fun j e he=>by rw[zU];exact he));have ap:=Ag.new w #[Y T 0 0,Y T 0 0,Y T 0 0] 31;have r:=Av w (Fo T 0 0 T 0 0 T 0 0);have M:=ah.below r NLN;have aq:=ai.below r NLN;have ar:=h.below r;have a9:=h.lt;clear hm hat hx hc hg h B hf al ah ai;have aQ:∃s,s=w.alloc (Fo T 0 0 T 0 0 T 0 0):=⟨_,rfl⟩
 go_enter func28,ntmps28
 go_wp2_with fail
 obtain⟨s,N⟩:=aQ;have zW:s.heap.size=w.heap.size+1:=by rw[N];simp
 rw[<-N]at ap r M aq ar|-;clear N;refine(Jm aT _ M).mono ?_;rintro o au ⟨D,O,rfl,aR,P,av,E⟩;dsimp only;have aS:Cm s.heap.size D O AO [] [] (Y T 0 0) (Y T 0 0) au:=⟨P,av,aR⟩
 have aU:=ap.after E NLN;have aV:=ar.below E;obtain⟨aw,ax,ay⟩:=aV.ex;have g1:g≠D:=by have:=P.low;omega
 have g2:g≠O:=by omega
 have az:=Ab ay;have aA:=Ab (Jp s.heap.size D O (AO,[],[]) (Y T 0 0) (Y T 0 0) s aT af ag M aq NLN (SF S) (ixS 0 S) m g c aw au (by rw[My];exact Aa aj) (fun t B=>by cases B) (by simp;omega) (Aa aN) (by rw[Aa aP];have:=Aa ak;simp;omega) E aS ax (fun k=>(if h:k<S.length then S[k].at' else 0).toNat)
  (fun k W o aW u aX=>by
   have y:k<S.length:=by rw[My]at W;exact W
   have aY:(((if h:k<S.length then S[k].at' else 0).toNat:Nat):Int)=S[k].at':=by
    rw[dif_pos y];obtain⟨a,aZ⟩:=Aa aL _ (zH y);rw[aZ];rfl
   refine Aa az _ _ ?_;rw[Pw S k y o aW,<-aX];rw[Zv S 0 k y W,zU];obtain⟨a0,o2⟩:=Ahn S k y;unfold LH Gm;rw[a0,o2,aY];rfl) g1 g2 (by simp[ja]) (by simp[ja]))
 clear P av ay;go_wp2_with fail
 refine(Aa aA).mono ?_;rintro o aB (⟨ns,ts,tt,lv,ba,l,rfl,aa,ab⟩|⟨l,_,_⟩)
 ·have aC:tt=IA [] S:=by
   rw[Aa ao]at l;simp only[Option.some.injEq,Prod.mk.injEq,List.nil_append]at l;exact l.2.2.symm
  have a1:=Ab aC;clear l aA aC;obtain⟨b,d,rfl,_⟩:=Ae aa.C.types;obtain⟨a2,bb,bc⟩:=ab.row ax g1 g2 (by simp[ja]) (by simp[ja]);have a3:=aU.below ab.low (by omega);have aD:=E.trans ab.low;have z:=r.trans (aD.mono r.size);have bd:aB.cell? ⟨D,2,T⟩=X (Y b tt.length d):=aa.C.row.cell 2;have aE:=Ab (VP S g m c aw b tt.length d aB (Aa aj) a2 (Aa az) (fun x hx=>by
   have:=Aa aM x hx;exact⟨Is z NLN _ (Abb this.1),Is z NLN _ (Abb this.2)⟩) (by have:=Aa ak;omega) (by omega))
  dsimp only;go_wp2_with fail
  refine(Aa aE).mono ?_;rintro o n ⟨⟨nd,pl,a4,a5,bf,rfl,F,G,_⟩,ac⟩;clear aE;obtain⟨f,cn,rfl,_⟩:=Ae F.own;obtain⟨i,cs,rfl,_⟩:=Ae G;have aF:=a3.after ac NLN;have a6:=z.trans (ac.mono z.size);have ad:=aa.C.types;have ae:=An ad ac NLN;have bg:=z.size;have bh:=aD.size;obtain rfl:=Aa a1;have H:∀q,w.heap.size+1<=q->∀(aG aH aI:R),(((n.setCell ⟨w.heap.size,0,T⟩ aG).setCell ⟨w.heap.size,1,T⟩ aH).setCell ⟨w.heap.size,2,T⟩ aI).heap[q]? =n.heap[q]? :=fun q h1 aG aH aI=>by
   have hq:q≠w.heap.size:=by omega
   rw[jc _ _ q _ hq,jc _ _ q _ hq,jc _ _ q _ hq]
  have I:=((aF.set 0 (Y f (AM 0 S).length cn)).set 1 (Y i S.length cs)).set 2 (Y b (IA [] S).length d);have J:=((a6.setCell (p:=⟨w.heap.size,0,T⟩) NLN (Y f (AM 0 S).length cn)).setCell (p:=⟨w.heap.size,1,T⟩) NLN (Y i S.length cs)).setCell (p:=⟨w.heap.size,2,T⟩) NLN (Y b (IA [] S).length d);have K:=Ab (show ED (((n.setCell ⟨w.heap.size,0,T⟩ (Y f (AM 0 S).length cn)).setCell ⟨w.heap.size,1,T⟩ (Y i S.length cs)).setCell ⟨w.heap.size,2,T⟩ (Y b (IA [] S).length d)) w.heap.size (((n.setCell ⟨w.heap.size,0,T⟩ (Y f (AM 0 S).length cn)).setCell ⟨w.heap.size,1,T⟩ (Y i S.length cs)).setCell ⟨w.heap.size,2,T⟩ (Y b (IA [] S).length d)).heap.size f (AM 0 S).length cn i S.length cs b (IA [] S).length d (AM 0 S) a4 a5 (BK 0 S) (IA [] S)from by
   have L:=F.blocks (w':=((n.setCell ⟨w.heap.size,0,T⟩ (Y f (AM 0 S).length cn)).setCell ⟨w.heap.size,1,T⟩ (Y i S.length cs)).setCell ⟨w.heap.size,2,T⟩ (Y b (IA [] S).length d)) (fun q h1 h2=>H q (by omega) _ _ _);have aJ:=Ak (w':=((n.setCell ⟨w.heap.size,0,T⟩ (Y f (AM 0 S).length cn)).setCell ⟨w.heap.size,1,T⟩ (Y i S.length cs)).setCell ⟨w.heap.size,2,T⟩ (Y b (IA [] S).length d)) G (fun q hq=>H q (by have:=(G.lt q hq).1;omega) _ _ _);have aK:=Ak (w':=((n.setCell ⟨w.heap.size,0,T⟩ (Y f (AM 0 S).length cn)).setCell ⟨w.heap.size,1,T⟩ (Y i S.length cs)).setCell ⟨w.heap.size,2,T⟩ (Y b (IA [] S).length d)) ae (fun q hq=>H q (by have:=(ae.lt q hq).1;omega) _ _ _);exact⟨L.low (by omega),Dv aJ (by omega),Dv aK (by omega),fun q hq j A e=>by
    have h1:=(ad.lt q hq).2;have h2:=(F.lts.2.2 j A q e).1;omega,⟨fun q hq=>(L.lts.1 q hq).2,fun j A q hq=>(L.lts.2.1 j A q hq).2,fun j A q hq=>(L.lts.2.2 j A q hq).2⟩,fun q hq=>(aJ.lt q hq).2,fun q hq=>(aK.lt q hq).2,NLN,rfl,Fh _ _,rfl⟩)
  obtain⟨bi,aO,bj,_⟩:=PJ aF;clear F G ad ae H;generalize (AM 0 S).length=a7 at K I J|-;generalize (IA [] S).length=lt at K I J|-;generalize S.length=ls at K I J|-;dsimp only;go_wp2_with fail
  obtain⟨e0,e1,e2,_⟩:=PJ I;exact jN (v:= jG #[Y f a7 cn,Y i ls cs,Y b lt d]) (by simp[jR,results28,go_sem,e0,e1,e2]) rfl ⟨⟨_,_,_,_,_,_,_,_,_,_,_,_,rfl,Aa K⟩,J⟩
 ·rw[Aa ao]at l;cases l
section
variable {aS aO aZ aW : jD}
theorem Ij {o p:Option Ex}(h:o.map Ex.st=p.map Ex.st){e:Ex}(he:o=X e):∃f,p=X f/\f.st=e.st:=by
 subst he;cases p with
 |none=>cases h
 |some f=>exact⟨f,rfl,(Option.some.inj h).symm⟩
theorem TQ {o p:Option Ex}(h:o.map Ex.st=p.map Ex.st)(he:o=T):p=T:=by
 subst he;cases p with
 |none=>rfl
 |some f=>cases h
theorem Xt {ts:List Int}{o p:Option Ex}(h:o.map Ex.st=p.map Ex.st)(a:Yo ts o):Yo ts p:=by
 cases p with
 |none=>trivial
 |some f=>
  obtain⟨e,rfl,he⟩:=Ij h.symm rfl;exact(Fb he.symm).trans a
theorem Rl (h:Cc x=Cc y):x.kind=y.kind/\x.name=y.name/\x.cond.map Ex.st=y.cond.map Ex.st/\x.grant.map Ex.st=y.grant.map Ex.st:=by
 simp only[Cc,Sx.mk.injEq,true_and]at h;exact h
theorem JK:∀(S c:List Sx) (ts:List Int),S.map Cc=c.map Cc->IE ts S->IE ts c
 |[],[],_,_,_=>trivial
 |[],y ::c,_,h,_=>by cases h
 |x ::S,[],_,h,_=>by cases h
 |x ::S,y ::c,ts,h,t=>by
  rw[jd,jd]at h;obtain⟨h0,h1⟩:=List.cons.inj h;obtain⟨g,_,hc,hg⟩:=Rl h0;rcases t with⟨k,e,t,a,b,d,f⟩|⟨k,⟨e,a,b⟩,d,f⟩|⟨k,a,d,f⟩
  ·obtain⟨e',i,q⟩:=Ij hc a;exact .inl ⟨g ▸ k,e',t,i,(Fb q).trans b,TQ hg d,JK S c _ h1 f⟩
  ·obtain⟨e',i,q⟩:=Ij hc a;exact .inr (.inl ⟨g ▸ k,⟨e',i,(Fb q).trans b⟩,Xt hg d,JK S c _ h1 f⟩)
  ·exact .inr (.inr ⟨g ▸ k,TQ hc a,Xt hg d,JK S c _ h1 f⟩)
theorem TR:∀(S b:List Sx),S.map Cc=b.map Cc->I8 S->I8 b
 |[],_,_,h=>h.elim
 |x ::S,[],h,_=>by cases h
 |x ::S,y ::b,h,t=>by
  rw[jd,jd]at h;obtain⟨h0,h1⟩:=List.cons.inj h;obtain⟨c,_⟩:=Rl h0;rcases t with⟨k,a⟩|⟨k,a⟩
  ·subst a;exact .inl ⟨c ▸ k,by cases b with|nil=>rfl|cons z d=>cases h1⟩
  ·exact .inr ⟨c ▸ k,TR S b h1 a⟩
theorem Xu:∀(S a:List Sx),S.map Cc=a.map Cc->MP S=MP a
 |[],[],_=>rfl
 |[],y ::a,h=>by cases h
 |x ::S,[],h=>by cases h
 |x ::S,y ::a,h=>by
  rw[jd,jd]at h;obtain⟨h0,h1⟩:=List.cons.inj h;obtain⟨b,d,_⟩:=Rl h0;have c:=Xu S a h1;by_cases k:x.kind=1
  ·rw[Mg k,Mg (b ▸ k),d,c]
  ·rw[JH k,JH (b ▸ k),c]
theorem Xv:∀(S a:List Sx),S.map Cc=a.map Cc->Bu S=Bu a
 |[],[],_=>rfl
 |[],y ::a,h=>by cases h
 |x ::S,[],h=>by cases h
 |x ::S,y ::a,h=>by
  rw[jd,jd]at h;obtain⟨h0,h1⟩:=List.cons.inj h;obtain⟨_,_,hc,hg⟩:=Rl h0;rw[A4,A4,Xv S a h1,<-J4 x.cond,<-J4 x.grant,hc,hg,J4,J4]
theorem Afj:∀(S a:List Sx),S.map Cc=a.map Cc->∀y∈a,∃x∈S,Cc x=Cc y:=fun S a h y hy=>by
 have:Cc y∈S.map Cc:=by rw[h];exact List.mem_map_of_mem hy
 obtain⟨x,hx,e⟩:=zg.1 this;exact⟨x,hx,e⟩
theorem Zx {X a:List Sx}(h:X.map Cc=a.map Cc)(hg:GdX X):∀y∈a,(∀e,y.cond=some e->e.typed)/\(∀e,y.grant=some e->e.typed):=fun y hy=>by
 obtain⟨x,hx,e⟩:=Afj X a h y hy;obtain⟨_,_,hc,c⟩:=Rl e;refine⟨fun f hf=>?_,fun f hf=>?_⟩
 ·obtain⟨e',b,q⟩:=Ij hc.symm hf;exact Bf (FO q.symm ((hg x hx).1 e' b).1)
 ·obtain⟨e',b,q⟩:=Ij c.symm hf;exact Bf (FO q.symm ((hg x hx).2 e' b).1)
theorem Ds {a b:Nat}(h:a<=b):∀(e:Ex),Mv a e->Mv b e
 |.lett _ m,q=>⟨q.1,by have:=q.2;omega⟩
 |.un _ _ k,q=>Ds h k q
 |.bin _ _ l r,q=>⟨Ds h l q.1,Ds h r q.2⟩
 |.ite _ c t e,q=>⟨Ds h c q.1,Ds h t q.2.1,Ds h e q.2.2⟩
 |.int ..,_=>trivial
 |.text ..,_=>trivial
 |.bool ..,_=>trivial
 |.set ..,_=>trivial
 |.name ..,_=>trivial
 |.attr ..,_=>trivial
theorem UU:∀(S:List Sx) (ts:List Int),IE ts S->∀x∈S,(∀e,x.cond=some e->Mv (ts.length+AS S) e)/\(∀e,x.grant=some e->Mv (ts.length+AS S) e)
 |[],_,_,x,hx=>by cases hx
 |y ::S,ts,t,x,hx=>by
  have i:AS S<=AS (y ::S):=by unfold AS;exact((List.sublist_cons_self y S).filter _).length_le
  have c:∀e,Yo ts y.grant->y.grant=some e->Mv (ts.length+AS (y ::S)) e:=fun e h he=>by
   rw[he]at h;exact Ds (by omega) e (Ez e ⟨4,h⟩)
  have up:∀n,n<=ts.length+AS (y ::S)->((∀e,x.cond=some e->Mv n e)/\(∀e,x.grant=some e->Mv n e))->(∀e,x.cond=some e->Mv (ts.length+AS (y ::S)) e)/\(∀e,x.grant=some e->Mv (ts.length+AS (y ::S)) e):=fun n g q=>⟨fun e he=>Ds g e (q.1 e he),fun e he=>Ds g e (q.2 e he)⟩
  rcases t with⟨k,e,t,a,b,d,f⟩|⟨k,⟨e,a,b⟩,d,f⟩|⟨k,a,d,f⟩
  ·have e1:AS (y ::S)=AS S+1:=by unfold AS;simp[k]
   rcases zP.1 hx with rfl|hx
   ·exact⟨fun e' he=>by rw[a]at he;cases he;exact Ds (by omega) e (Ez e ⟨t,b⟩),fun e' he=>by rw[d]at he;cases he⟩
   ·exact up _ (by simp;omega) (UU S (ts++[t]) f x hx)
  ·rcases zP.1 hx with rfl|hx
   ·exact⟨fun e' he=>by rw[a]at he;cases he;exact Ds (by omega) e (Ez e ⟨1,b⟩),fun e' he=>c e' d he⟩
   ·exact up _ (by omega) (UU S ts f x hx)
  ·rcases zP.1 hx with rfl|hx
   ·exact⟨(fun e' he=>by rw[a]at he;cases he),fun e' he=>c e' d he⟩
   ·exact up _ (by omega) (UU S ts f x hx)
theorem JL:∀(S:List Sx) (ts:List Int),IE ts S->∀x∈S,x.kind=1\/x.kind=2->∃e,x.cond=some e
 |[],_,_,x,hx,_=>by cases hx
 |y ::S,ts,t,x,hx,hk=>by
  rcases t with⟨k,e,t,a,b,d,f⟩|⟨k,⟨e,a,b⟩,d,f⟩|⟨k,a,d,f⟩
  ·rcases zP.1 hx with rfl|hx
   ·exact⟨e,a⟩
   ·exact JL S _ f x hx hk
  ·rcases zP.1 hx with rfl|hx
   ·exact⟨e,a⟩
   ·exact JL S _ f x hx hk
  ·rcases zP.1 hx with rfl|hx
   ·omega
   ·exact JL S _ f x hx hk
theorem Mz:∀(S:List Sx),∀y∈Bb S,∃x∈S,y.at'=x.at'/\(y.cond=T\/y.cond=x.cond)/\y.grant=x.grant
 |[],y,hy=>by cases hy
 |x ::S,y,hy=>by
  rw[Bb]at hy;split at hy
  ·obtain⟨z,a,e⟩:=Mz S y hy;exact⟨z,zf _ a,e⟩
  ·split at hy
   ·rw[zS.1 hy];exact⟨x,za,rfl,.inl rfl,rfl⟩
   ·rcases zP.1 hy with rfl|hy
    ·exact⟨y,za,rfl,.inr rfl,rfl⟩
    ·obtain⟨z,a,e⟩:=Mz S y hy;exact⟨z,zf _ a,e⟩
theorem Sa.dec {X:List Sx}(h:Sa G w X):Sa G w (Bb X):=fun y hy=>by
 obtain⟨x,hx,_,hc,hg⟩:=Mz X y hy;refine⟨fun e he=>?_,fun e he=>(h x hx).2 e (hg ▸ he)⟩;rcases hc with hc|hc
 ·rw[hc]at he;cases he
 ·exact(h x hx).1 e (hc ▸ he)
theorem Abc {X:List Sx}(h:I8 X):X≠ []:=fun e=>by subst e;exact h
theorem AjH {X:List Sx}(h:I8 X):Ed 0 X≠ []:=fun e=>by
 have:=Mf X 0 [] h;rw[e]at this;exact this
theorem Afk {X a:List Sx}(h1:X.map Cc=(Ce [] S).map Cc)(h2:a.map Cc=(Qt (Bb X)).map Cc):(BM S).map Cc=a.map Cc:=by
 rw[BM,h2,<-US,<-Mt,<-h1,Mt,US]
def OpF (o:List Nd×List St×List Int) (lo:Nat) (r:Ending) (w':Z):Prop:=∃x n cx y m cy z p cz nv kv hi,r=jH (jG #[Y x n cx,Y y m cy,Y z p cz])/\ED w' lo hi x n cx y m cy z p cz o.1 nv kv o.2.1 o.2.2
theorem Acz (w:Z)(lo:Nat):ED w lo w.heap.size T 0 0 T 0 0 T 0 0 [] [] [] [] []:=by
 refine⟨⟨rfl,rfl,jX _ _ _ _,?_,?_,?_,?_⟩,jX _ _ _ _,jX _ _ _ _,?_,⟨?_,?_,?_⟩,?_,?_,NLN,rfl,rfl,rfl⟩
 ·intro j a;cases a
 ·intro j a;cases a
 ·intro i j b a;cases a
 ·intro i j b a;cases a
 ·intro q hq;cases hq
 ·intro q hq;cases hq
 ·intro j a;cases a
 ·intro j a;cases a
 ·intro q hq;cases hq
 ·intro q hq;cases hq
theorem Xw:∀(S:List Sx) (ls:List Ex),(Ce ls S).length=S.length
 |[],_=>rfl
 |x ::S,ls=>by rw[Ce,jY,jY,Xw S]
theorem Xx:∀(S:List Sx),(Bb S).length<=S.length
 |[]=>NLN
 |x ::S=>by
  have:=Xx S;rw[Bb];split
  ·rw[jY];omega
  ·split
   ·simp
   ·rw[jY,jY];omega
theorem Afl {Es:List Ex}{k:Int}{e:Ex}(h:CG Es k=X e):e∈Es:=by
 unfold CG at h;split at h
 ·cases h
 ·exact zp h
theorem TS {b:Nat}{a c d:Value}(R:Ag w b #[a,c,d] t):w.cell? ⟨b,0,T⟩=X a/\w.cell? ⟨b,1,T⟩=X c/\w.cell? ⟨b,2,T⟩=X d:=⟨R.cell 0,R.cell 1,R.cell 2⟩
end
section
variable {aS aO aZ aW : jD}
theorem ED.seal {lo hi:Nat}{x:Option jD}{n c:Nat}{y:Option jD}{m d:Nat}{z:Option jD}{p f:Nat}{N:List Nd}{g i:List R}{L:List St}{T:List Int}(h:ED w lo hi x n c y m d z p f N g i L T)(a:∀q,lo<=q->w'.heap[q]? =w.heap[q]?)(hs:w.heap.size<=w'.heap.size)(lo':Nat)(b:lo'<=lo):ED w' lo' hi x n c y m d z p f N g i L T:=
 ⟨(h.nd.blocks fun q h1 _=>a q h1).low b,Dv (Ak h.st fun q hq=>a q (h.st.lt q hq).1) b,Dv (Ak h.ty fun q hq=>a q (h.ty.lt q hq).1) b,h.apart,h.inN,h.inS,h.inT,zB h.top hs,h.nn,h.ns,h.nt⟩
theorem Sp (a b e:Option jD)(n c m d k f:Nat)(N:List Nd)(L:List St)(T:List Int)(aT ax ay:jD)(w:Z)(h1:GY w a n c N)(h2:Jl w b m d L)(h3:AK w e k f T)(a1:Ko w)(a2:N9 w aT)(C:RL w ax ay)(hS:CZ w aS aO aZ aW)(a3:∀x∈N,Di x.num/\x.names.length<=1048576):
  jE j4 7 #[jG #[Y a n c,Y b m d,Y e k f]] w fun t w'=>(∃o,UC N L T o/\OpF o w.heap.size t w')/\Below w.heap.size w w':=by
 have a4:=Ab h1.len;have a5:=Ab h2.len;have az:=Ab a3;have I:=(Ag.new w #[Y a n c,Y b m d,Y e k f] 31).alloc (Fo none 0 0 none 0 0 none 0 0);have J:=Ag.new (w.alloc (Fo a n c b m d e k f)) #[Y none 0 0,Y none 0 0,Y none 0 0] 31;simp only[jW]at J;have r:=(Av w (Fo a n c b m d e k f)).alloc (by simp) (Fo none 0 0 none 0 0 none 0 0);have K:=h1.below r NLN;have M:=h2.below r NLN;have aA:=h3.below r NLN;have aB:=a1.below r NLN;have O:=a2.below r NLN;have P:=C.below r NLN;have aC:=hS.below r NLN;clear h1 h2 h3 a1 a2 C hS a3;have bT:∃aD,aD=(w.alloc (Fo a n c b m d e k f)).alloc (Fo none 0 0 none 0 0 none 0 0):=⟨_,rfl⟩
 obtain⟨W,aa,ab⟩:=TS I;go_enter func7,ntmps7
 go_wp2_with fail
 obtain⟨aD,aE⟩:=bT;have zW:aD.heap.size=w.heap.size+2:=by rw[aE];simp
 rw[<-aE]at I J r K M aA aB O P aC W aa ab|-;clear aE;refine(PS a b e n c m d k f N L T aT ax ay _ K M aA aB O P).mono ?_;rintro t ac ⟨⟨v,rfl,hv⟩,z⟩;have ad:=Ab hv;clear hv;have a6:=K.below z NLN;have a7:=M.below z NLN;have a8:=O.below z NLN;have a9:=P.below z NLN;have ba:=aC.below z NLN;have bb:=I.after z NLN;have F:=J.after z NLN;have ae:=r.trans (z.mono r.size);have co:=z.size;clear K M aA aB O P aC I J r W aa ab z;obtain⟨W,aa,ab⟩:=TS bb;obtain⟨bc,bd,r2⟩:=TS F;have bf:=fun j=>F.frozen j;dsimp only;cases v with
 |false=>
  have aF:=((F.set 0 (Y none 0 0)).set 1 (Y none 0 0)).set 2 (Y none 0 0);have aG:=((ae.setCell (p:=⟨w.heap.size+1,0,none⟩) (zj _) (Y none 0 0)).setCell (p:=⟨w.heap.size+1,1,none⟩) (zj _) (Y none 0 0)).setCell (p:=⟨w.heap.size+1,2,none⟩) (zj _) (Y none 0 0);go_wp2_with fail
  obtain⟨e0,e1,e2⟩:=TS aF;exact jN (v:= jG #[Y none 0 0,Y none 0 0,Y none 0 0]) (by simp[jR,results7,go_sem,e0,e1,e2]) rfl ⟨⟨_,.inl ⟨Aa ad,rfl⟩,_,_,_,_,_,_,_,_,_,_,_,_,rfl,Acz _ _⟩,aG⟩
 |true=>
  have bg:Bn N L=jA:=by
   rcases Aa ad with⟨_,h⟩|⟨h,_⟩
   ·cases h
   ·exact h
  have af:=Ab (BJ bg);clear bg;have bh:=Ab (fun (ag:Z) (bi:Below ac.heap.size ac ag)=>GZ a b n c m d N L ac ag a6 bi (a7.below bi NLN) (fun e=>e.typed/\e.mem (fun b=>b<ac.heap.size) ac) (AbB (Aa af) (fun x hx=>⟨(Aa az x hx).2,(Aa az x hx).1⟩)) (by rw[<-Aa a4];exact(Aa af).roots));clear a6 a7 bc bd r2 bf;go_wp2_with fail
  refine(Jk _ _ _ _ _ _ _ _ _ _).mono ?_;rintro t ag ⟨rfl,ah⟩;dsimp only;go_wp2_with fail
  refine(Aa bh ag ah).mono ?_;rintro t ai ⟨⟨v,Es,rfl,bj,C,hf,aH⟩,bk⟩;have A:=ah.trans (bk.mono ah.size);have bl:=Ab (show Es.length=N.length by rw[bj,Aa a4]);have bU:=Ab C;obtain⟨bV,i⟩:=YX (Aa ad) (Aa az) (Aa bl) C;have aI:=Ab i;have cp: 1<=m/\m<=600:=by rw[<-Aa a5];exact⟨(Aa af).m0,(Aa af).m⟩
  obtain⟨cq,bW,rfl,hx⟩:=Ae aH;obtain⟨g,rfl,hg,bm⟩:=hx (by omega);obtain⟨bX,aJ,bY⟩:=Gp aH;have bn:Yt ai g (It Es 0 L):=⟨bX,aJ,fun t u bZ=>by rw[<-aJ.cell];exact bm t u (by rw[Adt];exact bZ)⟩
  have aj:=Ab (show(It Es 0 L).length=m by rw[LI];exact Aa a5);have bo:Sa TT ai (It Es 0 L):=fun x hx=>by
   obtain⟨bp,_,e1,e2,_,_⟩:=Uv hx;have bq:∀(k:Int),Zo TT ai (CG Es k):=fun k e he=>by
    have b0:e∈Es:=Afl he;exact Ex.mem_le (fun _ _ _=>trivial) e (e.mem_below A NLN (hf e b0).2)
   rw[e1,e2];exact⟨bq _,bq _⟩
  have br:=Ab (show ∀x∈It Es 0 L,∃q:Nat,x.at'=q from fun x hx=>by
   obtain⟨j,aK,rfl⟩:=zy hx;rw[LI]at aK;have:=Y9 Es L 0 j aK;rw[zG (by rw[LI];exact aK)]at this;rw[Option.some.inj this];exact⟨_,rfl⟩)
  have bs:=Ab (fun o=>show o=(AM 0 (BM (It Es 0 L)),BK 0 (BM (It Es 0 L)),IA [] (BM (It Es 0 L)))->UC N L T o from fun b1=> .inr ⟨Aa ad,Es,Aa bl,Aa bU,b1⟩);have aL:=Ab (ND (aS:=aS) (aO:=aO) (aZ:=aZ) (aW:=aW) (It Es 0 L) m g bW ai (Aa aj) (by omega) bn i.gd i.ty bo (ba.below A NLN));have bt:=F.after A NLN;have aM:=ae.trans (A.mono ae.size);have bu:=a8.below A NLN;have bv:=a9.below A NLN;clear bj C hf aH hx bm bY aJ bh ah bk i bV bn bo W aa ab bb F ae a8 a9 ba;generalize It Es 0 L=S at aI aj br bs aL;dsimp only;go_wp2_with fail
  refine(Aa aL).mono ?_;rintro t b2 ⟨cr,X,rfl,aN,G,bw,bx,H⟩;have i:=Aa aI;have b3:X.length=m:=by
   have:=congrArg List.length G;simp only[ze]at this;rw[this,<-Aa aj];exact Xw _ _
  have tyX:=JK _ X [] G.symm (JZ S [] [] (fun n c hc=>by simp at hc) rfl i.ty);have bz:=TR _ X G.symm (QE S [] i.en);have b4:=Ab tyX;have b5:=Ab bz;have b6:=Ab G;have b7:=Ab bx;obtain⟨b8,c4,rfl,cs,_⟩:=aN.form (by omega);have bA:=Pp aN;have bB:=Ab (Lo X X.length b8 c4 b2 rfl (by omega) bA (fun x hx aP=>JL X [] tyX x hx (.inr aP)));have ct:X.length<=600:=by omega
  have bC:=bt.after H NLN;have aQ:=aM.trans (H.mono aM.size);have bD:=bu.below H NLN;have bE:=bv.below H NLN;have cu:=A.size;clear aL aN G bx H i tyX bz bA bt aM bu bv b3;dsimp only;go_wp2_with fail
  refine(Aa bB).mono ?_;rintro t bF ⟨cv,rfl,aR,D⟩;have ak:=IF X [] (Aa b4);have aU:=QF X (Aa b5);have b9: 0<(Bb X).length:=List.length_pos_iff.2 (Abc aU);have cw:(Bb X).length<=600:=by
   have:=Xx X;omega
  have bG:Sa TT bF (Bb X):=bw.dec.map fun e he=>Ex.mem_le (fun _ _ _=>trivial) e (e.mem_below D NLN he);obtain⟨ca,c5,rfl,cx,_⟩:=aR.form b9;have bH:=Ab (UT (Bb X) (Bb X).length ca c5 bF rfl (by omega) (Pp aR) bG (fun x hx aP=>JL _ [] ak x hx (.inl aP)) (fun x hx=>by have:=UU _ [] ak x hx;simpa using this) (AjH aU)
   (fun q hq cb hm=>by
    rcases Me (Bb X) [] ak q hq cb hm with h|h
    ·simp at h
    ·exact h) (UJ (Bb X) 0).2)
  have bI:=bC.after D NLN;have aV:=aQ.trans (D.mono aQ.size);have bJ:=bD.below D NLN;have bK:=bE.below D NLN;clear bB aR D bw bG ak aU bC aQ bD bE;dsimp only;go_wp2_with fail
  refine(Aa bH).mono ?_;rintro t cc ⟨cy,l,rfl,aX,bL,bM,bN,E⟩;have B:=Afk (Aa b6) bL;have i:=Aa aI;have bO: 0<l.length/\l.length<=600:=by
   have e1:=congrArg List.length B;simp only[ze]at e1;have e2:=Qj S;have e3: 0<(BM S).length:=List.length_pos_iff.2 (Abc (Pq i.en i.nm).1);have e4:=Aa aj;omega
  obtain⟨cd,ce,rfl,cz,_⟩:=aX.form bO.1;have cf:=bI.after E NLN;have bP:=aV.trans (E.mono aV.size);have cg:=bJ.below E NLN;have ch:=bK.below E NLN;have cA:=E.size;have bQ:=Ab (Xs l l.length cd ce aT ax ay cc rfl bO.2 (Pp aX) (fun y hy=>by
    obtain⟨s,hs,e1⟩:=bN y hy;obtain⟨bp,ci,e2,_⟩:=Mz X s hs;obtain⟨s2,cj,e3⟩:=Aa b7 bp ci;obtain⟨q,hq⟩:=Aa br s2 cj;exact⟨q,by rw[e1,e2,e3,hq]⟩) bM cg ch (JK _ l [] B (UE i.ty))
   (by
    have:=i.lt.sub (Pq i.en i.nm).2.2;unfold Vg at this|-;rw[<-Xu _ l B];exact this) (Zx B (UD i.gd)) (by rw[<-Xv _ l B];exact zB (Qi S) i.cnt))
  have ck:=Ab (show(AM 0 (BM S),BK 0 (BM S),IA [] (BM S))=(AM 0 l,BK 0 l,IA [] l) by
   rw[<-Mr (BM S),<-Ms (BM S),<-Re (BM S),B,Mr,Ms,Re])
  clear bH aX bL bM bN E B i bI aV bJ bK;dsimp only;go_wp2_with fail
  refine(Aa bQ).mono ?_;rintro t cl ⟨⟨x7,al,ao,ap,aq,ar,au,av,aw,cB,cC,cD,rfl,bR⟩,bS⟩;have aY:=cf.after bS NLN;have cm:=bP.trans (bS.mono bP.size);have aF:=((aY.set 0 (Y x7 al ao)).set 1 (Y ap aq ar)).set 2 (Y au av aw);have aG:=((cm.setCell (p:=⟨w.heap.size+1,0,none⟩) (zj _) (Y x7 al ao)).setCell (p:=⟨w.heap.size+1,1,none⟩) (zj _) (Y ap aq ar)).setCell (p:=⟨w.heap.size+1,2,none⟩) (zj _) (Y au av aw);have cn:=Ab (bR.seal (w':=((cl.setCell ⟨w.heap.size+1,0,none⟩ (Y x7 al ao)).setCell ⟨w.heap.size+1,1,none⟩ (Y ap aq ar)).setCell ⟨w.heap.size+1,2,none⟩ (Y au av aw)) (fun q hq=>by
   have a0:q≠w.heap.size+1:=by omega
   rw[jc _ _ q _ a0,jc _ _ q _ a0,jc _ _ q _ a0]) (by simp) w.heap.size (by omega))
  obtain⟨bc,bd,r2⟩:=TS aY;have bf:=fun j=>aY.frozen j;clear bR bQ;dsimp only;go_wp2_with fail
  obtain⟨e0,e1,e2⟩:=TS aF;exact jN (v:= jG #[Y x7 al ao,Y ap aq ar,Y au av aw]) (by simp[jR,results7,go_sem,e0,e1,e2]) rfl ⟨⟨(AM 0 l,BK 0 l,IA [] l),Aa bs _ (Aa ck).symm,_,_,_,_,_,_,_,_,_,_,_,_,rfl,Aa cn⟩,aG⟩
end
section
structure AbW (w:Z) (a b f:Option jD) (n c m d p g:Nat) (N:List Nd) (L:List St) (T:List Int) (aT aN aA aS aO aZ aW:jD):Prop where
 nd:Pa w a n c N
 st:Pb w b m d L
 it:Gv w f p g T
 tab:Ko w
 vo:N9 w aT
 eo:RL w aN aA
 se:CZ w aS aO aZ aW
theorem AbW.below {w w':Z}{B:Nat}{a b f:Option jD}{n c m d p g:Nat}{N:List Nd}{L:List St}{T:List Int}{aT j k aS aO aZ aW:jD}(h:AbW w a b f n c m d p g N L T aT j k aS aO aZ aW)(i:Below B w w')(hB:w.heap.size<=B):AbW w' a b f n c m d p g N L T aT j k aS aO aZ aW:=
 ⟨h.nd.below i hB,h.st.below i hB,h.it.below i hB,h.tab.below i hB,h.vo.below i hB,h.eo.below i hB,h.se.below i hB⟩
def CpQ (w:Z) (x1 x2 x3:jD) (n m p:Nat) (N:List Nd) (L:List St) (T:List Int):Prop:=GY w (X x1) n n N/\Jl w (X x2) m m L/\AK w (X x3) p p T/\NmQ w (X x1) N
theorem CpQ.below {w w':Z}{b x2 x3:jD}{n m p:Nat}{N:List Nd}{L:List St}{T:List Int}(h:CpQ w b x2 x3 n m p N L T)(a:Below w.heap.size w w'):CpQ w' b x2 x3 n m p N L T:=
 ⟨h.1.below a NLN,h.2.1.below a NLN,h.2.2.1.below a NLN,h.2.2.2.below h.1 a⟩
theorem NmQ.of_hi {g:Nat}{N:List Nd}(h:Hi w g N)(hs:∀x∈N,EW x):NmQ w (X ⟨g,0,T⟩) N:=by
 obtain⟨cs,⟨R,_⟩,hx⟩:=h;intro j a b i e an nn cn hc;cases e;obtain⟨k,n1,x2,n2,_,_,_,d3,_,_,_,c,_⟩:=hx j a;rw[zU,R.cell,d3]at hc;cases hc;obtain⟨q,d,rfl,f,z⟩:=c.1;exact⟨(hs _ (zH a)).2.1,fun e=>(nomatch e),fun l e=>by cases e;exact⟨d,f⟩⟩
def TyQ (w:Z) (x:Option jD) (n cx:Nat) (y:Option jD) (m cy:Nat) (z:Option jD) (p cz:Nat) (t:List Nd×List St×List Int):Prop:=GY w x n cx t.1/\Jl w y m cy t.2.1/\AK w z p cz t.2.2
theorem TyQ.below {w w':Z}{x y z:Option jD}{n b m c p d:Nat}{t:List Nd×List St×List Int}(h:TyQ w x n b y m c z p d t)(a:Below w.heap.size w w'):TyQ w' x n b y m c z p d t:=
 ⟨h.1.below a NLN,h.2.1.below a NLN,h.2.2.below a NLN⟩
theorem Ah2 {x y z c d f:Option jD}{n g m i p j n' l a o b q:Nat}{t:List Nd×List St×List Int}(h:TyQ w x n g y m i z p j t)(k:TyQ w c n' l d a o f b q t):
  jE j4 8 #[jG #[Y x n g,Y y m i,Y z p j],jG #[Y c n' l,Y d a o,Y f b q]] w fun e w'=>e=jH (.bool jA)/\Below w.heap.size w w':=by
 obtain rfl:n=n':=h.1.len.symm.trans k.1.len;obtain rfl:m=a:=h.2.1.len.symm.trans k.2.1.len;obtain rfl:p=b:=h.2.2.len.symm.trans k.2.2.len;exact L9 _ _ _ _ _ _ _ _ _ _ _ _ _ _ _ t.1 t.2.1 t.2.2 w h.1 k.1 h.2.1 k.2.1 h.2.2 k.2.2
theorem Eb {b lo:Nat}(h:Ag w b cs t)(T:As lo hi w w')(a:b<lo\/hi<=b):Ag w' b cs t:=⟨(T.block b h.lt a).trans h.out⟩
theorem YW {x:Nd}(h:AD x=jA):x.names.length+x.kids.length<=65535:=by
 rw[AD,zF,zI]at h;obtain⟨a,hq⟩:=h;have b:x.kids.length<=3:=by
  have:CI x.op<=3:=by unfold CI;repeat' split;all_goals omega
  omega
 unfold JT VR at hq
 repeat' split at hq
 all_goals first
  |(cases hq;done)
  |(simp only[zF,zI]at hq;omega)
  |(simp only[zF,zI]at hq;obtain⟨s1,s2⟩:=Oi hq.1.1;omega)
theorem Ah3 {N:List Nd}{L:List St}{T:List Int}{o:List Nd×List St×List Int}(c:∀x∈N,Di x.num/\x.names.length<=1048576)(h:UC N L T o):okT o.1 o.2.1 o.2.2:=by
 rcases h with⟨_,rfl⟩|⟨hv,Es,h1,h2,rfl⟩
 ·exact⟨⟨by simp,fun x hx=>(by cases hx)⟩,⟨by simp,fun s hs=>(by cases hs)⟩,by simp⟩
 ·obtain⟨_,a⟩:=YX hv c h1 h2;obtain⟨d,o2,k⟩:=Pq a.en a.nm;have b:=UD a.gd;have f:=UE a.ty;have g:Bu (BM (It Es 0 L))<=4000:=zB (Qi _) a.cnt;have i:(BM (It Es 0 L)).length<=600:=zB (Qj _) (by rw[a.len];exact a.sm);have j:=BJ (Wp f b d o2 g i);refine⟨⟨by show(AM 0 _).length<=_;rw[El];omega,fun x hx=>?_⟩,⟨by show(BK 0 _).length<=_;rw[Fh];omega,fun s hs=>?_⟩,by show(IA [] _).length<=_;rw[UF];omega⟩
  ·have hf:=IB _ 0 b x hx;have:=Qk hf;exact⟨this.1,this.2,YW hf⟩
  ·obtain⟨x,hx,e1,e2⟩:=Nh _ 0 s hs;rcases j.stm s hs with⟨_,q,_⟩|⟨q,_⟩|⟨q,_⟩
   ·omega
   ·rw[e2,(o2 x hx).2 (by omega)];exact zD _
   ·rw[e2,(o2 x hx).2 (by omega)];exact zD _
section
variable {a b f : Option jD} {n c m d p g : Nat} {N : List Nd} {L : List St} {T : List Int} {aT aN aA aS aO aZ aW : jD}
theorem Pr (h:AbW w a b f n c m d p g N L T aT aN aA aS aO aZ aW)(hs:Ur n m p N L):
  jE j4 6 #[jG #[Y a n c,Y b m d,Y f p g]] w fun e w'=>∃i x2 x3,e=jH (jG #[Y (X i) n n,Y (X x2) m m,Y (X x3) p p])/\CpQ w' i x2 x3 n m p N L T/\Below w.heap.size w w'/\TyZ w' w.heap.size w'.heap.size i x2 x3 n m p:=by
 refine(Wq a b f n c m d p g N L T w h.nd h.st h.it hs).mono ?_;rintro e o ⟨i,x2,x3,rfl,h1,h2,h3,j,M⟩;have k:=M;obtain⟨⟨q,rfl,l⟩,_⟩:=k;exact⟨_,x2,x3,rfl,⟨h1,h2,h3,NmQ.of_hi l hs.1.1.2⟩,j,TyZ.of M h.nd.len hs⟩
theorem AdX {f x2 x3:jD}(h:∀x∈N,Di x.num/\x.names.length<=1048576)(a:CpQ w f x2 x3 n m p N L T):
  jE j4 5 #[jG #[Y (X f) n n,Y (X x2) m m,Y (X x3) p p]] w fun g w'=>∃o,UC N L T o/\(∃x n b y m c z p d,g=jH (jG #[Y x n b,Y y m c,Y z p d])/\TyQ w' x n b y m c z p d o)/\Below w.heap.size w w':=
 (So _ _ _ _ _ _ _ _ _ N L T w a.1 a.2.1 a.2.2.1 a.2.2.2 h).mono fun g w' ⟨o,h1,⟨x,n,b,y,m,c,z,p,d,e,i,j,k⟩,l⟩=>⟨o,h1,⟨x,n,b,y,m,c,z,p,d,e,i,j,k⟩,l⟩
theorem Wr (l:∀x∈N,Di x.num/\x.names.length<=1048576)(h:AbW w a b f n c m d p g N L T aT aN aA aS aO aZ aW){j x2 x3:jD}(i:CpQ w j x2 x3 n m p N L T){o:List Nd×List St×List Int}(q:UC N L T o):
  jE j4 7 #[jG #[Y (X j) n n,Y (X x2) m m,Y (X x3) p p]] w fun k w'=>OpF o w.heap.size k w'/\Below w.heap.size w w':=by
 refine(Sp (aS:=aS) (aO:=aO) (aZ:=aZ) (aW:=aW) _ _ _ _ _ _ _ _ _ N L T aT aN aA w i.1 i.2.1 i.2.2.1 h.tab h.vo h.eo h.se l).mono ?_;rintro k s ⟨⟨o',h1,h2⟩,r⟩;rw[q.one h1];exact⟨h2,r⟩
end
end
theorem Jx (a b f:Option jD)(n c m d p g:Nat)(N:List Nd)(L:List St)(T:List Int)(aT bY bZ aS aO aZ aW:jD)(w:Z)(h0:AbW w a b f n c m d p g N L T aT bY bZ aS aO aZ aW)(bH:∀x∈N,Di x.num):
  jE j4 3 #[jG #[Y a n c,Y b m d,Y f p g]] w fun e w'=>e=jH (.bool jA)/\Below w.heap.size w w':=by
 have bI:=Ag.new w #[Y a n c,Y b m d,Y f p g] 26;have aw:=Av w (jF #[Y a n c,Y b m d,Y f p g] 26);have ax:=h0.below aw NLN;have ab:=Ab h0;have b0:=Ab bH;clear bH;go_enter func3,ntmps3
 go_wp2_with fail
 refine(Ws _ _ _ _ _ _ _ _ _ N L T _ ax.nd ax.st ax.it).mono ?_;rintro e cq ⟨⟨b3,rfl,bb⟩,bc⟩;have ay:=bI.after bc NLN;have ah:=aw.trans (bc.mono aw.size);clear bI aw ax bc h0;dsimp only;by_cases cr:b3<0
 ·clear bb;go_wp2_with fail
  go_ret
  exact⟨rfl,ah⟩
 obtain⟨cs,ct,hs⟩:=bb.resolve_left (by omega);have az:=Ab hs;have bd:=Ab (show n<=1048576/\m<=1048576/\p<=1048576 from⟨hs.1.1.1,hs.1.2.1,hs.2⟩);have aA:=Ab (show ∀x∈N,Di x.num/\x.names.length<=1048576 from fun x hx=>⟨Aa b0 x hx,(hs.1.1.2 x hx).2.1⟩);clear hs bb;have cu:=ay.lt;obtain⟨m0,B,G⟩:=BI ay;go_wp2_with fail
 refine(Pr ((Aa ab).below ah NLN) (Aa az)).mono ?_;rintro e cv ⟨M,ai,cw,rfl,bJ,aB,_⟩;clear m0 B G;have bf:=ah.trans (aB.mono ah.size);have bK:=ay.after aB NLN;have aj:=aB.size;clear ah ay aB;dsimp only;go_wp2_with fail
 refine(AdX (Aa aA) bJ).mono ?_;rintro e O ⟨t,hq,⟨aC,n0,aD,aE,m0,aF,aG,aH,aI,rfl,hm⟩,aJ⟩;have bL:=Ab hq;have H:=Ab (Ah3 (Aa aA) hq);have bg:=Ab hm;clear hq hm bJ;have bh:=bf.trans (aJ.mono bf.size);have h:=bK.after aJ NLN;have cx:=aJ.size;clear bf bK aJ;have bi:=Ji O
 try dsimp only
 have aK:=Av O (Fo aC n0 aD aE m0 aF aG aH aI);have i:=Ag.new O #[Y aC n0 aD,Y aE m0 aF,Y aG aH aI] 31;have b4:O.heap.size<(O.alloc (Fo aC n0 aD aE m0 aF aG aH aI)).heap.size:=by simp
 try simp only[jW]at i b4
 have ak:=bh.trans (aK.mono bh.size);have aL:=bi.trans (aK.mono bi.size);have b5:=aK.size;replace h:=h.after aK NLN;clear bh bi;obtain⟨k0,aM,aN⟩:=BI h;go_wp2_with fail
 generalize b6:(O.alloc (Fo aC n0 aD aE m0 aF aG aH aI))=b7 at h i ak aL b5 k0 aM aN|-;clear b6;have cy:O.heap.size<b7.heap.size:=i.lt;refine(Pr ((Aa ab).below ak NLN) (Aa az)).mono ?_;rintro e y ⟨ac,ad,ae,rfl,u,af,s⟩;clear k0 aM aN;have bj:=ak.trans (af.mono ak.size);have bk:=aL.trans (af.mono aL.size);have cz:=af.size;replace h:=h.after af NLN;replace i:=i.after af NLN;clear ak aL;clear af;dsimp only;have P:=Av y (jF #[Y (X ac) n n,Y (X ad) m m,Y (X ae) p p] 31);have j:=Ag.new y #[Y (X ac) n n,Y (X ad) m m,Y (X ae) p p] 31;have b8:y.heap.size<(y.alloc (jF #[Y (X ac) n n,Y (X ad) m m,Y (X ae) p p] 31)).heap.size:=by simp
 try simp only[jW]at j b8
 have al:=bj.trans (P.mono bj.size);have aP:=bk.trans (P.mono bk.size);have b9:=P.size;replace h:=h.after P NLN;replace i:=i.after P NLN;replace u:=u.below P;replace s:=s.below P;clear bj bk;obtain⟨bM,bN,bO⟩:=BI j;go_wp2_with fail
 generalize ca:(y.alloc (jF #[Y (X ac) n n,Y (X ad) m m,Y (X ae) p p] 31))=cb at h i j u s al aP b9 bM bN bO|-;clear ca;have cA:y.heap.size<cb.heap.size:=j.lt;refine(Wr (Aa aA) ((Aa ab).below al NLN) u (Aa bL)).mono ?_;rintro e ag ⟨⟨aQ,n1,aR,aU,B,aV,aX,M,aY,bl,bm,cc,rfl,o⟩,D⟩;clear bM bN bO;have cB:cc<=ag.heap.size:=o.top;have bn:=al.trans (D.mono al.size);have bo:=aP.trans (D.mono aP.size);have cC:=D.size;replace h:=h.after D NLN;replace i:=i.after D NLN;replace j:=j.after D NLN;replace u:=u.below D;replace s:=s.below D;clear al aP;clear D
 try dsimp only
 have E:=Av ag (Fo aQ n1 aR aU B aV aX M aY);have l:=Ag.new ag #[Y aQ n1 aR,Y aU B aV,Y aX M aY] 31;have cd:ag.heap.size<(ag.alloc (Fo aQ n1 aR aU B aV aX M aY)).heap.size:=by simp
 try simp only[jW]at l cd
 have a0:=bn.trans (E.mono bn.size);have ao:=bo.trans (E.mono bo.size);have ce:=E.size;replace h:=h.after E NLN;replace i:=i.after E NLN;replace j:=j.after E NLN;replace o:=o.below E (by have:=o.top;omega);replace u:=u.below E;replace s:=s.below E;clear bn bo;obtain⟨S,b1,b2⟩:=BI i;obtain⟨v,c1,c2⟩:=BI l;have C:=Ab (show TyQ _ _ _ _ _ _ _ _ _ _ t from o.mem (Aa H));go_wp2_with fail
 generalize cf:(ag.alloc (Fo aQ n1 aR aU B aV aX M aY))=cD at h i j l o u s a0 ao ce S b1 b2 v c1 c2 C|-;clear cf;refine(Ah2 (Aa C) ((Aa bg).below ao)).mono ?_;rintro e bP ⟨rfl,k⟩;clear C S b1 b2 v c1 c2;have ap:=a0.trans (k.mono a0.size);have bp:=ao.trans (k.mono ao.size);have cE:=k.size;replace h:=h.after k NLN;replace i:=i.after k NLN;replace j:=j.after k NLN;replace l:=l.after k NLN;replace o:=o.below k (by have:=o.top;omega);replace u:=u.below k;replace s:=s.below k;clear a0 ao;clear k;dsimp only;obtain⟨m0,B,G⟩:=BI h;obtain⟨bq,br,bs⟩:=BI j;go_wp2_with fail
 have aq:=(Ji bP).drew;have keep:∀w',Below bP.heap.size bP w'->((w'.cell? ⟨y.heap.size,0,none⟩=X (Y (X ac) n n)/\w'.cell? ⟨y.heap.size,1,none⟩=X (Y (X ad) m m)/\w'.cell? ⟨y.heap.size,2,none⟩=X (Y (X ae) p p))/\w'.cell? ⟨w.heap.size,0,none⟩=X (Y a n c)/\w'.cell? ⟨w.heap.size,1,none⟩=X (Y b m d)/\w'.cell? ⟨w.heap.size,2,none⟩=X (Y f p g)):=fun w' bQ=>⟨BI (j.after bQ NLN),BI (h.after bQ NLN)⟩
 have bt:=Ab keep;have cg:=keep _ aq;have bR:=Ab ((Aa ab).below (ap.trans (aq.mono ap.size)) NLN);clear keep m0 B G bq br bs;go_region_held3 (fun w'=>(w'.cell? ⟨y.heap.size,0,none⟩=X (Y (X ac) n n)/\w'.cell? ⟨y.heap.size,1,none⟩=X (Y (X ad) m m)/\w'.cell? ⟨y.heap.size,2,none⟩=X (Y (X ae) p p))/\w'.cell? ⟨w.heap.size,0,none⟩=X (Y a n c)/\w'.cell? ⟨w.heap.size,1,none⟩=X (Y b m d)/\w'.cell? ⟨w.heap.size,2,none⟩=X (Y f p g)) (first|assumption|fail) (first
  |(go_at_call 6;refine(Pr (Aa bR) (Aa az)).mono ?_;rintro e cF ⟨cG,cH,cI,rfl,a1,bS,ch⟩;have ar:=aq.trans (bS.mono aq.size);have ci:=Aa bt _ ar;have a2:=u.below ar)
  |(go_at_call 8;refine(L9 _ _ _ _ _ _ _ _ _ _ _ _ _ _ _ N L T _ a2.1 a1.1 a2.2.1 a1.2.1 a2.2.2.1 a1.2.2.1).mono ?_;rintro e cJ ⟨rfl,bT⟩;have z:=ar.trans (bT.mono ar.size);have cj:=Aa bt _ z))
 clear bt cg ci cj bR ch a2 a1 bS bT ar aq u;have bu:=ap.trans (z.mono ap.size);have bv:=bp.trans (z.mono bp.size);have cK:=z.size;replace h:=h.after z NLN;replace i:=i.after z NLN;replace j:=j.after z NLN;replace l:=l.after z NLN;replace o:=o.below z (by have:=o.top;omega);replace s:=s.below z;clear ap bp;clear z;obtain⟨bq,br,bs⟩:=BI j;go_wp2_with fail
 refine(VK _ _ _ _ _ n m p _ s (by omega) (Aa bd).1 (Aa bd).2.1 (Aa bd).2.2).mono ?_;rintro e cL ⟨⟨ck,rfl,cM⟩,I⟩;clear bq br bs s;have bw:=Gw bu I (by omega) bu.size;have a3:=Gw bv I (by omega) bv.size;replace h:=Eb h I (.inl (by omega));replace i:=Eb i I (.inl (by omega));replace j:=Eb j I (.inr (by omega));replace l:=Eb l I (.inr (by omega));replace o:=o.touch I (.inr (by omega));clear bu bv;clear I;have cN: ¬ ((ck:Int)<0):=by omega
 dsimp only;obtain⟨S,b1,b2⟩:=BI i;obtain⟨v,c1,c2⟩:=BI l;have C:=Ab (show TyQ _ _ _ _ _ _ _ _ _ _ t from o.mem (Aa H));go_wp2_with fail
 refine(Ah2 (Aa C) ((Aa bg).below a3)).mono ?_;rintro e cO ⟨rfl,k⟩;clear C S b1 b2 v c1 c2;have bx:=bw.trans (k.mono bw.size);have bz:=a3.trans (k.mono a3.size);replace h:=h.after k NLN;replace i:=i.after k NLN;replace j:=j.after k NLN;replace l:=l.after k NLN;replace o:=o.below k (by have:=o.top;omega);clear bw a3;clear k;dsimp only;obtain⟨v,c1,c2⟩:=BI l;go_wp2_with fail
 refine(Sq _ _ _ _ _ _ _ _ _ _ _ _ bl bm _ _ _ o (Aa H)).mono ?_;rintro e cP ⟨rfl,q,W⟩;have bU:=jS o.ns o.nt;clear v c1 c2 o;have bA:=Gw bx W (by omega) bx.size;have bB:=Gw bz W (by omega) bz.size;replace h:=Eb h W (.inl (by omega));replace i:=Eb i W (.inl (by omega));replace j:=Eb j W (.inl (by omega));replace l:=Eb l W (.inr (by omega));clear bx bz;clear W;dsimp only;have bV:B<=65535:=by rw[<-bU.1];exact(Aa H).2.1.1
 have bW:M<=65535:=by rw[<-bU.2];exact(Aa H).2.2
 obtain⟨v,c1,c2⟩:=BI l;go_wp2_with fail
 refine(Kv _ _ _ _ _ _ _ _ _ _ _ _ bl bm _ _ _ q (Aa H) bV bW).mono ?_;rintro e cQ ⟨rfl,r⟩;clear v c1 c2;have a4:=bA.trans (r.mono bA.size);have bC:=bB.trans (r.mono bB.size);replace h:=h.after r NLN;replace i:=i.after r NLN;replace j:=j.after r NLN;replace l:=l.after r NLN;replace q:=q.below r (by have:=q.top;omega);clear bA bB;clear r;dsimp only;have hq: ¬ (mkY t.1 B M<0):=by unfold mkY;omega
 obtain⟨k0,aM,aN⟩:=BI h;go_wp2_with fail
 refine(Pr ((Aa ab).below a4 NLN) (Aa az)).mono ?_;rintro e cR ⟨cS,cT,cU,rfl,bX,J,_⟩;clear k0 aM aN;have a5:=a4.trans (J.mono a4.size);have bD:=bC.trans (J.mono bC.size);replace h:=h.after J NLN;replace i:=i.after J NLN;replace j:=j.after J NLN;replace l:=l.after J NLN;replace q:=q.below J (by have:=q.top;omega);clear a4 bC;clear J;dsimp only;go_wp2_with fail
 refine(Wr (Aa aA) ((Aa ab).below a5 NLN) bX (Aa bL)).mono ?_;rintro e au ⟨⟨x2,n2,a6,a7,G,a8,aj,ai,a9,cV,cW,cX,rfl,A⟩,K⟩;clear bX;have bE:=a5.trans (K.mono a5.size);have bF:=bD.trans (K.mono bD.size);replace h:=h.after K NLN;replace i:=i.after K NLN;replace j:=j.after K NLN;replace l:=l.after K NLN;replace q:=q.below K (by have:=q.top;omega);clear a5 bD;clear K
 try dsimp only
 have F:=Av au (Fo x2 n2 a6 a7 G a8 aj ai a9);have aa:=Ag.new au #[Y x2 n2 a6,Y a7 G a8,Y aj ai a9] 31;have cl:au.heap.size<(au.alloc (Fo x2 n2 a6 a7 G a8 aj ai a9)).heap.size:=by simp
 try simp only[jW]at aa cl
 have ba:=bE.trans (F.mono bE.size);have av:=bF.trans (F.mono bF.size);have cm:=F.size;replace h:=h.after F NLN;replace i:=i.after F NLN;replace j:=j.after F NLN;replace l:=l.after F NLN;replace q:=q.below F (by have:=q.top;omega);replace A:=A.below F (by have:=A.top;omega);clear bE bF;obtain⟨S,b1,b2⟩:=BI i;obtain⟨v,c1,c2⟩:=BI aa;have C:=Ab (show TyQ _ _ _ _ _ _ _ _ _ _ t from A.mem (Aa H));go_wp2_with fail
 generalize cn:(au.alloc (Fo x2 n2 a6 a7 G a8 aj ai a9))=cY at h i j l aa q A ba av cm S b1 b2 v c1 c2 C|-;clear cn;refine(Ah2 (Aa C) ((Aa bg).below av)).mono ?_;rintro e cZ ⟨rfl,k⟩;clear C S b1 b2 v c1 c2;have bG:=ba.trans (k.mono ba.size);have co:=av.trans (k.mono av.size);replace h:=h.after k NLN;replace i:=i.after k NLN;replace j:=j.after k NLN;replace l:=l.after k NLN;replace aa:=aa.after k NLN;replace q:=q.below k (by have:=q.top;omega);replace A:=A.below k (by have:=A.top;omega);clear ba av;clear k;dsimp only;obtain⟨v,c1,c2⟩:=BI l;go_wp2_with fail
 refine(Kv _ _ _ _ _ _ _ _ _ _ _ _ bl bm _ _ _ q (Aa H) bV bW).mono ?_;rintro e c0 ⟨rfl,r⟩;clear v c1 c2;have cp:=bG.trans (r.mono bG.size);replace h:=h.after r NLN;replace i:=i.after r NLN;replace j:=j.after r NLN;replace l:=l.after r NLN;replace aa:=aa.after r NLN;replace q:=q.below r (by have:=q.top;omega);replace A:=A.below r (by have:=A.top;omega);clear bG co;clear r;dsimp only;go_wp2_with fail
 go_ret
 exact⟨rfl,cp⟩
end Go.Proofs.YteiieikcjcfkkaaGreatDoor

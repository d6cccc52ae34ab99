import Derived.Test.YteiieikcjcfkkaaGreatDoorMXAS
import Derived.Deep.DeepCutAuto
open Go.Proofs.Tryz
open Option renaming none->T,some->X
open Go.Value renaming int->U,slice->Y,string->Q,agg->jG
open Go.IntKind renaming i64->V
open Go renaming World->Z,Addr->jD,Calls->jE,bodyPost_ret->jN,info_parts->jZ,wpList_append_lies->jj,heap_alloc_new->jm
open Bool renaming true->jA,false->jC
open Go.Obj renaming cells->jF
open ByteArray renaming empty->jU
open Go.World.ownsRow renaming alloc->jV
open Go.World renaming size_alloc->jW,ownsRow_nil->jX,news_of_block->jp
open Go.Proofs.Tryz renaming prog->j4
namespace Go.Proofs.YteiieikcjcfkkaaGreatDoor
set_option maxRecDepth 100000
set_option maxHeartbeats 3200000
open Go.RowKit
set_option linter.unusedVariables false
variable {x y:Ex}{n:Int}{k:K5}{left:List Int}{j lo:Nat}{ka:Option jD}{w:Z}
theorem Tt.all2 {w0:Z}{B:Nat}{m kc:Nat}{f:List K5}{bs:List Ex}{w:Z}(h:Tt w0 B (Y ka m kc) f bs w)(b:f.length=m)(c:lo<=B)(op num:Int)(text:ByteArray)(an:Option jD)(nn cn:Nat)(ss:List ByteArray)(k:bs=[]->SQ w an nn cn ss)(d:nn=ss.length)(e:Ex)(l:QH op num text ss bs e):Ph w0 lo w.heap.size w ⟨op,num,text,an,nn,cn,ka,m,kc⟩ e:=by
 cases l with
 |leaf e n hx=>exact h.all b c op num text an nn cn ss (k rfl) e (.leaf e n hx)
 |un i e0 a=>
  obtain⟨_,_,h3,_,h5,h6⟩:=h.all b c op num text T 0 0 ss (by rw[a.2.2];exact⟨⟨rfl,NLN,zD _,fun j h=>absurd h (by simp),fun j h=>absurd h (by simp)⟩,zD _,fun _=>rfl,fun g e=>by cases e⟩) _ (.un i e0 a);exact⟨rfl,a.1,h3,by rw[d,a.2.2];rfl,h5,h6⟩
 |bin i e0 e1 a=>
  obtain⟨_,_,h3,_,h5,h6⟩:=h.all b c op num text T 0 0 ss (by rw[a.2.2];exact⟨⟨rfl,NLN,zD _,fun j h=>absurd h (by simp),fun j h=>absurd h (by simp)⟩,zD _,fun _=>rfl,fun g e=>by cases e⟩) _ (.bin i e0 e1 a);exact⟨rfl,a.1,h3,by rw[d,a.2.2];rfl,h5,h6⟩
 |ite i e0 e1 e2 o a=>
  obtain⟨h1,_,h3,_,h5,h6⟩:=h.all b c op num text T 0 0 ss (by rw[a.2.2];exact⟨⟨rfl,NLN,zD _,fun j h=>absurd h (by simp),fun j h=>absurd h (by simp)⟩,zD _,fun _=>rfl,fun g e=>by cases e⟩) _ (.ite i e0 e1 e2 o a);exact⟨h1,a.1,h3,by rw[d,a.2.2];rfl,h5,h6⟩
theorem SQ.below {w w':Z}{B:Nat}{a:Option jD}{n c:Nat}{ss:List ByteArray}(h:SQ w a n c ss)(b:Below B w w')(hB:w.heap.size<=B):SQ w' a n c ss:=⟨h.1.below b hB,h.2.1,h.2.2.below b hB⟩
theorem IM (wz w0:Z)(bv:wz.heap.size<=w0.heap.size)(aC:Option jD)(aD aE:Nat)(w:Z)(aF:Below w0.heap.size w0 w)(d l:Int)(n:ByteArray)(o:Option jD)(f r:Nat)(O:Option jD)(m P:Nat)(ks:List K5)(aZ:BT w0 O ks)(a0:ks.length=m)(h3:m<=3)(h7:d≠7)(bs:List Ex)(a1:bs.length=m)(ss:List ByteArray)(a2:bs=[]->SQ w0 o f r ss)(a3:f=ss.length)(e:Ex)(a4:QH d l n ss bs e)
  (a5:∀j,(h:j<ks.length)->(h2:j<bs.length)->∀aG,Below w.heap.size w aG->jE j4 18 #[jG #[U V ks[j].op,U V ks[j].num,Q ks[j].text,Y ks[j].an ks[j].nn ks[j].cn,Y ks[j].ka ks[j].kn ks[j].kc],Y aC aD aE] aG (Yp wz bs[j] aG)):
  jE j4 18 #[jG #[U V d,U V l,Q n,Y o f r,Y O m P],Y aC aD aE] w (Yp wz e w):=by
 obtain⟨bw,bx,bz,bA,bB⟩:=jZ QI;have b5:(d==7)=jC:=zA.2 h7;have aH:=((Av w (BV d l n o f r O m P)).alloc (by simp) Gy).alloc (by simp;omega) (BV d l n o f r T 0 0);have aI:=((Ag.new w #[U V d,U V l,Q n,Y o f r,Y O m P] 48).alloc Gy).alloc (BV d l n o f r T 0 0);have ai:=(Ag.new (w.alloc (BV d l n o f r O m P)) #[U V 0,U V 0,Q ⟨#[]⟩,Y T 0 0,Y T 0 0] 48).alloc (BV d l n o f r T 0 0);have ad:=Ag.new ((w.alloc (BV d l n o f r O m P)).alloc Gy) #[U V d,U V l,Q n,Y o f r,Y T 0 0] 48;have aJ:(((w.alloc (BV d l n o f r O m P)).alloc Gy).alloc (BV d l n o f r T 0 0)).heap.size=w.heap.size+3:=by simp
 simp only[jW]at ai ad;have bC:=Ab a5;have bD:=Ab aZ;have bE:=Ab a0;have a6:=Ab a1;have bF:=Ab a2;have bG:=Ab a3;have bH:=Ab a4;have aq:=Ab aF;have bI:wz.heap.size<=w.heap.size:=zB bv aF.size;clear a5 aZ a0 a1 a2 a3 a4 aF h7;go_enter func18,ntmps18
 go_wp2_with fail
 generalize ((w.alloc (BV d l n o f r O m P)).alloc Gy).alloc (BV d l n o f r T 0 0)=bJ at aH aI ai ad aJ|-;have aK:Tt wz (w.heap.size+3) (Y T 0 0) [] [] bJ:=⟨jX _ _ _ _,rfl,fun j h=>absurd h (by simp)⟩
 generalize a7:w.heap.size=S at aH aI ai ad aJ aK bI|-;have aL:=Ab a7;generalize bK:S+1=ae at ai ad|-;generalize bL:ae+1=s at ad|-;generalize bM:S+3=B at aJ aK|-;have bN:S<ae/\ae<s/\s<B:=by omega
 clear a7 bK bL bM;go_loopw [32] (fun i wr=>∃ (j:Nat) (aM:Value) (a:List K5),j<=m/\i=U V j/\Hid (a.length=j)/\Ag wr s #[U V d,U V l,Q n,Y o f r,aM] 48/\Ag wr S #[U V d,U V l,Q n,Y o f r,Y O m P] 48/\Ag wr ae #[U V 0,U V 0,Q ⟨#[]⟩,Y T 0 0,Y T 0 0] 48/\Tt wz B aM a (bs.take j) wr/\Below S w wr/\B<=wr.heap.size) (fun i _=>m-(intOf i).toNat)
 case atStart=>exact⟨0,_,[],zD _,rfl,Ab rfl,ad,aI,ai,aK,aH,by omega⟩
 case round=>
  obtain⟨j,aM,a,b6,rfl,aN,ar,aO,aj,ab,ak,b7⟩:=hrel;obtain⟨af,ag,rfl,_⟩:=Ae ab.own;by_cases au:j<m
  ·have b8:(j:Int)<(m:Int):=by omega
   have aP:j<ks.length:=by rw[Aa bE];exact au
   have aQ:j<bs.length:=by rw[Aa a6];exact au
   have av:Below w.heap.size w wr:=by rw[Aa aL];exact ak
   have al:=(Aa aq).trans (av.mono (Aa aq).size);obtain⟨g,b9,rfl,hg,a8⟩:=Bh ((Aa bD).below al NLN) (by omega);obtain⟨aw,c1,c2,c3,c4⟩:=a8 j aP;have ao:=Ab (Aa bC j aP aQ);have a9:=Ab (show bs.take (j+1)=bs.take j++[bs[j]]from zQ aQ);have ba:=Ab au;generalize ks[j]=k at aw c1 c2 c3 c4 ao;generalize bs[j]=bO at ao a9;obtain⟨t,v,x,y,z,A,C,D,E⟩:=k;dsimp only at aw c1 c2 c3 c4 ao;have ca:a.length<=1048576:=by have:=Aa aN;omega
   clear au aP aQ a8 al;go_upto_region 13 with fail
   have ax:=ar.alloc (BV t v x y z A C D E);have bb:=aO.alloc (BV t v x y z A C D E);have bc:=aj.alloc (BV t v x y z A C D E);have ay:=ab.below (Av wr (BV t v x y z A C D E));have bd:=ak.alloc (by omega) (BV t v x y z A C D E);have hB:B<=(wr.alloc (BV t v x y z A C D E)).heap.size:=by simp;omega
   have aR:=Ag.new wr #[U V t,U V v,Q x,Y y z A,Y C D E] 48;have aS:=av.alloc av.size (BV t v x y z A C D E);generalize wr.alloc (BV t v x y z A C D E)=W at ax bb bc ay bd hB aR aS|-;generalize wr.heap.size=cb at aR|-;have bP:=Ab (Gz (Aa ao W.drew aS.drew) (fun e w' ⟨k,h,_⟩=>⟨_,h⟩));clear ar aO aj ab ak av aS ao aw c1 c2 c3 c4;obtain⟨bQ,bR,bS,bT,bf,cc⟩:=AP ax;obtain⟨aw,c1,c2,c3,c4,-⟩:=AP aR;have bg:=ax.after BRN.drew NLN;have bh:=ay.below BRN.drew;have sd:W.drew.cell? ⟨s,4,T⟩=X (Y af a.length ag):=bf;have bU:(Tryz.f18.name== "runtime.NumGoroutine")=jC:=by kernel_rfl
   have bV: Tryz.f18.body.isNone=jC:=by kernel_rfl
   have az:∀q,(Y af a.length ag).ownBlock=X q->B<=q/\q<W.heap.size:=fun q hq=>ay.own.lt q hq;go_region_law (first
    |(refine AE rfl 18 _ func18 bU bV _ _ _ rfl (jG #[U V t,U V v,Q x,Y y z A,Y C D E]) (Y aC aD aE) rfl rfl _ (Aa bP) ?_;rintro cd bi ⟨bW,bj,aT,ah⟩;obtain rfl:=Bg bj;obtain⟨F,G,H,I,J,K,L,M,N⟩:=bW;dsimp only at bj aT|-;have aU:=bg.after ah NLN;obtain⟨e0,e1,e2,e3,e4,ce⟩:=AP aU;have aV:=bh.below ah;have bk:=jV aV.own (BV F G H I J K L M N);have aA:=aU.alloc (BV F G H I J K L M N);obtain⟨cf,cg,ch,ci,cj,ck⟩:=AP aA;have bl:=jp (jm bi (BV F G H I J K L M N));have cl:=ah.size)
    |(refine step_append_lies _ rfl _ _ 43 rfl B 48 bw (jG #[U V 0,U V 0,Q jU,Y T 0 0,Y T 0 0]) 5 80 underlying43 bx bz bA bB rfl (by decide) (Y af a.length ag) a.length (a.flatMap K5.cs) rfl bk ⟨bi.heap.size,0,T⟩ 1 1 (K5.cs ⟨F,G,H,I,J,K,L,M,N⟩) rfl rfl bl (by intro u bm;simp[K5.cs]at bm;rcases bm with rfl|rfl|rfl|rfl|rfl<;>rfl) (by decide) (by unfold maxLen;omega) (by omega) (by have:W.drew.heap.size=W.heap.size:=rfl;simp;omega) _ rfl ?_;intro g7 aa aB bn ac hat cm;have ap:Ag aB s _ _:=⟨(ac.block s aA.lt (fun e=>by have:=(az _ e.symm).1;omega)).trans aA.out⟩;have co:aB.cell? ⟨s,4,T⟩=X (Y af a.length ag):=ap.cell 4;have cp:=ap.frozen 4))
   all_goals
    have cq:W.drew.heap.size=W.heap.size:=rfl;have bo:=aV.snoc (lo:=W.drew.heap.size) (k:=⟨F,G,H,I,J,K,L,M,N⟩) (b:=bO) (by omega) (by omega) (fun q hq=>by have:=(az q hq).2;omega) aT bn ac (hat.imp id (fun e=>by rw[e];simp));have bp:=bo.set ⟨s,4,T⟩ (Y (X ⟨g7,0,T⟩) (a.length+1) aa) bN.2.2 (by show wz.heap.size<=s;omega) (Cw.set ap (by decide) _ _);have bq:=ap.set 4 (Y (X ⟨g7,0,T⟩) (a.length+1) aa);simp only[zn,zh,zk]at bq;have br:∀q,q<B->X q≠(Y af a.length ag).ownBlock:=fun q hq e=>by have:=(az q e.symm).1;omega
    have bX:=(((((bb.after BRN.drew NLN).after ah NLN).alloc (BV F G H I J K L M N)).grown ac (br S (by omega))).setFar (p:=⟨s,4,T⟩) (by show S≠s;omega) (Y (X ⟨g7,0,T⟩) (a.length+1) aa))
    have bY:=(((((bc.after BRN.drew NLN).after ah NLN).alloc (BV F G H I J K L M N)).grown ac (br ae (by omega))).setFar (p:=⟨s,4,T⟩) (by show ae≠s;omega) (Y (X ⟨g7,0,T⟩) (a.length+1) aa))
    have bZ:=((((bd.drew).trans (ah.mono (by omega))).alloc (by omega) (BV F G H I J K L M N)).grown ac (by simp;omega) (fun q hq=>by have:=(az q hq).1;omega)).setCell (p:=⟨s,4,T⟩) (by show S<=s;omega) (Y (X ⟨g7,0,T⟩) (a.length+1) aa);have b0:B<=(aB.setCell ⟨s,4,T⟩ (Y (X ⟨g7,0,T⟩) (a.length+1) aa)).heap.size:=by have:=ac.size;simp at this|-;omega
    have b1:=Ab (show(a++[(⟨F,G,H,I,J,K,L,M,N⟩:K5)]).length=j+1 by rw[zC,Aa aN];rfl);have b2:=Ab (show Tt wz B (Y (X ⟨g7,0,T⟩) (a.length+1) aa) (a++[(⟨F,G,H,I,J,K,L,M,N⟩:K5)]) (bs.take (j+1)) (aB.setCell ⟨s,4,T⟩ (Y (X ⟨g7,0,T⟩) (a.length+1) aa)) by rw[Aa a9];exact bp);clear ac hat bn bo bp aV bh ay ax bg aU aA ap bk bl aT;go_wp2_with fail
    go_roundw
    case rel=>exact⟨j+1,_,_,Aa ba,by go_num,b1,bq,bX,bY,Aa b2,bZ,b0⟩
    case measure=>have:=Aa ba;simp[intOf];omega
  ·have b3:j=m:=by omega
   subst b3;have aW:Below w.heap.size w wr:=by rw[Aa aL];exact ak
   have bt:bs.take j=bs:=zY (by rw[Aa a6];exact NLN);rw[bt]at ab;have aX:a.length=j:=Aa aN;rw[aX]at ab ar;have al:=(Aa aq).trans (aW.mono (Aa aq).size);have bu:=ab.all2 aX NLN d l n o f r ss (fun h=>(Aa bF h).below al NLN) (Aa bG) e (Aa bH);have b4:=Aa aL;have aY:=Ab (Dy (w0:=wz) (B:=B) (c:=⟨d,l,n,o,f,r,af,j,ag⟩) (by omega) aW aj (by omega) (by omega) bu);obtain⟨bQ,bR,bS,bT,bf,-⟩:=AP ar;obtain⟨n0,n1,n2,n3,cr,-⟩:=AP aO;obtain⟨ct,cu,cv,cw,cx,-⟩:=AP aj;obtain⟨cy,cz,cA,cB,cC⟩:=Eu aj;clear bu al b4 bt ab aW aX ak;go_wp2_with fail
   exact jN (Fv results18 rfl (Aa aY).2.1) rfl ⟨_,rfl,(Aa aY).2.2,(Aa aY).1⟩
set_option maxHeartbeats 1600000
def nmL (left:List Int) (n:Int) (j:Nat):Int:=if n∈left.take j then ixL left n else n
theorem AgW (a:left.Nodup)(h:j<left.length)(e:left[j]=n):nmL left n (j+1)=(j:Int):=by
 have hm:n∈left.take (j+1):=by rw[zQ h];exact zN.2 (.inr (zS.2 e.symm))
 have hi:left.idxOf n<left.length:=List.idxOf_lt_length_iff.2 (by rw[<-e];exact zH h);have he:left[left.idxOf n]=left[j]:=by rw[List.getElem_idxOf hi,e]
 have:left.idxOf n=j:=(List.getElem_inj a).1 he;rw[nmL,if_pos hm,ixL,this]
theorem AeA (h:j<left.length)(e:left[j]≠n):nmL left n (j+1)=nmL left n j:=by
 have:n∈left.take (j+1)↔n∈left.take j:=by
  rw[zQ h,zN];exact⟨fun q=>q.elim id (fun q=>absurd (zS.1 q).symm e),.inl⟩
 unfold nmL;simp only[this]
theorem Acj (wz:Z)(ab:wz.heap.size<=w.heap.size){i n:Int}{K:Option jD}{m L:Nat}(he:Tq w (.lett i n) k)(v:AK w K m L left)(M:left.Nodup)(hm:n∈left):
  jE j4 18 #[jG #[U V k.op,U V k.num,Q k.text,Y k.an k.nn k.cn,Y k.ka k.kn k.kc],Y K m L] w (Yp wz (Cr left (.lett i n)) w):=by
 obtain⟨e1,e2,e3,e4,e5⟩:=he;obtain⟨ac,a,d,f,g,h,r,ar,s⟩:=k;dsimp only at e1 e2 e3 e4 e5;have ad:ac=7:=e1;have ae:a=n:=e2;clear e1 e2;subst ad ae e4;have N:=v.len;have au:=v.small;have O:=((Av w (BV 7 a d f g h r 0 s)).alloc (by simp) Gy).alloc (by simp;omega) (BV 7 a d f g h T 0 0);have P:=((Ag.new w #[U V 7,U V a,Q d,Y f g h,Y r 0 s] 48).alloc Gy).alloc (BV 7 a d f g h T 0 0);have E:=(Ag.new (w.alloc (BV 7 a d f g h r 0 s)) #[U V 0,U V 0,Q ⟨#[]⟩,Y T 0 0,Y T 0 0] 48).alloc (BV 7 a d f g h T 0 0);have F:=Ag.new ((w.alloc (BV 7 a d f g h r 0 s)).alloc Gy) #[U V 7,U V a,Q d,Y f g h,Y T 0 0] 48;simp only[jW]at E F;have G:=Ab e5;have af:=Ab e3;have ag:=Ab v;have ah:=Ab M;have ai:=Ab hm;have S:=Ab N;clear e5 e3 v M hm N;go_enter func18,ntmps18
 go_wp2_with fail
 generalize ((w.alloc (BV 7 a d f g h r 0 s)).alloc Gy).alloc (BV 7 a d f g h T 0 0)=av at O P E F|-;go_loopw [17] (fun i wr=>∃ (j:Nat) (z:Int),j<=m/\i=U V j/\Hid (z=nmL left a j)/\Ag wr w.heap.size #[U V 7,U V a,Q d,Y f g h,Y r 0 s] 48/\Ag wr (w.heap.size+1) #[U V 0,U V 0,Q ⟨#[]⟩,Y T 0 0,Y T 0 0] 48/\Ag wr (w.heap.size+1+1) #[U V 7,U V z,Q d,Y f g h,Y T 0 0] 48/\Below w.heap.size w wr) (fun i _=>m-(intOf i).toNat)
 case atStart=>exact⟨0,a,zD _,rfl,Ab (by simp[nmL]),P,E,F,O⟩
 case round=>
  obtain⟨j,z,aw,rfl,W,u,o,t,l⟩:=hrel;obtain⟨ax,ay,az,aA,aB,-⟩:=Ay u;obtain⟨aC,aD,o2,aE,aF,-⟩:=Ay t;obtain⟨aG,aH,aI,aJ,aK⟩:=Eu t;by_cases H:j<m
  ·have aL:(j:Int)<(m:Int):=by omega
   have x:j<left.length:=by rw[Aa S];exact H
   obtain⟨b,aM,rfl,aN,hc⟩:=((Aa ag).below l NLN).cells j x;have A:=Ab (fun e=>AgW (n:=a) (Aa ah) x e);have C:=Ab (fun e=>AeA (n:=a) x e);have D:=Ab H;generalize left[j]=y at hc A C;clear H x;by_cases hy:y=a
   ·have q:(y==a)=jA:=zM.2 hy;have I:=Ab (Aa A hy);have aj:=t.set 1 (U V (j:Int));have ak:=u.setFar (p:=⟨w.heap.size+1+1,1,T⟩) (by show w.heap.size≠w.heap.size+1+1;omega) (U V (j:Int));have al:=o.setFar (p:=⟨w.heap.size+1+1,1,T⟩) (by show w.heap.size+1≠w.heap.size+1+1;omega) (U V (j:Int));have ao:=l.setCell (p:=⟨w.heap.size+1+1,1,T⟩) (by show w.heap.size<=w.heap.size+1+1;omega) (U V (j:Int));clear hy A C t u o l;go_wp2_with fail
    go_roundw
    case rel=>exact⟨j+1,j,Aa D,by go_num,Ab (Aa I).symm,ak,al,aj,ao⟩
    case measure=>have:=Aa D;simp[intOf];omega
   ·have q:(y==a)=jC:=zA.2 hy;have I:=Ab (Aa C hy);clear hy A C;go_wp2_with fail
    go_roundw
    case rel=>exact⟨j+1,z,Aa D,by go_num,Ab (by rw[Aa I];exact Aa W),u,o,t,l⟩
    case measure=>have:=Aa D;simp[intOf];omega
  ·have e:j=m:=by omega
   subst e;have ap:=Ab (show z=ixL left a by rw[Aa W,nmL,zY (by rw[Aa S];exact NLN),if_pos (Aa ai)]);have aa:Ph wz w.heap.size wr.heap.size wr ⟨7,z,d,f,g,h,T,0,0⟩ (Cr left (.lett i a)):=Gx rfl (by
    rw[Aa ap];exact⟨rfl,rfl,Aa af,rfl,(Aa G).1.below l NLN,(Aa G).2.1,(Aa G).2.2.below l NLN⟩)
   have J:=Ab (Dy (w0:=wz) (B:=w.heap.size+2) (c:=⟨7,z,d,f,g,h,T,0,0⟩) ab l o (by omega) (by omega) (show Ph wz (w.heap.size+2) wr.heap.size wr _ _ from Gx rfl (Tl.tq aa)));obtain⟨aO,aP,aQ,aR,aS,-⟩:=Ay o;obtain⟨g0,g1,g2,g3,aT⟩:=Eu o;clear aa u o t l;go_wp2_with fail
   go_loopw [32] (fun i aq=>i=U V 0/\aq=wr) (fun _ _=>0)
   case atStart=>exact⟨rfl,rfl⟩
   case round=>
    obtain⟨rfl,rfl⟩:=hrel;go_wp2_with fail
    exact jN (Fv results18 rfl (Aa J).2.1) rfl ⟨_,rfl,(Aa J).2.2,(Aa J).1⟩
theorem EQ (wz:Z)(f:wz.heap.size<=w.heap.size){e:Ex}(a:e.kids=[])(h:Tq w e k)(h7:k.op≠7)(g:Cr left e=e)(b:Option jD)(c d:Nat):
  jE j4 18 #[jG #[U V k.op,U V k.num,Q k.text,Y k.an k.nn k.cn,Y k.ka k.kn k.kc],Y b c d] w (Yp wz (Cr left e) w):=by
 have hq:k.op=(CV e).op/\k.num=(CV e).num/\k.text=(CV e).text/\k.kn=0/\SQ w k.an k.nn k.cn (CV e).names/\(CV e).kids=[]:=by
  cases e<;>first|exact⟨h.1,h.2.1,h.2.2.1,h.2.2.2.1,h.2.2.2.2,rfl⟩|cases a
 obtain⟨h1,h2,h3,h4,h5,h6⟩:=hq;rw[g,h4];exact IM wz w f b c d w BRN k.op k.num k.text k.an k.nn k.cn k.ka 0 k.kc [] (CW w _) rfl (by decide) h7 [] rfl (CV e).names (fun _=>h5) h5.1.len e (.leaf e a (by rw[h1,h2,h3,<-h6])) (fun j i=>absurd i (by simp))
theorem GA (wz:Z){left:List Int}(p:left.Nodup){b:Option jD}{d f:Nat} :∀(e:Ex) (k:K5) (w:Z),wz.heap.size<=w.heap.size->Tq w e k->AK w b d f left->Be e=jA->(∀m,usE m e=jA->m∈left)->
  jE j4 18 #[jG #[U V k.op,U V k.num,Q k.text,Y k.an k.nn k.cn,Y k.ka k.kn k.kc],Y b d f] w (Yp wz (Cr left e) w)
 |.lett i n,k,w,hz,h,hL,ho,hu=>Acj wz hz h hL p (hu n (by simp[usE]))
 |.un i op c,k,w,hz,h,hL,ho,hu=>by
  obtain⟨h1,h2,h3,h4,h5,g,h6,h7⟩:=h;simp only[Be,zF,zI]at ho;rw[h5];exact IM wz w hz b d f w BRN k.op k.num k.text k.an k.nn k.cn k.ka 1 k.kc [g] h6 rfl (by decide) (by omega) [Cr left c] rfl [] (fun e=>by cases e) h4 _ (by rw[Cr,<-h1];exact .un i _ ⟨h2,h3,rfl⟩) (fun j a1 a2 o a=>by
   match j,a1 with
   |0,_=>exact GA wz p c g o (zB hz a.size) (h7.below a NLN) (hL.below a NLN) ho.2 (fun m hm=>hu m (by simp[usE,hm])))
 |.bin i op l r,k,w,hz,h,hL,ho,hu=>by
  obtain⟨h1,h2,h3,h4,h5,g,q,h6,h7,h8⟩:=h;simp only[Be,zF,zI]at ho;rw[h5];exact IM wz w hz b d f w BRN k.op k.num k.text k.an k.nn k.cn k.ka 2 k.kc [g,q] h6 rfl (by decide) (by omega) [Cr left l,Cr left r] rfl [] (fun e=>by cases e) h4 _ (by rw[Cr,<-h1];exact .bin i _ _ ⟨h2,h3,rfl⟩) (fun j a1 a2 o a=>by
   match j,a1 with
   |0,_=>exact GA wz p l g o (zB hz a.size) (h7.below a NLN) (hL.below a NLN) ho.2.1 (fun m hm=>hu m (by simp[usE,hm]))
   |1,_=>exact GA wz p r q o (zB hz a.size) (h8.below a NLN) (hL.below a NLN) ho.2.2 (fun m hm=>hu m (by simp[usE,hm])))
 |.ite i c t e,k,w,hz,h,hL,ho,hu=>by
  obtain⟨h1,h2,h3,h4,h5,g,q,s,h6,h7,h8,h9⟩:=h;simp only[Be,zF]at ho;rw[h5];exact IM wz w hz b d f w BRN k.op k.num k.text k.an k.nn k.cn k.ka 3 k.kc [g,q,s] h6 rfl (by decide) (by rw[h1];decide) [Cr left c,Cr left t,Cr left e] rfl [] (fun e=>by cases e) h4 _ (by rw[Cr];exact .ite i _ _ _ h1 ⟨h2,h3,rfl⟩) (fun j a1 a2 o a=>by
   match j,a1 with
   |0,_=>exact GA wz p c g o (zB hz a.size) (h7.below a NLN) (hL.below a NLN) ho.1 (fun m hm=>hu m (by simp[usE,hm]))
   |1,_=>exact GA wz p t q o (zB hz a.size) (h8.below a NLN) (hL.below a NLN) ho.2.1 (fun m hm=>hu m (by simp[usE,hm]))
   |2,_=>exact GA wz p e s o (zB hz a.size) (h9.below a NLN) (hL.below a NLN) ho.2.2 (fun m hm=>hu m (by simp[usE,hm])))
 |.int ..,k,w,hz,h,hL,ho,hu=>EQ wz hz rfl h (by rw[h.op];simp[EZ,CV]) rfl b d f
 |.text ..,k,w,hz,h,hL,ho,hu=>EQ wz hz rfl h (by rw[h.op];simp[EZ,CV]) rfl b d f
 |.bool ..,k,w,hz,h,hL,ho,hu=>EQ wz hz rfl h (by rw[h.op];simp[EZ,CV]) rfl b d f
 |.set ..,k,w,hz,h,hL,ho,hu=>EQ wz hz rfl h (by rw[h.op];simp[EZ,CV]) rfl b d f
 |.name ..,k,w,hz,h,hL,ho,hu=>EQ wz hz rfl h (by rw[h.op];simp[EZ,CV]) rfl b d f
 |.attr ..,k,w,hz,h,hL,ho,hu=>EQ wz hz rfl h (by rw[h.op];simp[EZ,CV]) rfl b d f
set_option maxHeartbeats 12800000
theorem TC (wz w0:Z)(c8:wz.heap.size<=w0.heap.size)(co:Option jD)(cp cq:Nat)(ls:List Ex)(w:Z)(bv:Below w0.heap.size w0 w)(a av:Int)(aw:ByteArray)(ax:Option jD)(ay az:Nat)(cr:Option jD)(m aA:Nat)(ks:List K5)(ct:BT w0 cr ks)(cu:ks.length=m)(h1: 1<=m)(h3:m<=3)(dI:m<=2)(h7:a≠7)(n:List Ex)(cv:n.length=m)(cw:∀z∈n,Be z=jA)(e:Ex)(cx:QH a 0 ⟨#[]⟩ [] n e)(cy:∀i e0,e= .un i a e0->8<=a/\a<=10)(cz:∀i e0 e1,e= .bin i a e0 e1->11<=a/\a<=26)
  (cA:∀ae f ka kc,f.length=m->BT ae ka f->(∀j,(h:j<n.length)->(h2:j<f.length)->Tq ae n[j] f[j])->n.all Ex.con=jA->jE j4 80 #[U V a,Y ka m kc] ae (PrA (Ar e) ae))(cB:n.all Ex.con=jC->Ar e=T)
  (cC:∀j,(h:j<ks.length)->(h2:j<n.length)->∀ae,Below w.heap.size w ae->jE j4 43 #[jG #[U V ks[j].op,U V ks[j].num,Q ks[j].text,Y ks[j].an ks[j].nn ks[j].cn,Y ks[j].ka ks[j].kn ks[j].kc],Y co cp cq] ae (Yp wz n[j] ae)):
  jE j4 43 #[jG #[U V a,U V av,Q aw,Y ax ay az,Y cr m aA],Y co cp cq] w (Yp wz (FL ls e) w):=by
 obtain⟨c9,da,db,dc,dd⟩:=jZ QI;obtain⟨g,N,rfl,hg,hc⟩:=Bh ct (by omega);have dJ:(a==7)=jC:=zA.2 h7;have dK:((m:Int)==0)=jC:=zA.2 (by omega);have bS:=((Av w (jF #[U V a,U V av,Q aw,Y ax ay az,Y (X ⟨g,N,T⟩) m aA] 48)).alloc (by simp) Gy)
 have bj:=Ag.new (w.alloc (jF #[U V a,U V av,Q aw,Y ax ay az,Y (X ⟨g,N,T⟩) m aA] 48)) #[U V 0,U V 0,Q ⟨#[]⟩,Y T 0 0,Y T 0 0] 48;have bT:=(Ag.new w #[U V a,U V av,Q aw,Y ax ay az,Y (X ⟨g,N,T⟩) m aA] 48).alloc Gy;have bU:((w.alloc (jF #[U V a,U V av,Q aw,Y ax ay az,Y (X ⟨g,N,T⟩) m aA] 48)).alloc Gy).heap.size=w.heap.size+2:=by simp
 simp only[jW]at bj;have de:=Ab cC;have bw:=Ab cA;have bx:=Ab cB;have cD:=Ab cx;have cE:=Ab cy;have cF:=Ab cz;have cG:=Ab hc;have cH:=Ab cu;have aN:=Ab cv;have bk:=Ab cw;have bV:=Ab bv;have df:wz.heap.size<=w.heap.size:=zB c8 bv.size;have dg:w0.heap.size<=w.heap.size:=bv.size;clear cC hc cu cv cw bv ct h7 cA cB cx cy cz;go_enter func43,ntmps43
 go_wp2_with fail
 generalize (w.alloc (jF #[U V a,U V av,Q aw,Y ax ay az,Y (X ⟨g,N,T⟩) m aA] 48)).alloc Gy=dh at bS bT bj bU|-;have bW:Tt wz (w.heap.size+2) (Y T 0 0) [] [] dh:=⟨jX _ _ _ _,rfl,fun j h=>absurd h (by simp)⟩
 generalize cI:w.heap.size=aj at bS bT bj bU bW df dg|-;have a5:=Ab cI;generalize di:aj+1=aO at bj|-;generalize dj:aj+2=B at bU bW|-;have dL:aj<aO/\aO<B:=by omega
 clear cI di dj;go_loopw [5,6,39] (fun dk bz i wr=>∃ (j:Nat) (f:List K5),j<=m/\i=U V j/\bz= .bool ((n.take j).all Ex.con)/\Hid (f.length=j)/\Ag wr aj #[U V a,U V av,Q aw,Y ax ay az,Y (X ⟨g,N,T⟩) m aA] 48/\Ag wr aO #[U V 0,U V 0,Q ⟨#[]⟩,Y T 0 0,Y T 0 0] 48/\Tt wz B dk f (n.take j) wr/\Below aj w wr/\B<=wr.heap.size) (fun _ _ i _=>m-(intOf i).toNat)
 case atStart=>exact⟨0,[],zD _,rfl,rfl,Ab rfl,bT,bj,bW,bS,by omega⟩
 case round=>
  obtain⟨j,f,dM,rfl,rfl,bX,ak,aB,M,af,hB⟩:=hrel;obtain⟨H,s,rfl,_⟩:=Ae M.own;by_cases bl:j<m
  ·have dN:(j:Int)<(m:Int):=by omega
   have bY:j<ks.length:=by rw[Aa cH];exact bl
   have bA:j<n.length:=by rw[Aa aN];exact bl
   have bB:Below w.heap.size w wr:=by rw[Aa a5];exact af
   have a6:=(Aa bV).trans (bB.mono (Aa bV).size);obtain⟨O,a1,a2,a3,a4⟩:=Aa cG j bY;have bC:=Ab (Aa de j bY bA);have cJ:=Ab (Aa bk _ (zH bA));have bZ:=Ab (show n.take (j+1)=n.take j++[n[j]]from zQ bA);generalize ks[j]=k at O a1 a2 a3 a4 bC;generalize n[j]=z at bC cJ bZ;replace O:=(a6.cell (p:=⟨g,N+j*5,T⟩) hg).trans O;replace a1:=(a6.cell (p:=⟨g,N+j*5+1,T⟩) hg).trans a1;replace a2:=(a6.cell (p:=⟨g,N+j*5+2,T⟩) hg).trans a2;replace a3:=(a6.cell (p:=⟨g,N+j*5+3,T⟩) hg).trans a3;replace a4:=(a6.cell (p:=⟨g,N+j*5+4,T⟩) hg).trans a4;have bD:=Ab bl;have al:=Ab (Aa bC _ (bB.alloc bB.size (CE k)));have dO:f.length<=1048576:=by have:=Aa bX;omega
   generalize aP:(n.take j).all Ex.con=bz;have dl:=Ab aP;clear bl bY bA aP a6;go_wp2_with fail
   refine(Aa al).mono ?_;rintro bm P ⟨dm,rfl,b0,b5⟩;obtain⟨t,v,x,y,A,C,D,E,F⟩:=dm;dsimp only at b0|-;have bE:∀q,(Y H f.length s).ownBlock=X q->B<=q/\q<wr.heap.size:=fun q hq=>M.own.lt q hq;have dn:(wr.alloc (CE k)).heap.size=wr.heap.size+1:=by simp
   have bn:=(Av wr (CE k)).trans (b5.mono (by omega));have dP:wr.heap.size<P.heap.size:=by have:=b5.size;omega
   have bo:=(M.below bn).below (Av P (BV t v x y A C D E F));have cK:Ph wz (wr.heap.size+1) (P.alloc (BV t v x y A C D E F)).heap.size (P.alloc (BV t v x y A C D E F)) ⟨t,v,x,y,A,C,D,E,F⟩ z:=(b0.keep (Cf.of_below (Av P (BV t v x y A C D E F)))).mono (fun b ao=>by rw[dn]at ao;rw[jW];omega);have cL:=(ak.after bn NLN).alloc (BV t v x y A C D E F);have cM:=(aB.after bn NLN).alloc (BV t v x y A C D E F);have b6:=Ag.new P #[U V t,U V v,Q x,Y y A C,Y D E F] 48;have cN:=(af.trans (bn.mono (by omega))).alloc (by omega) (BV t v x y A C D E F);have dp:(P.alloc (BV t v x y A C D E F)).heap.size=P.heap.size+1:=by simp
   obtain⟨n0,n1,n2,n3,dq,-⟩:=Ay b6;clear M ak aB af bB b0 b5 bn al bC O a1 a2 a3 a4;have cO:=jV bo.own (BV t v x y A C D E F);have b7:=jp (jm (P.alloc (BV t v x y A C D E F)) (BV t v x y A C D E F));simp only[jW]at b7;go_wp2_with (at_builtin;refine jj _ rfl _ _ 43 rfl B 48 c9 (jG #[U V 0,U V 0,Q jU,Y T 0 0,Y T 0 0]) 5 80 underlying43 da db dc dd rfl (by decide) (Y H f.length s) f.length (f.flatMap K5.cs) rfl cO ⟨P.heap.size+1,0,T⟩ 1 1 (K5.cs ⟨t,v,x,y,A,C,D,E,F⟩) rfl rfl b7 (by intro u cP;simp[K5.cs]at cP;rcases cP with rfl|rfl|rfl|rfl|rfl<;>rfl) (by decide) (by unfold maxLen;omega) (by omega) (by simp;omega) _ rfl ?_)
   intro g7 c7 bp cQ aQ hat dr;have cR:∀q,q<B->X q≠(Y H f.length s).ownBlock:=fun q hq e=>by have:=(bE q e.symm).1;omega
   have ds:X P.heap.size≠(Y H f.length s).ownBlock:=fun e=>by have:=(bE _ e.symm).2;omega
   have b8:=(cL.alloc (BV t v x y A C D E F)).grown aQ (cR aj (by omega));have b9:=(cM.alloc (BV t v x y A C D E F)).grown aQ (cR aO (by omega));have cS:=(b6.alloc (BV t v x y A C D E F)).grown aQ ds;have ca:=(cN.alloc (by rw[dp];omega) (BV t v x y A C D E F)).grown aQ (by simp;omega) (fun q hq=>by have:=(bE q hq).1;omega);have cT:B<=bp.heap.size:=by have:=aQ.size;simp at this;omega
   have cb:=bo.snoc (k:=⟨t,v,x,y,A,C,D,E,F⟩) (b:=z) (by omega) (by omega) (fun q hq=>by have:=(bE q hq).2;omega) cK cQ aQ (hat.imp id (fun e=>by rw[e];simp));have cc:=Ab (show Tt wz B (Y (X ⟨g7,0,T⟩) (f.length+1) c7) (f++[(⟨t,v,x,y,A,C,D,E,F⟩:K5)]) (n.take (j+1)) bp by rw[Aa bZ];exact cb);have cU:=Ab (show(f++[(⟨t,v,x,y,A,C,D,E,F⟩:K5)]).length=j+1 by rw[zC,Aa bX];rfl);have cV:=Ab (show(n.take (j+1)).all Ex.con=(bz&&z.con) by rw[Aa bZ,List.all_append,Aa dl];simp);have dt:=Ab (show Tq bp z ⟨t,v,x,y,A,C,D,E,F⟩ by
    have q:=cb.each f.length (by simp) (by rw[List.length_append,bo.len];simp);obtain⟨_,_,_,_,_,q⟩:=q;have cW:=Tl.tq q;have dQ:=bo.len;rw[yH NLN,yH (by omega)]at cW;simpa using cW)
   have du:=Ab (Dn (Aa dt) (Aa cJ));obtain⟨aR,aS,aT,aU,aV,-⟩:=Ay cS;clear bo cb cQ aQ hat dr cK cO b7 cL cM b6 cN n0 n1 n2 n3 dq cS;generalize P.heap.size=dR at aR aS aT aU aV|-;cases bz with
   |false=>
    go_wp2_with fail
    go_roundw
    case rel=>exact⟨j+1,_,Aa bD,by go_num,by rw[Aa cV];rfl,cU,b8,b9,Aa cc,ca,cT⟩
    case measure=>have:=Aa bD;simp[intOf];omega
   |true=>
    go_wp2_with fail
    refine(Aa du).mono ?_;rintro bm ap ⟨rfl,a7⟩;have bq:=b8.after a7 NLN;have a8:=b9.after a7 NLN;have aC:=ca.trans (a7.mono (by omega));have dv:=Ab ((Aa cc).below a7);have dw:B<=ap.heap.size:=zB cT a7.size;clear b8 b9 ca cc a7 aR aS aT aU aV;dsimp only;go_wp2_with fail
    go_roundw
    case rel=>exact⟨j+1,_,Aa bD,by go_num,by rw[Aa cV];simp,cU,bq,a8,Aa dv,aC,dw⟩
    case measure=>have:=Aa bD;simp[intOf];omega
  ·have cX:j=m:=by omega
   have cY:n.take j=n:=zY (by rw[Aa aN];omega);rw[cY]at M|-;have br:f.length=m:=by rw[Aa bX];exact cX
   have ag:=Et (by have:=M.own;rw[br]at this;exact this) br;have bF:=Ab ag;have bG:=Ab (fun (i:Nat) (h:i<n.length) (h2:i<f.length)=>by
    obtain⟨_,_,_,_,_,q⟩:=M.each i h2 h;exact(Tl.tq q))
   rw[br];have a9:=Ab br;have dS: ¬ ((j:Int)<(m:Int)):=by omega
   obtain⟨aD,aE,aF,aG,aH,-⟩:=Ay ak;clear ag br cY bl cX;go_upto_if 56 with fail
   go_cut [6] (fun _ aW=>Ag aW aj #[U V a,U V av,Q aw,Y ax ay az,Y (X ⟨g,N,T⟩) m aA] 48/\Ag aW aO #[U V 0,U V 0,Q ⟨#[]⟩,Y T 0 0,Y T 0 0] 48/\Tt wz B (Y H m s) f n aW/\Below w.heap.size w aW/\Hid (Ar e=T))
   case first=>
    cases aP:n.all Ex.con with
    |true=>
     have al:=Ab (Aa bw wr f H s (Aa a9) (Aa bF) (Aa bG) aP);clear aP bw bx;go_wp2_with fail
     refine(Aa al).mono ?_;rintro bm ap ⟨⟨c,b,rfl,ao,cd⟩,ba⟩;dsimp only;have aC:Below w.heap.size w ap:=(show Below w.heap.size w wr by rw[Aa a5];exact af).trans (ba.mono af.size);have bq:=ak.after ba NLN;have a8:=aB.after ba NLN;have ce:=M.below ba;have bb:=Aa a5;cases aI:Ar e with
     |some z=>
      rw[aI]at ao;subst ao;have ac:=Ab (show FL ls e=z by rw[FL,aI]);have ad:=a8.alloc (CE c);have r:=Ab (Dy (w0:=wz) (B:=B) (c:=c) (z:=z) (by omega) (aC.alloc aC.size (CE c)) ad (by omega) (by omega) (Gx (QP aI) ((cd z aI).below (Av ap (CE c)) NLN)));obtain⟨aR,aS,aT,aU,aV,-⟩:=Ay ad;obtain⟨bH,bI,bJ,bK,bL⟩:=Eu ad;clear ad a8 bq ce aC cd aI ba bb M ak aB af;go_wp2_with fail
      exact jN (Fv results43 rfl (Aa r).2.1) rfl (by rw[Aa ac];exact⟨c,rfl,(Aa r).2.2,(Aa r).1⟩)
     |none=>
      rw[aI]at ao;subst ao;have cf:=Ab (⟨bq.alloc (CE c),a8.alloc (CE c),by have q:=ce.below (Av ap (CE c));rw[Aa a9]at q;exact q,aC.alloc aC.size (CE c),Ab aI⟩:Ag (ap.alloc (CE c)) aj _ _/\Ag (ap.alloc (CE c)) aO _ _/\Tt wz B (Y H m s) f n (ap.alloc (CE c))/\Below w.heap.size w (ap.alloc (CE c))/\Hid (Ar e=T));clear a8 bq ce aC cd ba M ak aB af al bG bF aD aE aF aG aH aI;go_wp2_with fail
      go_meet
      exact Aa cf
    |false=>
     have cf:=Ab (⟨ak,aB,by have q:=M;rw[Aa a9]at q;exact q,by rw[Aa a5];exact af,Ab (Aa bx aP)⟩:Ag wr aj _ _/\Ag wr aO _ _/\Tt wz B (Y H m s) f n wr/\Below w.heap.size w wr/\Hid (Ar e=T));clear ak aB M af bG bF aP bw bx aD aE aF aG aH;go_wp2_with fail
     go_meet
     exact Aa cf
   case rest=>
    obtain⟨aJ,ad,bc,aK,bd⟩:=hcut;have bb:=Aa a5;clear bw bx bF bG aD aE aF aG aH ak aB M af;cases Aa cD with
    |leaf e dx hx=>have:=Aa aN;simp at this;omega
    |un i o aX=>
     have cg:m=1:=(Aa aN).symm;subst cg;have dy:(a==27)=jC:=zA.2 (by have:=Aa cE i o rfl;omega);obtain⟨k0,rfl⟩:∃k0,f=[k0]:=by
      have:=Aa a9
      match f,this with
      |[k0],_=>exact⟨k0,rfl⟩
     have S:=bc.below (Av wc (jF #[U V a,U V 0,Q ⟨#[]⟩,Y T 0 0,Y H 1 s] 48));have ah:=aK.alloc aK.size (jF #[U V a,U V 0,Q ⟨#[]⟩,Y T 0 0,Y H 1 s] 48);have aq:=aJ.alloc (jF #[U V a,U V 0,Q ⟨#[]⟩,Y T 0 0,Y H 1 s] 48);have I:=ad.alloc (jF #[U V a,U V 0,Q ⟨#[]⟩,Y T 0 0,Y H 1 s] 48);have aL:=Ag.new wc #[U V a,U V 0,Q ⟨#[]⟩,Y T 0 0,Y H 1 s] 48;have ag:=Et (m:=1) S.own rfl;have ar:=S.all (m:=1) rfl NLN a 0 ⟨#[]⟩ T 0 0 [] ⟨⟨rfl,NLN,zD _,fun j h=>absurd h (by simp),fun j h=>absurd h (by simp)⟩,zD _,fun _=>rfl,fun dz e=>by cases e⟩ _ (.un i o aX);have W:=S.kid 0 (by simp) (by simp);obtain⟨K,L,ch,aa,aM⟩:=Bh ag (by simp);subst ch;obtain⟨O,a1,a2,a3,a4⟩:=aM 0 (by simp);simp only[zt,z0,zX]at O a1 a2 a3 a4 W;obtain⟨dA,s1,s2,dB,dC,-⟩:=Ay aJ;obtain⟨aD,aE,aF,aG,aH,-⟩:=Ay aq;have aY:=Aa bk o (by simp);obtain⟨dT,dU,r2,r3,dV,-⟩:=Ay aL;by_cases h9:a=9
     ·subst h9;by_cases bf:k0.op=9
      ·have ci:(k0.op==9)=jA:=zM.2 bf;obtain⟨aZ,G,rfl⟩:∃aZ G,o= .un aZ 9 G:=by
        have bM:=(Tl.tq W).op;rw[bf]at bM;cases o with
        |un aZ op G=>exact⟨aZ,G,by rw[show op=9 from bM.symm]⟩
        |bin aZ op l bm=>simp only[Be,zF,zI]at aY;have:op=9:=bM.symm;omega
        |_=>exact absurd bM (by simp[EZ,CV])
       have ac:=Ab (show FL ls (.un i 9 (.un aZ 9 G))=G by rw[FL,Aa bd];simp[AR,Np]);obtain⟨u1,u2,u3,u4,u5,u6,J,u7,u8⟩:=W;obtain⟨dW,dX,cZ,dY,c0⟩:=Bh u7 (by simp);obtain⟨a0,b1,b2,b3,b4⟩:=c0 0 (by simp);simp only[zt,z0,zX]at a0 b1 b2 b3 b4;rw[cZ,u5]at a4;have r:=Ab (Dy (w0:=wz) (B:=B) (c:=J) (by omega) ah I (by omega) (by omega) u8);obtain⟨aR,aS,aT,aU,aV,-⟩:=Ay I;obtain⟨bH,bI,bJ,bK,bL⟩:=Eu I;clear ar I aq aL aJ ad bc S ah aK bb ag aM c0 u1 u2 u3 u4 u5 u6 u7 u8 cZ bf aY aX;go_wp2_with fail
       exact jN (Fv results43 rfl (Aa r).2.1) rfl (by rw[Aa ac];exact⟨_,rfl,(Aa r).2.2,(Aa r).1⟩)
      ·have ci:(k0.op==9)=jC:=zA.2 bf;have ac:=Ab (show FL ls (.un i 9 o)= .un i 9 o by
        rw[FL,Aa bd];have:Np o=T:=by
         cases o with
         |un aZ op G=>exact if_neg (fun e=>bf ((Tl.tq W).op.trans e))
         |_=>rfl
        simp[AR,this])
       have r:=Ab (Dy (w0:=wz) (B:=B) (c:=⟨9,0,⟨#[]⟩,T,0,0,X ⟨K,L,T⟩,1,s⟩) (by omega) ah I (by omega) (by omega) ar);obtain⟨aR,aS,aT,aU,aV,-⟩:=Ay I;obtain⟨bH,bI,bJ,bK,bL⟩:=Eu I;clear ar W I aq aL aJ ad bc S ah aK bb ag aM bf aY aX;go_wp2_with fail
       exact jN (Fv results43 rfl (Aa r).2.1) rfl (by rw[Aa ac];exact⟨_,rfl,(Aa r).2.2,(Aa r).1⟩)
     ·have ci:(a==9)=jC:=zA.2 h9;have ac:=Ab (show FL ls (.un i a o)= .un i a o by rw[FL,Aa bd];simp[AR,h9]);have r:=Ab (Dy (w0:=wz) (B:=B) (c:=⟨a,0,⟨#[]⟩,T,0,0,X ⟨K,L,T⟩,1,s⟩) (by omega) ah I (by omega) (by omega) ar);obtain⟨aR,aS,aT,aU,aV,-⟩:=Ay I;obtain⟨bH,bI,bJ,bK,bL⟩:=Eu I;clear ar W I aq aL aJ ad bc S ah aK bb ag aM h9 aY aX;go_wp2_with fail
      exact jN (Fv results43 rfl (Aa r).2.1) rfl (by rw[Aa ac];exact⟨_,rfl,(Aa r).2.2,(Aa r).1⟩)
    |bin i o G aX=>
     have cg:m=2:=(Aa aN).symm;subst cg;have c1:=Aa cF i o G rfl;have dy:(a==27)=jC:=zA.2 (by omega);have ci:(a==9)=jC:=zA.2 (by omega);obtain⟨k0,J,rfl⟩:∃k0 J,f=[k0,J]:=by
      have:=Aa a9
      match f,this with
      |[k0,J],_=>exact⟨k0,J,rfl⟩
     have S:=bc.below (Av wc (jF #[U V a,U V 0,Q ⟨#[]⟩,Y T 0 0,Y H 2 s] 48));have ah:=aK.alloc aK.size (jF #[U V a,U V 0,Q ⟨#[]⟩,Y T 0 0,Y H 2 s] 48);have aq:=aJ.alloc (jF #[U V a,U V 0,Q ⟨#[]⟩,Y T 0 0,Y H 2 s] 48);have I:=ad.alloc (jF #[U V a,U V 0,Q ⟨#[]⟩,Y T 0 0,Y H 2 s] 48);have aL:=Ag.new wc #[U V a,U V 0,Q ⟨#[]⟩,Y T 0 0,Y H 2 s] 48;have ag:=Et (m:=2) S.own rfl;have ar:=S.all (m:=2) rfl NLN a 0 ⟨#[]⟩ T 0 0 [] ⟨⟨rfl,NLN,zD _,fun j h=>absurd h (by simp),fun j h=>absurd h (by simp)⟩,zD _,fun _=>rfl,fun dz e=>by cases e⟩ _ (.bin i o G aX);have W:=S.kid 0 (by simp) (by simp);have bs:=S.kid 1 (by simp) (by simp);obtain⟨K,L,ch,aa,aM⟩:=Bh ag (by simp);subst ch;obtain⟨O,a1,a2,a3,a4⟩:=aM 0 (by simp);obtain⟨a0,b1,b2,b3,b4⟩:=aM 1 (by simp);simp only[zt,z8,z0,Nat.one_mul,zX]at O a1 a2 a3 a4 a0 b1 b2 b3 b4 W bs;obtain⟨dA,s1,s2,dB,dC,-⟩:=Ay aJ;obtain⟨aD,aE,aF,aG,aH,-⟩:=Ay aq;have aY:=Aa bk o (by simp);have c2:=Aa bk G (by simp);have cj:=Tl.tq W;have ck:=Tl.tq bs;have dD:(Tryz.f83.name== "runtime.NumGoroutine")=jC:=by kernel_rfl
     have dE: Tryz.f83.body.isNone=jC:=by kernel_rfl
     clear ag aM bc aK aJ ad S;go_upto_region 29 with fail
     generalize dF:wc.alloc (jF #[U V a,U V 0,Q ⟨#[]⟩,Y T 0 0,Y (X ⟨K,L,T⟩) 2 s] 48)=ai at W bs ar ah aq I aL cj ck O a1 a2 a3 a4 a0 b1 b2 b3 b4 aa aD aE aF aG aH|-;clear dF;have ab:=(Av ai Gy)
     have dZ:=(ab.cell (p:=⟨K,L,T⟩) aa).trans O;have d0:=(ab.cell (p:=⟨K,L+1,T⟩) aa).trans a1;have d5:=(ab.cell (p:=⟨K,L+2,T⟩) aa).trans a2;have d6:=(ab.cell (p:=⟨K,L+3,T⟩) aa).trans a3;have d7:=(ab.cell (p:=⟨K,L+4,T⟩) aa).trans a4;have d8:=(ab.cell (p:=⟨K,L+5,T⟩) aa).trans a0;have d9:=(ab.cell (p:=⟨K,L+5+1,T⟩) aa).trans b1;have ea:=(ab.cell (p:=⟨K,L+5+2,T⟩) aa).trans b2;have eb:=(ab.cell (p:=⟨K,L+5+3,T⟩) aa).trans b3;have ec:=(ab.cell (p:=⟨K,L+5+4,T⟩) aa).trans b4;obtain⟨ed,ee,ef,eg,eh,-⟩:=Ay (aq.alloc Gy);have al:=Ab (fun ae (c3:Below ai.heap.size ai ae)=>Gz (Ail a c1 (cj.below c3 NLN) (ck.below c3 NLN) aY c2) (fun e w' ⟨⟨_,_,h,_⟩,_⟩=>⟨_,h⟩));have bg:=Ab (⟨W,bs,ar⟩:_/\_/\_);have bt:=Ab ah;have bN:=Ab I;have bO:=Ab aL;clear cj ck c1 ah aq I aL W bs ar aY c2;go_cut [13,14] (fun bm ok aW=>∃ (d:K5) (b:Bool) (p:Nat),bm= .pointer (X ⟨p,0,T⟩)/\ok= .bool b/\Hid (b=(CS a o G).isSome/\∀z,CS a o G=X z->PrW o G k0 J z d)/\Ag aW p #[U V d.op,U V d.num,Q d.text,Y d.an d.nn d.cn,Y d.ka d.kn d.kc] 48/\Below ai.heap.size ai aW)
     case first=>
      have dG:=Ab ab;clear ab bg bt bN bO bd bb a9 cD bk cE cF cG cH aN bV a5;go_region_law ((refine WW rfl 83 _ func83 dD dE _ _ _ _ rfl (U V a) (jG #[U V k0.op,U V k0.num,Q k0.text,Y k0.an k0.nn k0.cn,Y k0.ka k0.kn k0.kc]) (jG #[U V J.op,U V J.num,Q J.text,Y J.an J.nn J.cn,Y J.ka J.kn J.kc]) rfl rfl rfl _ (Aa al _ (by first|exact BRN.drew|exact(Aa dG).drew)) ?_;rintro ei bp ⟨⟨d,b,dH,ej,c4⟩,bP⟩;obtain rfl:=Bg dH;first|(have bQ:=(Ag.new ai #[U V 0,U V 0,Q ⟨#[]⟩,Y T 0 0,Y T 0 0] 48).after ((Below.refl (ai.alloc Gy).heap.size (ai.alloc Gy)).drew.trans (bP.mono NLN)) NLN;obtain⟨ek,el,em,en,eo,-⟩:=Ay bQ;obtain⟨g0,g1,g2,g3,ep⟩:=Eu bQ)|skip))
      all_goals (go_wp2_with fail;go_meet)
      all_goals first
       |(have dx:=bQ;have c5:=QL d ((Av ai Gy).drew.trans (bP.mono (Nat.le_of_lt (by show ai.heap.size<(ai.alloc Gy).heap.size;simp)))) bQ NLN;exact⟨d,_,_,rfl,rfl,Ab ⟨rfl,c4⟩,c5.2,c5.1⟩)
       |exact⟨d,_,_,rfl,rfl,Ab ⟨rfl,c4⟩,Ag.new bp _ _,((Ji ai).drew.trans (bP.mono NLN)).alloc bP.size _⟩
     case rest=>
      obtain⟨d,b,p,rfl,rfl,bu,cl,au⟩:=hcut;have bR:=(Aa bt).trans (au.mono (Aa bt).size);have bh:=(Aa bN).after au NLN;have cm:=(Aa bO).after au NLN;obtain⟨aR,aS,aT,aU,aV,-⟩:=Ay bh;obtain⟨bH,bI,bJ,bK,bL⟩:=Eu bh;obtain⟨eq,er,o2,es,et,-⟩:=Ay cm;obtain⟨eu,d1,d2,d3,d4,-⟩:=Ay cl;have ev:=au.size;cases b with
      |true=>
       obtain⟨z,bi⟩:=Option.isSome_iff_exists.1 (Aa bu).1.symm;have ac:=Ab (show FL ls (.bin i a o G)=z by rw[FL,Aa bd];show(AR ls (.bin i a o G)).getD _=_;rw[AR,bi];rfl);have c6:Ph wz B wc.heap.size wc d z:=by
        rcases(Aa bu).2 z bi with⟨rfl,rfl⟩|⟨rfl,rfl⟩|⟨c,rfl,rfl⟩|⟨rfl,rfl⟩
        ·exact((Aa bg).1.keep (Cf.of_below au)).mono (fun b ao=>by omega)
        ·exact((Aa bg).2.1.keep (Cf.of_below au)).mono (fun b ao=>by omega)
        ·exact Gx rfl (AaU _ c)
        ·exact Gx rfl (Aev _)
       have r:=Ab (Dy (w0:=wz) (B:=B) (c:=d) (by omega) bR bh (by omega) (by omega) c6);clear bR bh cm cl au bu c6 bg bt bN bO al bi O a1 a2 a3 a4 a0 b1 b2 b3 b4 aD aE aF aG aH;go_wp2_with fail
       exact jN (Fv results43 rfl (Aa r).2.1) rfl (by rw[Aa ac];exact⟨_,rfl,(Aa r).2.2,(Aa r).1⟩)
      |false=>
       have bi:CS a o G=T:=by cases h:CS a o G with
        |none=>rfl
        |some z=>have:=(Aa bu).1;rw[h]at this;cases this
       have ac:=Ab (show FL ls (.bin i a o G)= .bin i a o G by rw[FL,Aa bd];show(AR ls (.bin i a o G)).getD _=_;rw[AR,bi];rfl);have r:=Ab (Dy (w0:=wz) (B:=B) (c:=⟨a,0,⟨#[]⟩,T,0,0,X ⟨K,L,T⟩,2,s⟩) (by omega) bR bh (by omega) (by omega) (((Aa bg).2.2.keep (Cf.of_below au)).mono (fun b ao=>by omega)));clear bR bh cm cl au bu bg bt bN bO al bi O a1 a2 a3 a4 a0 b1 b2 b3 b4 aD aE aF aG aH;go_wp2_with fail
       exact jN (Fv results43 rfl (Aa r).2.1) rfl (by rw[Aa ac];exact⟨_,rfl,(Aa r).2.2,(Aa r).1⟩)
    |ite i o G ew ex aX=>have:=Aa aN;simp at this;omega
def Gf (w:Z):={W:Z // Below w.heap.size w W}
theorem Cx {P:Program}{b:Exit->Act->Z->Prop}{a:Act}{l:List Oper}(hm:P.follows .mixedOrders=jA)(hB:Region.lexB .any l.toArray=jA)
  (h:wpQuiet P l.toArray (fun w'=>∃n:Gf w,w'=n.1) (fun c=>∀w',(∃n:Gf w,w'=n.1)->b .normal c w') l a):(Code.region j l.toArray jA).wp P b a w:=
 wp_region_quiet (C:=fun w'=>∃n:Gf w,w'=n.1) hm hB ⟨⟨w.drew,⟨rfl,rfl,rfl,NLN,fun _ _=>rfl⟩⟩,rfl⟩ (by simpa using h)
theorem Aey (hx:x.con=jA)(hy:y.con=jA)(a:EZ x=EZ y):Ol x y=eqP (CV x).num (CV y).num (CV x).text (CV y).text (CV x).names (CV y).names:=by
 unfold Ol eqP;rw[hx,Z0];refine decide_eq_decide.2 ?_;cases x<;>cases y<;>first|(simp[Ex.con,Ex.cv]at hx;done)|(simp[Ex.con,Ex.cv]at hy;done)|(simp[EZ,CV]at a;done)|(simp[Ex.cv,CV];done)|(rename_i i b j c;cases b<;>cases c<;>simp[Ex.cv,CV])
open Classical in
theorem Aip  (hx:x.con=jA) (h:EZ x≠EZ y):Ol x y=jC:=by
 unfold Ol;rw[hx,Z0];refine zJ (fun e=>h ?_);cases x<;>cases y<;>first|(simp[Ex.con,Ex.cv]at hx;done)|rfl|(simp[Ex.cv]at e;done)
theorem AaV {e:Ex}(hc:e.con=jA)(h:Tq w e k):k.num=(CV e).num/\k.text=(CV e).text/\Ap w k.an k.nn k.cn (CV e).names:=by
 cases e<;>first|exact⟨h.2.1,h.2.2.1,h.2.2.2.2.1⟩|cases hc
theorem Aci (wz w0:Z)(dv:wz.heap.size<=w0.heap.size)(cM:Option jD)(cN cO:Nat)(ls:List Ex)(w:Z)(bO:Below w0.heap.size w0 w)(P ay:Int)(az:ByteArray)(aA:Option jD)(aB aC:Nat)(cP:Option jD)(m aD:Nat)(ks:List K5)(cQ:BT w0 cP ks)(cR:ks.length=m)(h1: 1<=m)(h3:m<=3)(d4: 3<=m)(h7:P≠7)(y:List Ex)(cS:y.length=m)(cT:∀z∈y,Be z=jA)(e:Ex)(cU:QH P 0 ⟨#[]⟩ [] y e)(cV:∀i e0,e= .un i P e0->8<=P/\P<=10)(cW:∀i e0 e1,e= .bin i P e0 e1->11<=P/\P<=26)
  (cX:∀aE x ka kc,x.length=m->BT aE ka x->(∀j,(h:j<y.length)->(h2:j<x.length)->Tq aE y[j] x[j])->y.all Ex.con=jA->jE j4 80 #[U V P,Y ka m kc] aE (PrA (Ar e) aE))(cY:y.all Ex.con=jC->Ar e=T)
  (cZ:∀j,(h:j<ks.length)->(h2:j<y.length)->∀aE,Below w.heap.size w aE->jE j4 43 #[jG #[U V ks[j].op,U V ks[j].num,Q ks[j].text,Y ks[j].an ks[j].nn ks[j].cn,Y ks[j].ka ks[j].kn ks[j].kc],Y cM cN cO] aE (Yp wz y[j] aE)):
  jE j4 43 #[jG #[U V P,U V ay,Q az,Y aA aB aC,Y cP m aD],Y cM cN cO] w (Yp wz (FL ls e) w):=by
 obtain⟨dw,dx,dy,dz,dA⟩:=jZ QI;obtain⟨g,ae,rfl,hg,hc⟩:=Bh cQ (by omega);have d5:(P==7)=jC:=zA.2 h7;have d6:((m:Int)==0)=jC:=zA.2 (by omega);have l:=((Av w (jF #[U V P,U V ay,Q az,Y aA aB aC,Y (X ⟨g,ae,T⟩) m aD] 48)).alloc (by simp) Gy)
 have bf:=Ag.new (w.alloc (jF #[U V P,U V ay,Q az,Y aA aB aC,Y (X ⟨g,ae,T⟩) m aD] 48)) #[U V 0,U V 0,Q ⟨#[]⟩,Y T 0 0,Y T 0 0] 48;have cd:=(Ag.new w #[U V P,U V ay,Q az,Y aA aB aC,Y (X ⟨g,ae,T⟩) m aD] 48).alloc Gy;have ce:((w.alloc (jF #[U V P,U V ay,Q az,Y aA aB aC,Y (X ⟨g,ae,T⟩) m aD] 48)).alloc Gy).heap.size=w.heap.size+2:=by simp
 simp only[jW]at bf;have dB:=Ab cZ;have bP:=Ab cX;have bQ:=Ab cY;have dC:=Ab cU;have dD:=Ab cV;have dE:=Ab cW;have c0:=Ab hc;have c5:=Ab cR;have aI:=Ab cS;have bg:=Ab cT;have c6:=Ab bO;have dF:wz.heap.size<=w.heap.size:=zB dv bO.size;have dG:w0.heap.size<=w.heap.size:=bO.size;clear cZ hc cR cS cT bO cQ h7 cX cY cU cV cW;go_enter func43,ntmps43
 go_wp2_with fail
 generalize (w.alloc (jF #[U V P,U V ay,Q az,Y aA aB aC,Y (X ⟨g,ae,T⟩) m aD] 48)).alloc Gy=c8 at l cd bf ce|-;have cf:Tt wz (w.heap.size+2) (Y T 0 0) [] [] c8:=⟨jX _ _ _ _,rfl,fun j h=>absurd h (by simp)⟩
 generalize c9:w.heap.size=ar at l cd bf ce cf dF dG|-;have bh:=Ab c9;generalize dH:ar+1=aJ at bf|-;generalize dI:ar+2=B at ce cf|-;have d7:ar<aJ/\aJ<B:=by omega
 clear c9 dH dI;go_loopw [5,6,39] (fun dJ bR i wr=>∃ (j:Nat) (x:List K5),j<=m/\i=U V j/\bR= .bool ((y.take j).all Ex.con)/\Hid (x.length=j)/\Ag wr ar #[U V P,U V ay,Q az,Y aA aB aC,Y (X ⟨g,ae,T⟩) m aD] 48/\Ag wr aJ #[U V 0,U V 0,Q ⟨#[]⟩,Y T 0 0,Y T 0 0] 48/\Tt wz B dJ x (y.take j) wr/\Below ar w wr/\B<=wr.heap.size) (fun _ _ i _=>m-(intOf i).toNat)
 case atStart=>exact⟨0,[],zD _,rfl,rfl,Ab rfl,cd,bf,cf,l,by omega⟩
 case round=>
  obtain⟨j,x,d8,rfl,rfl,cg,au,aF,ab,al,hB⟩:=hrel;obtain⟨ac,aa,rfl,_⟩:=Ae ab.own;by_cases bi:j<m
  ·have d9:(j:Int)<(m:Int):=by omega
   have ch:j<ks.length:=by rw[Aa c5];exact bi
   have bS:j<y.length:=by rw[Aa aI];exact bi
   have bT:Below w.heap.size w wr:=by rw[Aa bh];exact al
   have aX:=(Aa c6).trans (bT.mono (Aa c6).size);obtain⟨W,a1,a2,a3,a4⟩:=Aa c0 j ch;have bU:=Ab (Aa dB j ch bS);have da:=Ab (Aa bg _ (zH bS));have ci:=Ab (show y.take (j+1)=y.take j++[y[j]]from zQ bS);generalize ks[j]=k at W a1 a2 a3 a4 bU;generalize y[j]=z at bU da ci;replace W:=(aX.cell (p:=⟨g,ae+j*5,T⟩) hg).trans W;replace a1:=(aX.cell (p:=⟨g,ae+j*5+1,T⟩) hg).trans a1;replace a2:=(aX.cell (p:=⟨g,ae+j*5+2,T⟩) hg).trans a2;replace a3:=(aX.cell (p:=⟨g,ae+j*5+3,T⟩) hg).trans a3;replace a4:=(aX.cell (p:=⟨g,ae+j*5+4,T⟩) hg).trans a4;have bV:=Ab bi;have bj:=Ab (Aa bU _ (bT.alloc bT.size (CE k)));have ea:x.length<=1048576:=by have:=Aa cg;omega
   generalize aK:(y.take j).all Ex.con=bR;have dK:=Ab aK;clear bi ch bS aK aX;go_wp2_with fail
   refine(Aa bj).mono ?_;rintro bW af ⟨dL,rfl,cj,ck⟩;obtain⟨D,E,F,G,H,I,J,K,L⟩:=dL;dsimp only at cj|-;have bX:∀q,(Y ac x.length aa).ownBlock=X q->B<=q/\q<wr.heap.size:=fun q hq=>ab.own.lt q hq;have dM:(wr.alloc (CE k)).heap.size=wr.heap.size+1:=by simp
   have bk:=(Av wr (CE k)).trans (ck.mono (by omega));have eb:wr.heap.size<af.heap.size:=by have:=ck.size;omega
   have bl:=(ab.below bk).below (Av af (BV D E F G H I J K L));have db:Ph wz (wr.heap.size+1) (af.alloc (BV D E F G H I J K L)).heap.size (af.alloc (BV D E F G H I J K L)) ⟨D,E,F,G,H,I,J,K,L⟩ z:=(cj.keep (Cf.of_below (Av af (BV D E F G H I J K L)))).mono (fun b ao=>by rw[dM]at ao;rw[jW];omega);have dc:=(au.after bk NLN).alloc (BV D E F G H I J K L);have dd:=(aF.after bk NLN).alloc (BV D E F G H I J K L);have cl:=Ag.new af #[U V D,U V E,Q F,Y G H I,Y J K L] 48;have de:=(al.trans (bk.mono (by omega))).alloc (by omega) (BV D E F G H I J K L);have dN:(af.alloc (BV D E F G H I J K L)).heap.size=af.heap.size+1:=by simp
   obtain⟨n0,n1,n2,n3,dO,-⟩:=Ay cl;clear ab au aF al bT cj ck bk bj bU W a1 a2 a3 a4;have df:=jV bl.own (BV D E F G H I J K L);have cm:=jp (jm (af.alloc (BV D E F G H I J K L)) (BV D E F G H I J K L));simp only[jW]at cm;go_wp2_with (at_builtin;refine jj _ rfl _ _ 43 rfl B 48 dw (jG #[U V 0,U V 0,Q jU,Y T 0 0,Y T 0 0]) 5 80 underlying43 dx dy dz dA rfl (by decide) (Y ac x.length aa) x.length (x.flatMap K5.cs) rfl df ⟨af.heap.size+1,0,T⟩ 1 1 (K5.cs ⟨D,E,F,G,H,I,J,K,L⟩) rfl rfl cm (by intro u dg;simp[K5.cs]at dg;rcases dg with rfl|rfl|rfl|rfl|rfl<;>rfl) (by decide) (by unfold maxLen;omega) (by omega) (by simp;omega) _ rfl ?_)
   intro g7 c7 co dh aL hat dP;have aM:∀q,q<B->X q≠(Y ac x.length aa).ownBlock:=fun q hq e=>by have:=(bX q e.symm).1;omega
   have dQ:X af.heap.size≠(Y ac x.length aa).ownBlock:=fun e=>by have:=(bX _ e.symm).2;omega
   have cp:=(dc.alloc (BV D E F G H I J K L)).grown aL (aM ar (by omega));have cq:=(dd.alloc (BV D E F G H I J K L)).grown aL (aM aJ (by omega));have di:=(cl.alloc (BV D E F G H I J K L)).grown aL dQ;have cr:=(de.alloc (by rw[dN];omega) (BV D E F G H I J K L)).grown aL (by simp;omega) (fun q hq=>by have:=(bX q hq).1;omega);have dj:B<=co.heap.size:=by have:=aL.size;simp at this;omega
   have ct:=bl.snoc (k:=⟨D,E,F,G,H,I,J,K,L⟩) (b:=z) (by omega) (by omega) (fun q hq=>by have:=(bX q hq).2;omega) db dh aL (hat.imp id (fun e=>by rw[e];simp));have cu:=Ab (show Tt wz B (Y (X ⟨g7,0,T⟩) (x.length+1) c7) (x++[(⟨D,E,F,G,H,I,J,K,L⟩:K5)]) (y.take (j+1)) co by rw[Aa ci];exact ct);have dk:=Ab (show(x++[(⟨D,E,F,G,H,I,J,K,L⟩:K5)]).length=j+1 by rw[zC,Aa cg];rfl);have dl:=Ab (show(y.take (j+1)).all Ex.con=(bR&&z.con) by rw[Aa ci,List.all_append,Aa dK];simp);have dR:=Ab (show Tq co z ⟨D,E,F,G,H,I,J,K,L⟩ by
    have q:=ct.each x.length (by simp) (by rw[List.length_append,bl.len];simp);obtain⟨_,_,_,_,_,q⟩:=q;have dm:=Tl.tq q;have ec:=bl.len;rw[yH NLN,yH (by omega)]at dm;simpa using dm)
   have dS:=Ab (Dn (Aa dR) (Aa da));obtain⟨aN,aO,aP,aQ,aR,-⟩:=Ay di;clear bl ct dh aL hat dP db df cm dc dd cl de n0 n1 n2 n3 dO di;generalize af.heap.size=ed at aN aO aP aQ aR|-;cases bR with
   |false=>
    go_wp2_with fail
    go_roundw
    case rel=>exact⟨j+1,_,Aa bV,by go_num,by rw[Aa dl];rfl,dk,cp,cq,Aa cu,cr,dj⟩
    case measure=>have:=Aa bV;simp[intOf];omega
   |true=>
    go_wp2_with fail
    refine(Aa dS).mono ?_;rintro bW av ⟨rfl,aY⟩;have bm:=cp.after aY NLN;have aZ:=cq.after aY NLN;have aG:=cr.trans (aY.mono (by omega));have dT:=Ab ((Aa cu).below aY);have dU:B<=av.heap.size:=zB dj aY.size;clear cp cq cr cu aY aN aO aP aQ aR;dsimp only;go_wp2_with fail
    go_roundw
    case rel=>exact⟨j+1,_,Aa bV,by go_num,by rw[Aa dl];simp,dk,bm,aZ,Aa dT,aG,dU⟩
    case measure=>have:=Aa bV;simp[intOf];omega
  ·have dn:j=m:=by omega
   have dp:y.take j=y:=zY (by rw[Aa aI];omega);rw[dp]at ab|-;have bn:x.length=m:=by rw[Aa cg];exact dn
   have bo:=Et (by have:=ab.own;rw[bn]at this;exact this) bn;have bY:=Ab bo;have bZ:=Ab (fun (i:Nat) (h:i<y.length) (h2:i<x.length)=>by
    obtain⟨_,_,_,_,_,q⟩:=ab.each i h2 h;exact(Tl.tq q))
   rw[bn];have b0:=Ab bn;have ee: ¬ ((j:Int)<(m:Int)):=by omega
   obtain⟨a0,a5,a6,a7,a8,-⟩:=Ay au;clear bo bn dp bi dn;go_upto_if 56 with fail
   go_cut [6] (fun _ a9=>Ag a9 ar #[U V P,U V ay,Q az,Y aA aB aC,Y (X ⟨g,ae,T⟩) m aD] 48/\Ag a9 aJ #[U V 0,U V 0,Q ⟨#[]⟩,Y T 0 0,Y T 0 0] 48/\Tt wz B (Y ac m aa) x y a9/\Below w.heap.size w a9/\Hid (Ar e=T))
   case first=>
    cases aK:y.all Ex.con with
    |true=>
     have bj:=Ab (Aa bP wr x ac aa (Aa b0) (Aa bY) (Aa bZ) aK);clear aK bP bQ;go_wp2_with fail
     refine(Aa bj).mono ?_;rintro bW av ⟨⟨c,b,rfl,ao,cv⟩,ba⟩;dsimp only;have aG:Below w.heap.size w av:=(show Below w.heap.size w wr by rw[Aa bh];exact al).trans (ba.mono al.size);have bm:=au.after ba NLN;have aZ:=aF.after ba NLN;have cw:=ab.below ba;have dq:=Aa bh;cases aH:Ar e with
     |some z=>
      rw[aH]at ao;subst ao;have aw:=Ab (show FL ls e=z by rw[FL,aH]);have aS:=aZ.alloc (CE c);have M:=Ab (Dy (w0:=wz) (B:=B) (c:=c) (z:=z) (by omega) (aG.alloc aG.size (CE c)) aS (by omega) (by omega) (Gx (QP aH) ((cv z aH).below (Av av (CE c)) NLN)));obtain⟨aN,aO,aP,aQ,aR,-⟩:=Ay aS;obtain⟨b5,b6,b7,b8,b9⟩:=Eu aS;clear aS aZ bm cw aG cv aH ba dq ab au aF al;go_wp2_with fail
      exact jN (Fv results43 rfl (Aa M).2.1) rfl (by rw[Aa aw];exact⟨c,rfl,(Aa M).2.2,(Aa M).1⟩)
     |none=>
      rw[aH]at ao;subst ao;have ad:=Ab (⟨bm.alloc (CE c),aZ.alloc (CE c),by have q:=cw.below (Av av (CE c));rw[Aa b0]at q;exact q,aG.alloc aG.size (CE c),Ab aH⟩:Ag (av.alloc (CE c)) ar _ _/\Ag (av.alloc (CE c)) aJ _ _/\Tt wz B (Y ac m aa) x y (av.alloc (CE c))/\Below w.heap.size w (av.alloc (CE c))/\Hid (Ar e=T));clear aZ bm cw aG cv ba ab au aF al bj bZ bY a0 a5 a6 a7 a8 aH;go_wp2_with fail
      go_meet
      exact Aa ad
    |false=>
     have ad:=Ab (⟨au,aF,by have q:=ab;rw[Aa b0]at q;exact q,by rw[Aa bh];exact al,Ab (Aa bQ aK)⟩:Ag wr ar _ _/\Ag wr aJ _ _/\Tt wz B (Y ac m aa) x y wr/\Below w.heap.size w wr/\Hid (Ar e=T));clear au aF ab al bZ bY aK bP bQ a0 a5 a6 a7 a8;go_wp2_with fail
     go_meet
     exact Aa ad
   case rest=>
    obtain⟨cx,aS,dr,cy,bp⟩:=hcut;have dq:=Aa bh;clear bP bQ bY bZ a0 a5 a6 a7 a8 au aF ab al;cases Aa dC with
    |leaf e ef hx=>have:=Aa aI;simp at this;omega
    |un i C ca=>have:=Aa aI;simp at this;omega
    |bin i C N ca=>have:=Aa aI;simp at this;omega
    |ite i C N S dV ca=>
     have dW:m=3:=(Aa aI).symm;subst dW;subst dV;obtain⟨k0,o,r,rfl⟩:∃k0 o r,x=[k0,o,r]:=by
      have:=Aa b0
      match x,this with
      |[k0,o,r],_=>exact⟨k0,o,r,rfl⟩
     have bb:=dr.below (Av wc (jF #[U V 27,U V 0,Q ⟨#[]⟩,Y T 0 0,Y ac 3 aa] 48));have cz:=cy.alloc cy.size (jF #[U V 27,U V 0,Q ⟨#[]⟩,Y T 0 0,Y ac 3 aa] 48);have cA:=cx.alloc (jF #[U V 27,U V 0,Q ⟨#[]⟩,Y T 0 0,Y ac 3 aa] 48);have cB:=aS.alloc (jF #[U V 27,U V 0,Q ⟨#[]⟩,Y T 0 0,Y ac 3 aa] 48);have cC:=Ag.new wc #[U V 27,U V 0,Q ⟨#[]⟩,Y T 0 0,Y ac 3 aa] 48;have bo:=Et (m:=3) bb.own rfl;have cD:=bb.all (m:=3) rfl NLN 27 0 ⟨#[]⟩ T 0 0 [] ⟨⟨rfl,NLN,zD _,fun j h=>absurd h (by simp),fun j h=>absurd h (by simp)⟩,zD _,fun _=>rfl,fun eg e=>by cases e⟩ _ (.ite i C N S rfl ca);have bq:=bb.kid 0 (by simp) (by simp);have br:=bb.kid 1 (by simp) (by simp);have bs:=bb.kid 2 (by simp) (by simp);obtain⟨d,f,dX,a,cb⟩:=Bh bo (by simp);subst dX;obtain⟨W,a1,a2,a3,a4⟩:=cb 0 (by simp);obtain⟨ah,b1,b2,b3,b4⟩:=cb 1 (by simp);obtain⟨ai,c1,c2,c3,c4⟩:=cb 2 (by simp);simp only[zt,z8,z0,Nat.one_mul,zX]at W a1 a2 a3 a4 ah b1 b2 b3 b4 ai c1 c2 c3 c4 bq br bs;obtain⟨dY,s1,s2,dZ,d0,-⟩:=Ay cx;obtain⟨a0,a5,a6,a7,a8,-⟩:=Ay cA;have aT:=Aa bg C (by simp);have bc:=Aa bg N (by simp);have d1:=Aa bg S (by simp);have ap:=Tl.tq bq;have ag:=Tl.tq br;have aU:=Tl.tq bs;clear bo cb dr cy cx aS bb c5 aI bg dD dE c0 ca;go_upto_region 20 with fail
     generalize d2:wc.alloc (jF #[U V 27,U V 0,Q ⟨#[]⟩,Y T 0 0,Y (X ⟨d,f,T⟩) 3 aa] 48)=eh at bq br bs cD cz cA cB cC ap ag aU W a1 a2 a3 a4 ah b1 b2 b3 b4 ai c1 c2 c3 c4 a a0 a5 a6 a7 a8|-;clear d2;have bt:=Ab (⟨bq,br,bs,cD⟩:_/\_/\_/\_);have ax:=Ab cz;have bu:=Ab cB;have bv:=Ab cC;clear cz cB cC bq br bs cD cA a0 a5 a6 a7 a8 dY s1 s2 dZ d0;go_wp2_with fail
     refine(Fj ap aT jA 1 rfl).mono ?_;rintro bW c8 ⟨rfl,t⟩;dsimp only;cases cc:isB jA C with
     |true=>
      have aw:=Ab (show FL ls (.ite i C N S)=N by rw[FL,Aa bp];simp[AR,cc]);have aj:=(Aa ax).trans (t.mono (Aa ax).size);have O:=(Aa bu).after t NLN;have ak:=(Aa bv).after t NLN;have M:=Ab (Dy (w0:=wz) (B:=B) (c:=o) (by omega) aj O (by omega) (by omega) (((Aa bt).2.1).keep (Cf.of_below t) |>.mono (fun b ao=>by have:=t.size;omega)));obtain⟨aN,aO,aP,aQ,aR,-⟩:=Ay O;obtain⟨b5,b6,b7,b8,b9⟩:=Eu O;obtain⟨cE,cF,o2,cG,cH,-⟩:=Ay ak;have bw:=(t.cell (p:=⟨d,f,T⟩) a).trans W;have bx:=(t.cell (p:=⟨d,f+1,T⟩) a).trans a1;have bz:=(t.cell (p:=⟨d,f+2,T⟩) a).trans a2;have bA:=(t.cell (p:=⟨d,f+3,T⟩) a).trans a3;have bB:=(t.cell (p:=⟨d,f+4,T⟩) a).trans a4;have bC:=(t.cell (p:=⟨d,f+5,T⟩) a).trans ah;have bD:=(t.cell (p:=⟨d,f+5+1,T⟩) a).trans b1;have bE:=(t.cell (p:=⟨d,f+5+2,T⟩) a).trans b2;have bF:=(t.cell (p:=⟨d,f+5+3,T⟩) a).trans b3;have bG:=(t.cell (p:=⟨d,f+5+4,T⟩) a).trans b4;have bH:=(t.cell (p:=⟨d,f+10,T⟩) a).trans ai;have bI:=(t.cell (p:=⟨d,f+10+1,T⟩) a).trans c1;have bJ:=(t.cell (p:=⟨d,f+10+2,T⟩) a).trans c2;have bK:=(t.cell (p:=⟨d,f+10+3,T⟩) a).trans c3;have bL:=(t.cell (p:=⟨d,f+10+4,T⟩) a).trans c4;clear aj O ak t;go_wp2_with fail
      exact jN (Fv results43 rfl (Aa M).2.1) rfl (by rw[Aa aw];exact⟨_,rfl,(Aa M).2.2,(Aa M).1⟩)
     |false=>
      have ds:=ap.below t NLN;have bw:=(t.cell (p:=⟨d,f,T⟩) a).trans W;have bx:=(t.cell (p:=⟨d,f+1,T⟩) a).trans a1;have bz:=(t.cell (p:=⟨d,f+2,T⟩) a).trans a2;have bA:=(t.cell (p:=⟨d,f+3,T⟩) a).trans a3;have bB:=(t.cell (p:=⟨d,f+4,T⟩) a).trans a4;have bC:=(t.cell (p:=⟨d,f+5,T⟩) a).trans ah;have bD:=(t.cell (p:=⟨d,f+5+1,T⟩) a).trans b1;have bE:=(t.cell (p:=⟨d,f+5+2,T⟩) a).trans b2;have bF:=(t.cell (p:=⟨d,f+5+3,T⟩) a).trans b3;have bG:=(t.cell (p:=⟨d,f+5+4,T⟩) a).trans b4;have bH:=(t.cell (p:=⟨d,f+10,T⟩) a).trans ai;have bI:=(t.cell (p:=⟨d,f+10+1,T⟩) a).trans c1;have bJ:=(t.cell (p:=⟨d,f+10+2,T⟩) a).trans c2;have bK:=(t.cell (p:=⟨d,f+10+3,T⟩) a).trans c3;have bL:=(t.cell (p:=⟨d,f+10+4,T⟩) a).trans c4;go_wp2_with fail
      refine(Fj ds aT jC 0 rfl).mono ?_;rintro bW A ⟨rfl,b2⟩;have l:=t.trans (b2.mono t.size);clear b2 ds bw bx bz bA bB bC bD bE bF bG bH bI bJ bK bL t;dsimp only;cases cI:isB jC C with
      |true=>
       have aw:=Ab (show FL ls (.ite i C N S)=S by rw[FL,Aa bp];simp[AR,cc,cI]);have aj:=(Aa ax).trans (l.mono (Aa ax).size);have O:=(Aa bu).after l NLN;have ak:=(Aa bv).after l NLN;have M:=Ab (Dy (w0:=wz) (B:=B) (c:=r) (by omega) aj O (by omega) (by omega) (((Aa bt).2.2.1).keep (Cf.of_below l) |>.mono (fun b ao=>by have:=l.size;omega)));obtain⟨aN,aO,aP,aQ,aR,-⟩:=Ay O;obtain⟨b5,b6,b7,b8,b9⟩:=Eu O;obtain⟨cE,cF,o2,cG,cH,-⟩:=Ay ak;have bw:=(l.cell (p:=⟨d,f,T⟩) a).trans W;have bx:=(l.cell (p:=⟨d,f+1,T⟩) a).trans a1;have bz:=(l.cell (p:=⟨d,f+2,T⟩) a).trans a2;have bA:=(l.cell (p:=⟨d,f+3,T⟩) a).trans a3;have bB:=(l.cell (p:=⟨d,f+4,T⟩) a).trans a4;have bC:=(l.cell (p:=⟨d,f+5,T⟩) a).trans ah;have bD:=(l.cell (p:=⟨d,f+5+1,T⟩) a).trans b1;have bE:=(l.cell (p:=⟨d,f+5+2,T⟩) a).trans b2;have bF:=(l.cell (p:=⟨d,f+5+3,T⟩) a).trans b3;have bG:=(l.cell (p:=⟨d,f+5+4,T⟩) a).trans b4;have bH:=(l.cell (p:=⟨d,f+10,T⟩) a).trans ai;have bI:=(l.cell (p:=⟨d,f+10+1,T⟩) a).trans c1;have bJ:=(l.cell (p:=⟨d,f+10+2,T⟩) a).trans c2;have bK:=(l.cell (p:=⟨d,f+10+3,T⟩) a).trans c3;have bL:=(l.cell (p:=⟨d,f+10+4,T⟩) a).trans c4;clear aj O ak l;go_wp2_with fail
       exact jN (Fv results43 rfl (Aa M).2.1) rfl (by rw[Aa aw];exact⟨_,rfl,(Aa M).2.2,(Aa M).1⟩)
      |false=>
       have cJ:=Ab cc;have cK:=Ab cI;clear cc cI;go_upto_region 24 with fail
       go_cut [90] (fun v a9=>v= .bool (Ol N S&&Ao C)/\Below A.heap.size A a9)
       case first=>
        replace ap:=ap.below l NLN;replace ag:=ag.below l NLN;replace aU:=aU.below l NLN;replace W:=(l.cell (p:=⟨d,f,T⟩) a).trans W;replace a1:=(l.cell (p:=⟨d,f+1,T⟩) a).trans a1;replace a2:=(l.cell (p:=⟨d,f+2,T⟩) a).trans a2;replace a3:=(l.cell (p:=⟨d,f+3,T⟩) a).trans a3;replace a4:=(l.cell (p:=⟨d,f+4,T⟩) a).trans a4;replace ah:=(l.cell (p:=⟨d,f+5,T⟩) a).trans ah;replace b1:=(l.cell (p:=⟨d,f+5+1,T⟩) a).trans b1;replace b2:=(l.cell (p:=⟨d,f+5+2,T⟩) a).trans b2;replace b3:=(l.cell (p:=⟨d,f+5+3,T⟩) a).trans b3;replace b4:=(l.cell (p:=⟨d,f+5+4,T⟩) a).trans b4;replace ai:=(l.cell (p:=⟨d,f+10,T⟩) a).trans ai;replace c1:=(l.cell (p:=⟨d,f+10+1,T⟩) a).trans c1;replace c2:=(l.cell (p:=⟨d,f+10+2,T⟩) a).trans c2;replace c3:=(l.cell (p:=⟨d,f+10+3,T⟩) a).trans c3;replace c4:=(l.cell (p:=⟨d,f+10+4,T⟩) a).trans c4;replace a:=zE a l.size;clear l bt ax bu bv bp cJ cK;have ei:=fun n:Gf A=>(n.2.cell (p:=⟨d,f,T⟩) a).trans W;have ej:=fun n:Gf A=>(n.2.cell (p:=⟨d,f+1,T⟩) a).trans a1;have ek:=fun n:Gf A=>(n.2.cell (p:=⟨d,f+2,T⟩) a).trans a2;have el:=fun n:Gf A=>(n.2.cell (p:=⟨d,f+3,T⟩) a).trans a3;have em:=fun n:Gf A=>(n.2.cell (p:=⟨d,f+4,T⟩) a).trans a4;have en:=fun n:Gf A=>(n.2.cell (p:=⟨d,f+5,T⟩) a).trans ah;have eo:=fun n:Gf A=>(n.2.cell (p:=⟨d,f+5+1,T⟩) a).trans b1;have ep:=fun n:Gf A=>(n.2.cell (p:=⟨d,f+5+2,T⟩) a).trans b2;have eq:=fun n:Gf A=>(n.2.cell (p:=⟨d,f+5+3,T⟩) a).trans b3;have er:=fun n:Gf A=>(n.2.cell (p:=⟨d,f+5+4,T⟩) a).trans b4;have es:=fun n:Gf A=>(n.2.cell (p:=⟨d,f+10,T⟩) a).trans ai;have et:=fun n:Gf A=>(n.2.cell (p:=⟨d,f+10+1,T⟩) a).trans c1;have eu:=fun n:Gf A=>(n.2.cell (p:=⟨d,f+10+2,T⟩) a).trans c2;have ev:=fun n:Gf A=>(n.2.cell (p:=⟨d,f+10+3,T⟩) a).trans c3;have ew:=fun n:Gf A=>(n.2.cell (p:=⟨d,f+10+4,T⟩) a).trans c4;clear W a1 a2 a3 a4 ah b1 b2 b3 b4 ai c1 c2 c3 c4;cases aq:N.con with
        |false=>
         have ad:=Ab (show(Ol N S&&Ao C)=jC by simp[Ol,aq]);have aM:Nonempty (Gf A):=⟨⟨A,BRN⟩⟩
         refine Cx (by kernel_rfl) (by kernel_rfl) ?_
         repeat (first|go_big_quiet_skip|(go_big_quiet_want;go_big_quiet_op;first|go_big_quiet_on|(apply Exists.intro;refine⟨fun n=>?_,?_⟩;(first|exact rfl|(go_at_call 79;have q:=Dn (ag.below n.2 NLN) bc;rw[aq]at q;exact q.mono (fun e w' h=>⟨h.1,⟨w',n.2.trans (h.2.mono n.2.size)⟩,rfl⟩))|(go_at_call_of 82 (o.text);have q:=Ew o n.1;exact q.mono (fun e w' h=>⟨h.1,⟨w',n.2.trans (h.2.mono n.2.size)⟩,rfl⟩))|(go_at_call_of 82 (r.text);have q:=Ew r n.1;exact q.mono (fun e w' h=>⟨h.1,⟨w',n.2.trans (h.2.mono n.2.size)⟩,rfl⟩))|(go_at_call 81;have q:=EL 0 o.num o.text o.an o.nn o.cn _ 0 r.num r.text r.an r.nn r.cn _ n.1 ((Aa bM).below n.2 NLN) ((Aa bN).below n.2 NLN);rw[hp]at q;exact q.mono (fun e w' h=>⟨h.1,⟨w',n.2.trans (h.2.mono n.2.size)⟩,rfl⟩))|(go_at_call 17;have q:=DU C _ n.1 (ap.below n.2 NLN) aT;rw[aV]at q;exact q.mono (fun e w' h=>⟨h.1,⟨w',n.2.trans (h.2.mono n.2.size)⟩,rfl⟩)));go_big_quiet_on)))
         refine wpQuiet_nil ?_;rintro _ ⟨n,rfl⟩;go_wp2_with fail
         go_meet
         exact⟨by rw[Aa ad],n.2⟩
        |true=>
         by_cases aW:o.op=r.op
         ·have d3:(o.op==r.op)=jA:=zM.2 aW;have cL:S.con=jA:=by rw[Y5 d1,<-aU.op,<-aW,ag.op,<-Y5 bc];exact aq
          have bd:=Aey aq cL (by rw[<-ag.op,<-aU.op];exact aW);have n1:=AaV aq ag;have n2:=AaV cL aU;rw[<-n1.1,<-n2.1,<-n1.2.1,<-n2.2.1]at bd;have bM:=Ab n1.2.2;have bN:=Ab n2.2.2;clear aW cL n1 n2;cases hp:eqP o.num r.num o.text r.text (CV N).names (CV S).names with
          |false=>
           have ad:=Ab (show(Ol N S&&Ao C)=jC by rw[bd,hp];rfl);clear bd;have aM:Nonempty (Gf A):=⟨⟨A,BRN⟩⟩
           refine Cx (by kernel_rfl) (by kernel_rfl) ?_
           repeat (first|go_big_quiet_skip|(go_big_quiet_want;go_big_quiet_op;first|go_big_quiet_on|(apply Exists.intro;refine⟨fun n=>?_,?_⟩;(first|exact rfl|(go_at_call 79;have q:=Dn (ag.below n.2 NLN) bc;rw[aq]at q;exact q.mono (fun e w' h=>⟨h.1,⟨w',n.2.trans (h.2.mono n.2.size)⟩,rfl⟩))|(go_at_call_of 82 (o.text);have q:=Ew o n.1;exact q.mono (fun e w' h=>⟨h.1,⟨w',n.2.trans (h.2.mono n.2.size)⟩,rfl⟩))|(go_at_call_of 82 (r.text);have q:=Ew r n.1;exact q.mono (fun e w' h=>⟨h.1,⟨w',n.2.trans (h.2.mono n.2.size)⟩,rfl⟩))|(go_at_call 81;have q:=EL 0 o.num o.text o.an o.nn o.cn _ 0 r.num r.text r.an r.nn r.cn _ n.1 ((Aa bM).below n.2 NLN) ((Aa bN).below n.2 NLN);rw[hp]at q;exact q.mono (fun e w' h=>⟨h.1,⟨w',n.2.trans (h.2.mono n.2.size)⟩,rfl⟩))|(go_at_call 17;have q:=DU C _ n.1 (ap.below n.2 NLN) aT;rw[aV]at q;exact q.mono (fun e w' h=>⟨h.1,⟨w',n.2.trans (h.2.mono n.2.size)⟩,rfl⟩)));go_big_quiet_on)))
           refine wpQuiet_nil ?_;rintro _ ⟨n,rfl⟩;go_wp2_with fail
           go_meet
           exact⟨by rw[Aa ad],n.2⟩
          |true=>
           cases aV:Ao C with
           |false=>
            have ad:=Ab (show(Ol N S&&Ao C)=jC by rw[aV,Bool.and_false]);clear bd;have aM:Nonempty (Gf A):=⟨⟨A,BRN⟩⟩
            refine Cx (by kernel_rfl) (by kernel_rfl) ?_
            repeat (first|go_big_quiet_skip|(go_big_quiet_want;go_big_quiet_op;first|go_big_quiet_on|(apply Exists.intro;refine⟨fun n=>?_,?_⟩;(first|exact rfl|(go_at_call 79;have q:=Dn (ag.below n.2 NLN) bc;rw[aq]at q;exact q.mono (fun e w' h=>⟨h.1,⟨w',n.2.trans (h.2.mono n.2.size)⟩,rfl⟩))|(go_at_call_of 82 (o.text);have q:=Ew o n.1;exact q.mono (fun e w' h=>⟨h.1,⟨w',n.2.trans (h.2.mono n.2.size)⟩,rfl⟩))|(go_at_call_of 82 (r.text);have q:=Ew r n.1;exact q.mono (fun e w' h=>⟨h.1,⟨w',n.2.trans (h.2.mono n.2.size)⟩,rfl⟩))|(go_at_call 81;have q:=EL 0 o.num o.text o.an o.nn o.cn _ 0 r.num r.text r.an r.nn r.cn _ n.1 ((Aa bM).below n.2 NLN) ((Aa bN).below n.2 NLN);rw[hp]at q;exact q.mono (fun e w' h=>⟨h.1,⟨w',n.2.trans (h.2.mono n.2.size)⟩,rfl⟩))|(go_at_call 17;have q:=DU C _ n.1 (ap.below n.2 NLN) aT;rw[aV]at q;exact q.mono (fun e w' h=>⟨h.1,⟨w',n.2.trans (h.2.mono n.2.size)⟩,rfl⟩)));go_big_quiet_on)))
            refine wpQuiet_nil ?_;rintro _ ⟨n,rfl⟩;go_wp2_with fail
            go_meet
            exact⟨by rw[Aa ad],n.2⟩
           |true=>
            have ad:=Ab (show(Ol N S&&Ao C)=jA by rw[bd,hp,aV];rfl);clear bd;have aM:Nonempty (Gf A):=⟨⟨A,BRN⟩⟩
            refine Cx (by kernel_rfl) (by kernel_rfl) ?_
            repeat (first|go_big_quiet_skip|(go_big_quiet_want;go_big_quiet_op;first|go_big_quiet_on|(apply Exists.intro;refine⟨fun n=>?_,?_⟩;(first|exact rfl|(go_at_call 79;have q:=Dn (ag.below n.2 NLN) bc;rw[aq]at q;exact q.mono (fun e w' h=>⟨h.1,⟨w',n.2.trans (h.2.mono n.2.size)⟩,rfl⟩))|(go_at_call_of 82 (o.text);have q:=Ew o n.1;exact q.mono (fun e w' h=>⟨h.1,⟨w',n.2.trans (h.2.mono n.2.size)⟩,rfl⟩))|(go_at_call_of 82 (r.text);have q:=Ew r n.1;exact q.mono (fun e w' h=>⟨h.1,⟨w',n.2.trans (h.2.mono n.2.size)⟩,rfl⟩))|(go_at_call 81;have q:=EL 0 o.num o.text o.an o.nn o.cn _ 0 r.num r.text r.an r.nn r.cn _ n.1 ((Aa bM).below n.2 NLN) ((Aa bN).below n.2 NLN);rw[hp]at q;exact q.mono (fun e w' h=>⟨h.1,⟨w',n.2.trans (h.2.mono n.2.size)⟩,rfl⟩))|(go_at_call 17;have q:=DU C _ n.1 (ap.below n.2 NLN) aT;rw[aV]at q;exact q.mono (fun e w' h=>⟨h.1,⟨w',n.2.trans (h.2.mono n.2.size)⟩,rfl⟩)));go_big_quiet_on)))
            refine wpQuiet_nil ?_;rintro _ ⟨n,rfl⟩;go_wp2_with fail
            go_meet
            exact⟨by rw[Aa ad],n.2⟩
         ·have d3:(o.op==r.op)=jC:=zA.2 aW;have ad:=Ab (show(Ol N S&&Ao C)=jC by rw[Aip aq (by rw[<-ag.op,<-aU.op];exact aW)];rfl);clear aW;have aM:Nonempty (Gf A):=⟨⟨A,BRN⟩⟩
          refine Cx (by kernel_rfl) (by kernel_rfl) ?_
          repeat (first|go_big_quiet_skip|(go_big_quiet_want;go_big_quiet_op;first|go_big_quiet_on|(apply Exists.intro;refine⟨fun n=>?_,?_⟩;(first|exact rfl|(go_at_call 79;have q:=Dn (ag.below n.2 NLN) bc;rw[aq]at q;exact q.mono (fun e w' h=>⟨h.1,⟨w',n.2.trans (h.2.mono n.2.size)⟩,rfl⟩))|(go_at_call_of 82 (o.text);have q:=Ew o n.1;exact q.mono (fun e w' h=>⟨h.1,⟨w',n.2.trans (h.2.mono n.2.size)⟩,rfl⟩))|(go_at_call_of 82 (r.text);have q:=Ew r n.1;exact q.mono (fun e w' h=>⟨h.1,⟨w',n.2.trans (h.2.mono n.2.size)⟩,rfl⟩))|(go_at_call 81;have q:=EL 0 o.num o.text o.an o.nn o.cn _ 0 r.num r.text r.an r.nn r.cn _ n.1 ((Aa bM).below n.2 NLN) ((Aa bN).below n.2 NLN);rw[hp]at q;exact q.mono (fun e w' h=>⟨h.1,⟨w',n.2.trans (h.2.mono n.2.size)⟩,rfl⟩))|(go_at_call 17;have q:=DU C _ n.1 (ap.below n.2 NLN) aT;rw[aV]at q;exact q.mono (fun e w' h=>⟨h.1,⟨w',n.2.trans (h.2.mono n.2.size)⟩,rfl⟩)));go_big_quiet_on)))
          refine wpQuiet_nil ?_;rintro _ ⟨n,rfl⟩;go_wp2_with fail
          go_meet
          exact⟨by rw[Aa ad],n.2⟩
       case rest=>
        obtain⟨rfl,dt⟩:=hcut;have s:=l.trans (dt.mono l.size);clear l dt;cases du:(Ol N S&&Ao C)with
        |true=>
         have aw:=Ab (show FL ls (.ite i C N S)=N by rw[FL,Aa bp];simp[AR,Aa cJ,Aa cK,du]);have aj:=(Aa ax).trans (s.mono (Aa ax).size);have O:=(Aa bu).after s NLN;have ak:=(Aa bv).after s NLN;have M:=Ab (Dy (w0:=wz) (B:=B) (c:=o) (by omega) aj O (by omega) (by omega) (((Aa bt).2.1).keep (Cf.of_below s) |>.mono (fun b ao=>by have:=s.size;omega)));obtain⟨aN,aO,aP,aQ,aR,-⟩:=Ay O;obtain⟨b5,b6,b7,b8,b9⟩:=Eu O;obtain⟨cE,cF,o2,cG,cH,-⟩:=Ay ak;have bw:=(s.cell (p:=⟨d,f,T⟩) a).trans W;have bx:=(s.cell (p:=⟨d,f+1,T⟩) a).trans a1;have bz:=(s.cell (p:=⟨d,f+2,T⟩) a).trans a2;have bA:=(s.cell (p:=⟨d,f+3,T⟩) a).trans a3;have bB:=(s.cell (p:=⟨d,f+4,T⟩) a).trans a4;have bC:=(s.cell (p:=⟨d,f+5,T⟩) a).trans ah;have bD:=(s.cell (p:=⟨d,f+5+1,T⟩) a).trans b1;have bE:=(s.cell (p:=⟨d,f+5+2,T⟩) a).trans b2;have bF:=(s.cell (p:=⟨d,f+5+3,T⟩) a).trans b3;have bG:=(s.cell (p:=⟨d,f+5+4,T⟩) a).trans b4;have bH:=(s.cell (p:=⟨d,f+10,T⟩) a).trans ai;have bI:=(s.cell (p:=⟨d,f+10+1,T⟩) a).trans c1;have bJ:=(s.cell (p:=⟨d,f+10+2,T⟩) a).trans c2;have bK:=(s.cell (p:=⟨d,f+10+3,T⟩) a).trans c3;have bL:=(s.cell (p:=⟨d,f+10+4,T⟩) a).trans c4;clear aj O ak s;go_wp2_with fail
         exact jN (Fv results43 rfl (Aa M).2.1) rfl (by rw[Aa aw];exact⟨_,rfl,(Aa M).2.2,(Aa M).1⟩)
        |false=>
         have aw:=Ab (show FL ls (.ite i C N S)= .ite i C N S by rw[FL,Aa bp];simp[AR,Aa cJ,Aa cK,du]);have aj:=(Aa ax).trans (s.mono (Aa ax).size);have O:=(Aa bu).after s NLN;have ak:=(Aa bv).after s NLN;have M:=Ab (Dy (w0:=wz) (B:=B) (c:=⟨27,0,⟨#[]⟩,T,0,0,X ⟨d,f,T⟩,3,aa⟩) (by omega) aj O (by omega) (by omega) (((Aa bt).2.2.2).keep (Cf.of_below s) |>.mono (fun b ao=>by have:=s.size;omega)));obtain⟨aN,aO,aP,aQ,aR,-⟩:=Ay O;obtain⟨b5,b6,b7,b8,b9⟩:=Eu O;obtain⟨cE,cF,o2,cG,cH,-⟩:=Ay ak;have bw:=(s.cell (p:=⟨d,f,T⟩) a).trans W;have bx:=(s.cell (p:=⟨d,f+1,T⟩) a).trans a1;have bz:=(s.cell (p:=⟨d,f+2,T⟩) a).trans a2;have bA:=(s.cell (p:=⟨d,f+3,T⟩) a).trans a3;have bB:=(s.cell (p:=⟨d,f+4,T⟩) a).trans a4;have bC:=(s.cell (p:=⟨d,f+5,T⟩) a).trans ah;have bD:=(s.cell (p:=⟨d,f+5+1,T⟩) a).trans b1;have bE:=(s.cell (p:=⟨d,f+5+2,T⟩) a).trans b2;have bF:=(s.cell (p:=⟨d,f+5+3,T⟩) a).trans b3;have bG:=(s.cell (p:=⟨d,f+5+4,T⟩) a).trans b4;have bH:=(s.cell (p:=⟨d,f+10,T⟩) a).trans ai;have bI:=(s.cell (p:=⟨d,f+10+1,T⟩) a).trans c1;have bJ:=(s.cell (p:=⟨d,f+10+2,T⟩) a).trans c2;have bK:=(s.cell (p:=⟨d,f+10+3,T⟩) a).trans c3;have bL:=(s.cell (p:=⟨d,f+10+4,T⟩) a).trans c4;clear aj O ak s;go_wp2_with fail
         exact jN (Fv results43 rfl (Aa M).2.1) rfl (by rw[Aa aw];exact⟨_,rfl,(Aa M).2.2,(Aa M).1⟩)
end Go.Proofs.YteiieikcjcfkkaaGreatDoor

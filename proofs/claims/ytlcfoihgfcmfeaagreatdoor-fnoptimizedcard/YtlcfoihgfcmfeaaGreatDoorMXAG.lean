import Derived.Test.YtlcfoihgfcmfeaaGreatDoorMXAF
import Derived.Test.YtlcfoihgfcmfeaaGreatDoorMXAU
open Option renaming none->V,some->Z
open List renaming length->Y
open Array renaming size->R,size->jh
open Go renaming World->jD,Value->jF,Addr->jH,TypeId->jR
open Bool renaming true->jG,false->jI
open ByteArray renaming empty->jX
namespace Go.Proofs.YtlcfoihgfcmfeaaGreatDoor
open Proofs.Tryz
open Value renaming int->T,slice->X,string->jA,agg->jL,ownBlock->jO,pointer->jQ
open IntKind renaming i64->U
open World renaming heap->Q,cell?->jE,alloc->jK,setCell->jM,ownsRow->jP,drew->jV
open Addr renaming mk->jB
open Obj renaming cells->jC
open Ending renaming returned->jN
open Proofs.Tryz renaming prog->jZ
open Go.RowKit
set_option linter.unusedVariables false
set_option maxRecDepth 100000
set_option maxHeartbeats 3200000
variable{g:Array Oper}{j:Exit->Act->jD->Prop}{N:M7}{rest:List Oper}{b k:N4}{B a size n:Nat}{o:Oper}{t:jR}{v:jF}{w:jD}
theorem Rm(a x:M3)(n c y:Nat)(L:M7)(w:jD)(h:GN w a n c L)(D:GN w x n y L):Calls jZ 34 #[X a n c,X x n y] w λe w'=>e=jN (.bool jG)/\Ak w w':=by
 have M:=h.aH;have N:=h.len;go_enter func34,ntmps34;go_wp2_with fail;go_loopw[5,6,15] (λ_ _ i wr=>∃k:Nat,k<=n/\i=T U k/\Ak w wr) (λ_ _ i _=>n-(intOf i).toNat);case atStart=>exact⟨0,zH _,rfl,BRN⟩
 obtain⟨k,O,rfl,g⟩:=hrel;by_cases P:k<n
 .obtain⟨b,S,E,W,an,nn,cn,m,F,o,c0,c1,c2,c3,c4,z,A⟩:=(h.below g NLN).cells k Oa;obtain⟨aa,ab,G,ac,p,d,q,r,f,s,H,d1,d2,d3,d4,B,C⟩:=(D.below g NLN).cells k Oa;subst E;subst G;have ad:(k:Int)<(n:Int):=Oa;obtain rfl:d=nn:=by rw[B.len,z.len]
  obtain rfl:f=F:=by rw[<-C.len,<-A.len]
  go_wp2_with fail;have u:=Ar wr<|jC #[T U L[k].op,T U L[k].num,jA L[k].text,X an d cn,X m f o] 112;have j:=u.alloc u.size<|jC #[T U L[k].op,T U L[k].num,jA L[k].text,X p d q,X r f s] 112;have v:=(Ah.new wr #[T U L[k].op,T U L[k].num,jA L[k].text,X an d cn,X m f o] 112).alloc<|jC #[T U L[k].op,T U L[k].num,jA L[k].text,X p d q,X r f s] 112;have t:=Ah.new (jK wr<|jC #[T U L[k].op,T U L[k].num,jA L[k].text,X an d cn,X m f o] 112) #[T U L[k].op,T U L[k].num,jA L[k].text,X p d q,X r f s] 112;simp only[K6]at t;generalize jK (jK wr (jC #[T U L[k].op,T U L[k].num,jA L[k].text,X an d cn,X m f o] 112)) (jC #[T U L[k].op,T U L[k].num,jA L[k].text,X p d q,X r f s] 112)=w2 at j v t|-;refine(Kg _ _ _ _ _ _ w2 (z.below j NLN)<|B.below j NLN).mono ?_;rintro I J ⟨rfl,b3⟩;have ae:=(v.aB b3 NLN).cell 4;have af:=(t.aB b3 NLN).cell 4;have l:=j.trans<|b3.mono j.size;clear v t b3 u j c0 c1 c2 c3 c4 H d1 d2 d3 d4;dsimp only;go_wp2_with fail;refine(Ll _ _ _ _ _ _ J (A.below l NLN)<|C.below l NLN).mono ?_;rintro I ag ⟨rfl,b4⟩;have K:=g.trans<|(l.trans<|b4.mono l.size).mono g.size;clear l b4 g;dsimp only;go_wp2;go_roundw;case rel=>exact⟨k+1,Oa,O0,K⟩
  simp[intOf]<;>omega
 go_wp2;go_ret;exact⟨rfl,g⟩
section
open Go.RowKit Go.Extern.Stop Go.Stop Go.Extern
variable{aX a1 a2 a3 a4 a5 a6 a7 a8 a9:jH}
end
theorem Aci:(jZ.info? 97).map (λi=>(i.zero,i.size,i.bytes))=Z (Z<|jL #[T U 0,jA jX,T U 0,T U 0],4,40):=Ok
def Ann(S:M9)(w:jD)(r:Ending)(w':jD):Prop:=(∃nd pl nv kv sv,r=jN (.tuple #[jL #[nd,sv],pl])/\BO w' (R<|Q w) nd (AV 0 S) nv kv/\jP w' (R<|Q w) 97 4 sv (Y S) (Bg<|CC 0 S)/\jP w' (R<|Q w) 3 1 pl (Y<|IC S) (Ap<|IC S)/\(∀q,jO pl=Z q->∀j,(hj:j<Y kv)->jO kv[j]≠Z q))/\Ak w w'
theorem Yo(o:N5):(AO o).oneCell'=jG:=by cases o with|none=>rfl|some e=>obtain⟨t,u,h⟩:=Ex.form e;rw[AO,h];rfl
theorem Aao(S:M9)(g m c:Nat)(aZ:Array jF)(w:jD)(hm:Y S=m)(R:Ah w g aZ 88)(a0:∀(b:Nat)(u:jF),(Io S)[b]?=Z u->aZ[b]?=Z u)(hS:∀x∈S,Xy w x.cond/\Xy w x.aD)(a3:CB S<=65535)(b7:m<=65535):Calls jZ 100 #[X (Z<|jB g 0 V) m c] w (Ann S w):=by
 have ar:=Ab hm;have bw:=Ab a0;have bx:=Ab a3;have bz:=Ab hS;obtain⟨bA,bB,bC,bD,bE⟩:=info_parts Aci;have a4:=Ar w<|jC #[X V 0 0,X V 0 0] 45;have au:=a4.alloc a4.size<|jC #[X V 0 0,X V 0 0] 235;have bI:=(Ah.new w #[X V 0 0,X V 0 0] 45).alloc<|jC #[X V 0 0,X V 0 0] 235;have av:=Ah.new (jK w<|jC #[X V 0 0,X V 0 0] 45) #[X V 0 0,X V 0 0] 235;simp only[World.size_alloc]at av;have bK:PC (jK (jK w<|jC #[X V 0 0,X V 0 0] 45)<|jC #[X V 0 0,X V 0 0] 235) (jh<|Q w) (jh (Q w)+1) [] [] (X V 0 0) (X V 0 0) [] []:=⟨av,BO.nil _ _,World.ownsRow_nil _ _ _ _,(λq hq=>by cases hq),zQ _⟩;have bM:(Tryz.f148.name== "runtime.NumGoroutine")=jI:=Ok;have bN:Tryz.f148.body.isNone=jI:=Ok;clear hm a0 a3 hS av;go_enter func100,ntmps100;go_wp2_with fail;go_loopw[5,11] (λv i wr=>∃ (k:Nat) (nd pl:jF) (r s:N4),k<=m/\i=T U k/\jP wr (jh<|Q w) 97 4 v k (Bg<|CC 0<|S.take k)/\PC wr (jh<|Q w) (jh (Q w)+1) (AV 0<|S.take k) (IC<|S.take k) nd pl r s/\Ah wr (jh<|Q w) #[X V 0 0,X V 0 0] 45/\Ak w wr) (λ_ i _=>m-(intOf i).toNat);case atStart=>exact⟨0,_,_,_,_,Oa,rfl,World.ownsRow_nil _ _ _ _,bK,bI,au⟩
 obtain⟨k,nd,pl,r,s,b8,rfl,t,a,d,ae⟩:=hrel;by_cases I:k<m
 .have b9:(k:Int)<(m:Int):=Oa;have af:k<Y S:=by rw[Aa ar];exact I
  have bO:=R.aB ae NLN;have A:∀b,b<5->∀u,(GG S[k])[b]?=Z u->jE wr ⟨g,k*5+b,V⟩=Z u:=λb bP u hu=>by rw[bO.cell];refine Aa bw _ _ ?_;rw[PZ S k af b bP];exact hu
  have c0:=A 0 Ob _ rfl;have c1:=A 1 Ob _ rfl;have c2:=A 2 Ob _ rfl;have c3:=A 3 Ob _ rfl;have c4:=A 4 Ob _ rfl;simp only[ze]at c0;have aw:S.take (k+1)=S.take k++[S[k]]:=zY af;have ax:CB (S.take k)+(AQ S[k].cond+AQ S[k].aD)<=65535:=by have h1:=Aa bx;have h2:S=S.take (k+1)++S.drop (k+1):=(Z3 _ _).symm;rw[h2,aw,Yn,Yn,Bm]at h1;omega
  have ag:=UB S[k] (S.take k) 0;have ay:=UC S[k]<|S.take k;have B:=UD S[k] (S.take k) 0;rw[<-aw]at ag ay B;rw[zT,<-Gv (S.take k) 0]at ag B;have az:Y (AV 0<|S.take k)+(AQ S[k].cond+AQ S[k].aD)<=65535:=by rw[Gv];exact ax
  have aA:Y (IC<|S.take k)+(AQ S[k].cond+AQ S[k].aD)<=65535:=by rw[Ym];exact ax
  have aG:=Ad7 (CC 0<|S.take k) ⟨S[k].aF,S[k].name,Jx S[k].cond<|Y<|AV 0<|S.take k,Jx S[k].aD<|Y (AV 0<|S.take k)+AQ S[k].cond⟩;rw[<-B]at aG;have C:=Ab<|And.intro ag<|And.intro ay aG;obtain⟨a5,a6⟩:=Aa bz S[k]<|zI af;have aH:=Ab<|And.intro a5 a6;have a7:=Ab I;clear A ag ay B aG aw ax a5 a6 I;generalize S[k]=x at c0 c1 c2 c3 c4 az aA C aH;dsimp only at C;have D:=Ab (show ∀v y E F J K,jP y (jh<|Q w) 97 4 v (k+1) (Bg (CC 0<|S.take k)++[T U x.aF,jA x.name,T U<|Jx x.cond<|Y<|AV 0<|S.take k,T U<|Jx x.aD<|Y (AV 0<|S.take k)+AQ x.cond])->PC y (jh<|Q w) (jh (Q w)+1) (AV 0 (S.take k)++PL x.cond (Y<|AV 0<|S.take k)++PL x.aD (Y (AV 0<|S.take k)+AQ x.cond)) (IC (S.take k)++plO x.cond++plO x.aD) E F J K->jP y (jh<|Q w) 97 4 v (k+1) (Bg<|CC 0<|S.take<|k+1)/\PC y (jh<|Q w) (jh (Q w)+1) (AV 0<|S.take<|k+1) (IC<|S.take<|k+1) E F J K from λv y E F J K h1 h2=>by obtain⟨e1,e2,e3⟩:=Aa C;rw[e1,e2,e3];exact⟨h1,h2⟩);generalize Bg (CC 0 (S.take k))=au at t D;generalize AV 0 (S.take k)=M at a D az aA C;generalize IC (S.take k)=aI at a D az aA C;clear C af;obtain⟨ah,ai⟩:∃v,v=AO x.cond:=⟨_,rfl⟩;obtain⟨G,aj⟩:∃v,v=AO x.aD:=⟨_,rfl⟩;rw[<-ai]at c3;rw[<-aj]at c4;have aJ:=ae.alloc ae.size<|jC #[T U x.bZ,T U x.aF,jA x.name,ah,G] 88;have ak:=Ar wr<|jC #[T U x.bZ,T U x.aF,jA x.name,ah,G] 88;have a8:=Ah.new wr #[T U x.bZ,T U x.aF,jA x.name,ah,G] 88;have aL:=Ab<|AmJ (jh<|Q w) (jh (Q w)+1) w NLN x.cond (Aa aH).1 M aI nd pl r s _ aJ (a.below ak) Oa Oa;have L:=Ab (λnd pl r s a9 (bQ:Ak w a9)h=>AmJ (jh<|Q w) (jh (Q w)+1) w NLN x.aD (Aa aH).2 (M++PL x.cond (Y M)) (aI++plO x.cond) nd pl r s a9 bQ h (by rw[zC,Fg];omega)<|by rw[zC,VP];omega);have ba:Y (M++PL x.cond (Y M))=Y M+AQ x.cond:=by rw[zC,Fg]
  rw[ba]at L;rw[<-ai]at aL;rw[<-aj]at L;have bb:=Yo x.cond;have bc:=Yo x.aD;rw[<-ai]at bb;rw[<-aj]at bc;have al:=World.ownsRow.alloc t<|jC #[T U x.bZ,T U x.aF,jA x.name,ah,G] 88;have o:=a.below ak;have z:=d.aB ak NLN;clear ai aj ak ba;go_wp2_with fail;rw[run_store _ _ _ _ _ bb];go_simp;rw[run_store _ _ _ _ _ bc];go_simp;go_wp2_with fail;refine(Aa aL).mono ?_;rintro b w2 ⟨rfl,bR,bS,bT,bU,bd,N⟩;have bf:=N.row o a8 Ob Ob Ob;have ao:=N.row o z Ob Ob Ob;have aM:=N.stm o al;have aN:=aJ.trans N.aP;clear N o a8 z al aJ aL c0 c1 c2 c3 c4;generalize Jx x.cond (Y M)=ap at D|-;generalize Jx x.aD (Y M+AQ x.cond)=O at D L;obtain⟨f,l,rfl,_⟩:=Af aM;have P:=bd.below (EG w2);have W:=bf.aB (EG w2) NLN;have bg:=ao.aB (EG w2) NLN;have bh:=Ac (w':=jV w2) aM (λq hq=>rfl);have aO:=aN.trans<|(EG w2).mono aN.size;have bi:=Ab<|(Aa L _ _ _ _ _ aO P).mono (R':=λe w'=>∃v,e=jN v/\(v=T U O/\∃E F J K,PC w' (jh<|Q w) (jh (Q w)+1) (M++PL x.cond (Y M)++PL x.aD (Y M+AQ x.cond)) (aI++plO x.cond++plO x.aD) E F (r++bT++J) (s++bU++K)/\Nk (jh<|Q w) (jh (Q w)+1) bR bS (jV w2) E F w')) λb w' h=>⟨_,h.1,rfl,h.2⟩;have b1:jE (jV w2) ⟨jh<|Q wr,1,V⟩=Z (T U x.aF):=W.cell 1;have b2:jE (jV w2) ⟨jh<|Q wr,2,V⟩=Z (jA x.name):=W.cell 2;have b4:jE (jV w2) ⟨jh<|Q wr,4,V⟩=Z G:=W.cell 4;clear bd bf ao aM aN L;dsimp only;go_wp2_with fail;apply Ak6
  .intro bV;go_region_law (first|(refine Cc rfl 148 _ func148 bM bN _ _ _ rfl (jQ<|Z ⟨jh (Q w)+1,0,V⟩) G rfl rfl _ (Aa bi) ?_;rintro ca aa ⟨rfl,NM,aQ,bj,bk,bl,K5⟩;have aR:=K5.row P W Ob Ob Ob;have aq:=K5.row P bg Ob Ob Ob;have ab:=K5.stm P bh;have ac:=aO.trans K5.aP;have a1:jE aa ⟨jh<|Q wr,1,V⟩=Z (T U x.aF):=aR.cell 1;have a2:jE aa ⟨jh<|Q wr,2,V⟩=Z (jA x.name):=aR.cell 2;have bm:=World.news_of_block<|heap_alloc_new aa<|EO x.aF x.name ap O;have bn:=World.ownsRow.alloc ab<|EO x.aF x.name ap O)|(refine step_append_lies _ rfl _ _ 24 rfl (jh<|Q w) 97 bA (jL #[T U 0,jA jX,T U 0,T U 0]) 4 40 underlying24 bB bC bD bE rfl Ob (X f k l) k au rfl bn ⟨jh<|Q aa,0,V⟩ 1 1 [T U x.aF,jA x.name,T U ap,T U O] rfl rfl bm (by intro u hu;simp at hu;obtain rfl|rfl|rfl|rfl:=hu<;>rfl) Ob O3 Oa (by have:=ac.size;simp;omega) _ rfl ?_;intro g7 c7 aS bo aT hat I));all_goals have aU:=Au aT;have bp:=bl.cW ab aU;have bq:Ah aS (jh<|Q w) #[X V 0 0,X V 0 0] 45:=⟨(aU _ aq.lt<|Ad aq ab Ob).trans aq.out⟩;have br:=(ac.alloc ac.size<|EO x.aF x.name ap O).grown aT (by have:=ac.size;simp;omega) λq hq=>(ab.lt q hq).1;have H:=Ab<|And.intro (Aa D _ _ _ _ _ _ bo bp)<|And.intro bq br;clear aU bp bq br bo aT hat I bm bn ab a1 a2 ac aR aq bl K5;generalize jh (Q aa)=h5;revert H;revert bk;revert bj;revert aQ;revert NM;revert aS;revert c7;revert g7;revert h5;exact bV.out
  intro h5 g7 c7 aS NM aQ bj bk H;clear b1 b2 b4 P W bg bh aO bi;go_wp2;go_roundw;case rel=>exact⟨k+1,NM,aQ,_,_,Aa a7,O0,(Aa H).1.1,(Aa H).1.2,(Aa H).2.1,(Aa H).2.2⟩
  have:=Aa a7;simp[intOf];omega
 have e:k=m:=Oa;subst e;have B:S.take k=S:=by rw[<-Aa ar,zq]
 rw[B]at t a;obtain⟨f,l,rfl,_⟩:=Af t;obtain⟨n,cn,rfl,_⟩:=Af a.aK.bG;obtain⟨aV,aW,rfl,_⟩:=Af a.bF;have o:=a.below<|EG wr;have z:=d.aB (EG wr) NLN;have al:=Ac (w':=jV wr) t λq hq=>rfl;have bW:jE (jV wr) ⟨jh (Q w)+1,0,V⟩=Z (X n (Y<|AV 0 S) cn):=o.row.cell 0;have s1:jE (jV wr) ⟨jh (Q w)+1,1,V⟩=Z (X aV (Y<|IC S) aW):=o.row.cell 1;have bX:jE (jV wr) ⟨jh<|Q w,0,V⟩=Z (X V 0 0):=z.cell 0;have bY:=z.frozen 0;have ao:=z.set 0<|X n (Y<|AV 0 S) cn;have b0:jE wr ⟨jh (Q w)+1,1,V⟩=Z (X aV (Y<|IC S) aW):=a.row.cell 1;have b3:jE wr ⟨jh<|Q w,1,V⟩=Z (X V 0 0):=d.cell 1;have b5:=d.frozen 1;go_wp2_with fail;go_region_law fail;all_goals
  have hz:∀q,q≠jh (Q w)->(Q<|jM (jM wr ⟨jh<|Q w,0,V⟩<|X n (Y<|AV 0 S) cn) ⟨jh<|Q w,1,V⟩<|X f k l)[q]?=(Q wr)[q]?:=λq hq=>(heap_setCell_other _ ⟨jh<|Q w,1,V⟩ q _ hq).trans<|heap_setCell_other wr ⟨jh<|Q w,0,V⟩ q _ hq;have aX:=(d.set 0<|X n (Y<|AV 0 S) cn).set 1<|X f k l;have bs:jE (jM (jM wr ⟨jh<|Q w,0,V⟩<|X n (Y<|AV 0 S) cn) ⟨jh<|Q w,1,V⟩<|X f k l) ⟨jh<|Q w,0,V⟩=Z (X n (Y<|AV 0 S) cn):=aX.cell 0;have z1:jE (jM (jM wr ⟨jh<|Q w,0,V⟩<|X n (Y<|AV 0 S) cn) ⟨jh<|Q w,1,V⟩<|X f k l) ⟨jh<|Q w,1,V⟩=Z (X f k l):=aX.cell 1;have aY:=(ae.setCell (p:=⟨jh<|Q w,0,V⟩) NLN<|X n (Y<|AV 0 S) cn).setCell (p:=⟨jh<|Q w,1,V⟩) NLN<|X f k l;have bt:=a.aK.cJ (λq hq=>hz q λe=>Ad d a.aK.bG Ob Q2) (λj ad q hq=>hz q λe=>Ad d (a.aK.aE j (by rw[<-a.aK.len];exact ad) ad) Ob Q2) λj ad q hq=>hz q λe=>Ad d (a.aK.aC j (by rw[<-a.aK.bL];exact ad) ad) Ob Q2;have bu:=Ac t λq hq=>hz q λe=>Ad d t Ob Q2;have bv:=Ac a.bF λq hq=>hz q λe=>Ad d a.bF Ob Q2;have b6:=a.bH;clear hz aX bW s1 b0 bX b3 bY b5 ao z o al;generalize jM (jM wr ⟨jh (Q w),0,V⟩ (X n (Y (AV 0 S)) cn)) ⟨jh (Q w),1,V⟩ (X f k l)=y at bs z1 aY bt bu bv|-;go_wp2_with fail;refine bodyPost_ret (v:=.tuple #[jL #[X n (Y<|AV 0 S) cn,X f k l],X aV (Y<|IC S) aW]) (by simp[results,results100,go_sem,bs,z1]) rfl ⟨⟨_,_,r,s,_,rfl,?_,?_,?_,b6⟩,?_⟩
  .exact bt.bJ (λq _ _=>rfl)
  .rw[Aa ar];exact Ac bu λq hq=>rfl
  .exact Ac bv (λq hq=>rfl)
  exact aY.trans ((EG y).mono aY.size)
theorem AF{e:jR}(h:jP w B e size v n b)(hB:a<=B):jP w a e size v n b:=by
 refine⟨h.1,?_⟩;obtain q|⟨g,cap,c,h1,h2,h3⟩:=h.2
 .exact .inl q
 exact .inr ⟨g,cap,c,h1,zB hB h2,h3⟩
theorem BO.aP{lo d:Nat}{f g:N4}(h:BO w lo v N f g)(a:d<=lo):BO w d v N f g:=⟨h.len,h.bL,AF h.bG a,λj b c=>AF (h.aE j b c) a,λj b c=>AF (h.aC j b c) a,h.bH,h.dL⟩
set_option maxHeartbeats 1600000
theorem IV{w':jD}(a:Below B w w')(hB:R (Q w)<=B)(o:N5)(h:Xy w o):Xy w' o:=by cases o with|none=>trivial|some e=>exact Ex.bO a hB e h
def TdA(S:M9)(a:M3)(k f:Nat)(w:jD)(r:Ending)(w':jD):Prop:=(∃nd pl nv kv sv,r=jN (jL #[nd,sv,X a k f])/\BO w' (R<|Q w) nd (AV 0 S) nv kv/\jP w' (R<|Q w) 97 4 sv (Y S) (Bg<|CC 0 S)/\jP w' (R<|Q w) 3 1 pl (Y<|IC S) (Ap<|IC S))/\Ak w w'
theorem Xz(S:M9)(g m c:Nat)(o:Array jF)(a:M3)(k f:Nat)(w:jD)(hm:Y S=m)(R:Ah w g o 88)(y:∀(r:Nat)(u:jF),(Io S)[r]?=Z u->o[r]?=Z u)(hS:∀x∈S,Xy w x.cond/\Xy w x.aD)(z:CB S<=65535)(A:m<=65535):Calls jZ 45 #[X (Z<|jB g 0 V) m c,X a k f] w (TdA S a k f w):=by
 have i:=Ar w<|Lu V 0 0 V 0 0 V 0 0;have F:=Ah.new w #[X V 0 0,X V 0 0,X V 0 0] 27;have B:=Ab<|Aao S g m c o (jK w<|Lu V 0 0 V 0 0 V 0 0) hm (R.aB i NLN) y (λx hx=>⟨IV i NLN _ (hS x hx).1,IV i NLN _ (hS x hx).2⟩) z A;clear hS y R z A hm;go_enter func45,ntmps45;go_wp2_with fail;refine(Aa B).mono ?_;rintro r s ⟨⟨nd,pl,W,aa,ab,rfl,l,h,j,G⟩,t⟩;have C:=i.trans<|t.mono i.size;have H:=F.aB t NLN;obtain⟨b,cn,rfl,_⟩:=Af l.bG;obtain⟨d,cs,rfl,_⟩:=Af h;clear B t G;have D:jh (Q<|jK w<|Lu V 0 0 V 0 0 V 0 0)=jh (Q w)+1:=Oz;rw[D]at l h j;have E:=H.alloc<|jC #[X b (Y<|AV 0 S) cn,X d (Y S) cs] 45;have I:=C.alloc C.size<|jC #[X b (Y<|AV 0 S) cn,X d (Y S) cs] 45;have n:∀q,jh (Q w)+1<=q->q<jh (Q s)->(Q<|jM (jM (jM (jK s<|jC #[X b (Y<|AV 0 S) cn,X d (Y S) cs] 45) ⟨jh<|Q w,0,V⟩<|X b (Y<|AV 0 S) cn) ⟨jh<|Q w,1,V⟩<|X d (Y S) cs) ⟨jh<|Q w,2,V⟩<|X a k f)[q]?=(Q s)[q]?:=λq h1 h2=>by rw[L2 _ _ q _ (Oa:q≠jh (Q w)),L2 _ _ q _ (Oa:q≠jh (Q w)),L2 _ _ q _ (Oa:q≠jh (Q w)),Below.heap_alloc _ _ q h2]
 have J:=Ab<|(l.bJ n).aP<|zQ<|jh<|Q w;have K:=Ab<|AF (Ac h λq hq=>n q (h.lt q hq).1 (h.lt q hq).2)<|zQ<|jh<|Q w;have L:=Ab<|AF (Ac j λq hq=>n q (j.lt q hq).1 (j.lt q hq).2)<|zQ<|jh<|Q w;clear n l h j D;have M:=((E.set 0<|X b (Y<|AV 0 S) cn).set 1<|X d (Y S) cs).set 2<|X a k f;have N:=((I.setCell (p:=⟨jh<|Q w,0,V⟩) NLN<|X b (Y<|AV 0 S) cn).setCell (p:=⟨jh<|Q w,1,V⟩) NLN<|X d (Y S) cs).setCell (p:=⟨jh<|Q w,2,V⟩) NLN<|X a k f;generalize Y (AV 0 S)=O at*;obtain⟨c0,c1,c2,_⟩:=BC E;dsimp only;go_wp2_with fail;obtain⟨P,e1,e2,_⟩:=BC M;exact K8 (v:=jL #[X b O cn,X d (Y S) cs,X a k f]) (by simp[results,results45,go_sem,P,e1,e2]) rfl ⟨⟨_,_,_,_,_,rfl,Aa J,Aa K,Aa L⟩,N⟩
theorem Cg{P:Program}{b:Array Oper}{a:Act}{d:Exit->Act->jD->Prop}(f:o.guard=V)(s x:Operand)(t:jR)(j:o.op=.call {callee:=.builtin .append,args:=#[s,x],argTypes:=#[t,t]})(base:Nat)(e:jR)(i:TypeInfo)(size c:Nat)(ht:P.underlying t=Z (.slice e))(hi:P.info? e=Z i)(v:jF)(n:Nat)(k:N4)(hs:a.eval s=v)(l:jP w base e size v n k)(hx:a.eval x=X V 0 c)(h:wpList P b d rest (a.put o.dst v) w):wpList P b d (o::rest) a w:=by
 refine wpList_plain f λK m=>?_;have p:(Builtin.append_ #[t,t] o.type #[v,X V 0 c]).run P w=.ok v w:=by
  obtain⟨rfl,rfl⟩|⟨g,cap,r,rfl,_,_,q,_⟩:=l.2
  .simp[Builtin.append_,run_underlying ht,sizeOf,typeInfo,hi,Builtin.lenOf,Builtin.firstCells]
  simp[Builtin.append_,run_underlying ht,sizeOf,typeInfo,hi,Builtin.lenOf,Builtin.firstCells,q,storeCells]
 unfold Oper.wp;simp[execOp,j,resolve,invoke,builtin,hs,hx,p,Result.andThen];exact m _ _ h
theorem KZ{b:Act}(l:o.guard=V)(s x:Operand)(m:o.op=.call {callee:=.builtin .append,args:=#[s,x],argTypes:=#[31,31]})(base:Nat)(v:jF)(k:Nat)(d:N4)(hs:b.eval s=v)(f:jP w base 9 1 v k d)(a:M3)(n c:Nat)(ss:M6)(hx:b.eval x=X a n c)(h:Am w a n c ss)(D:k+n<=1048576)(p:base<=R (Q w))(r:∀v' w',jP w' base 9 1 v' (k+n) (d++ss.map Value.string)->Below base w w'->wpList jZ g j rest (b.put o.dst v') w'):wpList jZ g j (o::rest) b w:=by
 obtain⟨i,hi,t,y,z⟩:=info_parts Gd;cases a with|none=>
   have h0:n=0:=by obtain q|q:=Nat.eq_zero_or_pos n;all_goals grind[Am.cells]
   subst h0;obtain rfl:ss=[]:=z4 h.len.symm;exact Cg l s x 31 m base 9 i 1 c underlying31 hi v k d hs f hx<|r v w (by simpa using f) BRN|some A=>
   refine J7 w l s x 31 m base 9 i (jA jX) 1 16 underlying31 hi t y z rfl Ob v k d hs f A n c (ss.map Value.string) hx ?_ (Am.dK h) ?_ ?_ ?_ p ?_
   .grind[Am.len]
   .intro u hu;obtain⟨s,_,rfl⟩:=zU.1 hu;rfl
   .unfold maxLen;omega
   .omega
   intro v' w' B C _;exact r v' w' B<|BRN.grown C p λq hq=>(f.lt q hq).1
theorem Aat(b a j:Nat):((jB b a V):jH).add j=⟨b,a+j,V⟩:=by by_cases e:j=0<;>simp[Addr.add,e]
theorem DZ{b:Act}(l:o.guard=V)(s x:Operand)(m:o.op=.call {callee:=.builtin .append,args:=#[s,x],argTypes:=#[25,25]})(base:Nat)(v:jF)(k:Nat)(d:N4)(hs:b.eval s=v)(f:jP w base 3 1 v k d)(a:M3)(n c:Nat)(ss:M4)(hx:b.eval x=X a n c)(h:BN w a n c ss)(C:k+n<=1048576)(r:base<=R (Q w))(t:∀v' w',jP w' base 3 1 v' (k+n) (d++Ap ss)->Below base w w'->wpList jZ g j rest (b.put o.dst v') w'):wpList jZ g j (o::rest) b w:=by
 obtain⟨i,hi,y,z,A⟩:=info_parts GS;have p:=h.len;cases a with|none=>
   have h0:n=0:=by obtain q|q:=Nat.eq_zero_or_pos n;all_goals grind[BN.cells]
   subst h0;obtain rfl:ss=[]:=z4 p;exact Cg l s x 25 m base 3 i 1 c underlying25 hi v k d hs f hx<|t v w (by simpa[Ap]using f) BRN|some B=>
   refine J7 w l s x 25 m base 3 i (T U 0) 1 8 underlying25 hi y z A rfl Ob v k d hs f B n c (Ap ss) hx ?_ ?_ ?_ ?_ ?_ r ?_
   .simp[Ap,p]
   .grind[BN.cells,Ap,Aat]
   .intro u hu;obtain⟨s,_,rfl⟩:=zU.1 hu;rfl
   .unfold maxLen;omega
   all_goals grind[BN.len,BN.cells,Ap,Cg,GS,Aat,Go.RowKit.Below.refl,Go.World.ownsRow.lt,Go.RowKit.Below.grown]
theorem Lx{b:Act}{l:Exit->Act->jD->Prop}(m:o.guard=V)(s x:Operand)(p:o.op=.call {callee:=.builtin .append,args:=#[s,x],argTypes:=#[24,24]})(base:Nat)(v:jF)(k:Nat)(d:N4)(hs:b.eval s=v)(f:jP w base 97 4 v k d)(a:M3)(n c:Nat)(L:Nz)(hx:b.eval x=X a n c)(h:Lr w a n c L)(F:k+n<=65536)(r:base<=R (Q w))(t:∀v' w',jP w' base 97 4 v' (k+n) (d++Bg L)->Below base w w'->wpList jZ g l rest (b.put o.dst v') w'):wpList jZ g l (o::rest) b w:=by
 obtain⟨i,hi,z,A,B⟩:=info_parts Aci;have y:=h.len;cases a with|none=>
   have h0:n=0:=by obtain q|q:=Nat.eq_zero_or_pos n;all_goals grind[Lr.cells]
   subst h0;obtain rfl:L=[]:=z4 y;exact Cg m s x 24 p base 97 i 4 c underlying24 hi v k d hs f hx<|t v w (by simpa[Bg]using f) BRN|some C=>
   refine J7 w m s x 24 p base 97 i (jL #[T U 0,jA jX,T U 0,T U 0]) 4 40 underlying24 hi z A B rfl Ob v k d hs f C n c (Bg L) hx ?_ ?_ ?_ ?_ ?_ r ?_
   .rw[XM,y]
   .intro j u hu;have G:j<Y L*4:=by grind[XM]
    have hq:j/4<Y L:=Oa;have e:j=(j/4)*4+j%4:=Oa;grind[MI,Lr.cells,Aat]
   .intro u hu;obtain⟨s,_,hu⟩:=List.mem_flatMap.1 hu;simp at hu;obtain rfl|rfl|rfl|rfl:=hu<;>rfl
   .unfold maxLen;omega
   .omega
   intro v' w' D E _;exact t v' w' D<|BRN.grown E r λq hq=>(f.lt q hq).1
theorem JO{base:Nat}{e:jR}{size g c:Nat}{d:N4}(h:jP w base e size (X (Z<|jB g 0 V) n c) n d):∃a,Ah w g a e/\a.size=c*size:=by
 obtain⟨b,_⟩|⟨f,cap,a,b,h1,h2,h3,h4,h5,h6⟩:=h.2
 .cases b
 cases b;exact⟨a,⟨h2⟩,h5⟩
def NmS(w:jD)(a:M3)(N:M7):Prop:=∀j,j<Y N->∀b off,a=Z (jB b off V)->∀an nn cn,jE w ⟨b,off+j*5+3,V⟩=Z (X an nn cn)->ZS w an cn
theorem BO.nms{lo n c:Nat}{a:M3}{i:N4}(h:BO w lo (X a n c) N i k)(p:Y N=n):NmS w a N:=λj d b q m an nn cn hc=>by
 have o:j<Y i:=by rw[h.len];exact d
 have r:j<Y k:=by rw[h.bL];exact d
 have x3:=LH N i k j d o r 3 Ob;simp only[NM,yA,z5]at x3;have s:q=0:=by
  obtain⟨_,h0⟩|⟨g,cap,t,f,_⟩:=h.bG.2
  .omega
  simp only[Value.slice.injEq]at f;rw[m]at f;simp only[Option.some.injEq,Addr.mk.injEq]at f;exact f.1.2.1
 subst m s p;rw[zT,h.bG.cellAt (g:=b) (n:=Y N) (j*5+3) Oa,x3]at hc;have l:=h.aE j d o;obtain⟨x,u,hu⟩:=AG l;rw[hu]at hc l;simp only[Option.some.injEq,Value.slice.injEq]at hc;rw[<-hc.1,<-hc.2.2];exact ZS.bB l
set_option maxHeartbeats 6400000
set_option linter.unusedSimpArgs false
theorem Aay(x:Nd):AR x=(decide ((Y x.aC:Int)=Ci x.op)&&Px x):=rfl
theorem Pe(L:M7):L.all AR=jG↔∀j,(h:j<Y L)->AR L[j]=jG:=by
 rw[zo];constructor
 .intro h j a;exact h _<|zI a
 intro h x hx;obtain⟨j,a,rfl⟩:=zk hx;exact h j a
theorem FA(a:M3)(n c:Nat)(L:M7)(w:jD)(h:GN w a n c L)(ah:Mu w):Calls jZ 62 #[X a n c,.func (.func 23) #[] #[]] w λe w'=>e=jN (.bool<|L.all AR)/\Ak w w':=by
 have ar:=h.aH;have W:=Ab h.len;go_enter func62,ntmps62;go_wp2_with fail;go_loopw[9] (λi wr=>∃k:Nat,k<=n/\i=T U k/\Ak w wr/\∀j,(r:j<Y L)->j<k->AR L[j]=jG) (λi _=>n-(intOf i).toNat);case atStart=>exact⟨0,Oa,rfl,BRN,λj r h=>K4 h Oa⟩
 obtain⟨k,au,rfl,z,aa⟩:=hrel;have E:=Ab aa;clear aa;by_cases ab:k<n
 .have av:(k:Int)<(n:Int):=Oa;have F:k<Y L:=by rw[Aa W];exact ab
  have G:=h.bE L[k]<|zI F;obtain⟨b,aw,rfl,ax,an,nn,cn,f,d,g,c0,c1,c2,c3,c4,H,A⟩:=(h.below z NLN).cells k F;have ac:=ah.below z NLN;have s:=Ab (show AR L[k]=jI->L.all AR=jI from λe=>by rw[<-Bool.not_eq_true,Pe];intro ai;rw[ai k F]at e;cases e);have B:=Ab (show AR L[k]=jG->∀j,(r:j<Y L)->j<k+1->AR L[j]=jG from λe j r ay=>by
   by_cases aj:j=k
   .subst aj;exact e
   exact Aa E j r Oa);have ad:=Ab ab;clear E;generalize L[k]=x at c0 c1 c2 c3 c4 H A G s B;have I:=Ab<|Aay x;have ae:=Ab A.len;have p:=Ah.new wr #[T U x.op,T U x.num,jA x.text,X an nn cn,X f d g] 112;have t:=z.alloc z.size<|CW x.op x.num x.text an nn cn f d g;have af:=Ar wr<|CW x.op x.num x.text an nn cn f d g;have ag:=H.below af NLN;have u:=ac.below af NLN;clear H ac A;by_cases q:(d:Int)=Ci x.op
  .have ak:((d:Int)!=Ci x.op)=jI:=by rw[q];simp
   cases y:Px x
   .have J:=Ab (Aa s<|by rw[Aa I,y,Bool.and_false]);have M:=Ab y;clear y q s B;go_wp2_with fail;have m:Below (R<|Q<|jK wr<|CW x.op x.num x.text an nn cn f d g) (jK wr<|CW x.op x.num x.text an nn cn f d g)<|jV<|jK wr<|CW x.op x.num x.text an nn cn f d g:=BRN.drew;have N:=JZ p m;go_region_held3 (λw'=>jE w' ⟨R<|Q wr,0,V⟩=Z (T U x.op)/\jE w' ⟨R<|Q wr,1,V⟩=Z (T U x.num)/\jE w' ⟨R<|Q wr,2,V⟩=Z (jA x.text)/\jE w' ⟨R<|Q wr,3,V⟩=Z (X an nn cn)/\jE w' ⟨R<|Q wr,4,V⟩=Z (X f d g)) (first|assumption|go_keep)(first|(go_at_call 111;refine(IY _ _ (u.below m NLN).lt (u.below m NLN).cells).mono ?_;rintro e w2 ⟨rfl,C⟩;have o:=m.trans<|C.mono NLN;have O:=JZ p o)|(go_at_call 23;refine(Jq x an nn cn f d g _ (ag.below o NLN) G).mono ?_;rintro e al ⟨rfl,P⟩;rw[Aa M];have D:=o.trans<|P.mono o.size;have ao:=JZ p D));go_wp2;go_ret;exact⟨Ae (Aa J).symm,t.trans<|D.mono t.size⟩
   have ap:=Ab (Aa B<|by rw[Aa I,y,Aa ae,zc q];rfl);have M:=Ab y;clear y q s B;go_wp2_with fail;have m:Below (R<|Q<|jK wr<|CW x.op x.num x.text an nn cn f d g) (jK wr<|CW x.op x.num x.text an nn cn f d g)<|jV<|jK wr<|CW x.op x.num x.text an nn cn f d g:=BRN.drew;have N:=JZ p m;go_region_held3 (λw'=>jE w' ⟨R<|Q wr,0,V⟩=Z (T U x.op)/\jE w' ⟨R<|Q wr,1,V⟩=Z (T U x.num)/\jE w' ⟨R<|Q wr,2,V⟩=Z (jA x.text)/\jE w' ⟨R<|Q wr,3,V⟩=Z (X an nn cn)/\jE w' ⟨R<|Q wr,4,V⟩=Z (X f d g)) (first|assumption|go_keep)(first|(go_at_call 111;refine(IY _ _ (u.below m NLN).lt (u.below m NLN).cells).mono ?_;rintro e w2 ⟨rfl,C⟩;have o:=m.trans<|C.mono NLN;have O:=JZ p o)|(go_at_call 23;refine(Jq x an nn cn f d g _ (ag.below o NLN) G).mono ?_;rintro e al ⟨rfl,P⟩;rw[Aa M];have D:=o.trans<|P.mono o.size;have ao:=JZ p D));go_wp2;go_roundw;case rel=>exact⟨k+1,Aa ad,O0,t.trans<|D.mono t.size,Aa ap⟩
   have:=Aa ad;simp[intOf];omega
  have ak:((d:Int)!=Ci x.op)=jG:=zW.2 q;have J:=Ab (Aa s<|by rw[Aa I,Aa ae,za q];rfl);clear q s B;go_wp2_with fail;have m:Below (R<|Q<|jK wr<|CW x.op x.num x.text an nn cn f d g) (jK wr<|CW x.op x.num x.text an nn cn f d g)<|jV<|jK wr<|CW x.op x.num x.text an nn cn f d g:=BRN.drew;have N:=JZ p m;refine wp_region_held_drew (S:=(λw'=>jE w' ⟨R<|Q wr,0,V⟩=Z (T U x.op)/\jE w' ⟨R<|Q wr,1,V⟩=Z (T U x.num)/\jE w' ⟨R<|Q wr,2,V⟩=Z (jA x.text)/\jE w' ⟨R<|Q wr,3,V⟩=Z (X an nn cn)/\jE w' ⟨R<|Q wr,4,V⟩=Z (X f d g))) rfl N (λaz=>?_);refine wpAnyH_take (i:=0) (v:=jQ (Z ⟨R<|Q wr,4,V⟩)) rfl Ok Ok Ok (λ_ _ _ h=>h) (Or.inl ⟨rfl,λw' l=>S8⟩) P0 ?_;simp only[Act.put,z7,z8,zz];refine wpAnyH_take (i:=1) (v:=X f d g) rfl Ok Ok Ok (λ_ _ _ h=>h) (Or.inl ⟨rfl,λw' l=>S8⟩) P0 ?_;simp only[Act.put,z7,z8,zz];refine wpAnyH_take (i:=2) (v:=T U d) rfl Ok Ok Ok (λ_ _ _ h=>h) (Or.inl ⟨rfl,λw' l=>S8⟩) P0 ?_;simp only[Act.put,z7,z8,zz];refine wpAnyH_take (i:=3) (v:=jQ (Z ⟨R<|Q wr,0,V⟩)) rfl Ok Ok Ok (λ_ _ _ h=>h) (Or.inl ⟨rfl,λw' l=>S8⟩) P0 ?_;simp only[Act.put,z7,z8,zz];refine wpAnyH_take (i:=4) (v:=T U x.op) rfl Ok Ok Ok (λ_ _ _ h=>h) (Or.inl ⟨rfl,λw' l=>S8⟩) P0 ?_;simp only[Act.put,z7,z8,zz];refine wpAnyH_ready (rs:=[5]) Ok Oz ?_;refine AllReadyH.cons rfl (λK A=>?_) AllReadyH.nil;go_simp;go_at_call 111;refine(IY _ _ (u.below m NLN).lt (u.below m NLN).cells).mono ?_;rintro e w2 ⟨rfl,C⟩;have o:=m.trans<|C.mono NLN;have O:=JZ p o;refine A.out _ _ O λaA=>?_;refine wpAnyH_take (i:=6) (v:=.bool jG) rfl Ok Ok Ok (λ_ _ _ h=>h) (Or.inl ⟨rfl,λw' l=>S8⟩) P0 ?_;simp only[Act.put,z7,z8,zz];refine wpAnyH_take (i:=7) (v:=.bool jG) rfl Ok Ok Ok (λ_ _ _ h=>h) (Or.inl ⟨rfl,λw' l=>S8⟩) P0 ?_;simp only[Act.put,z7,z8,zz];refine wpAnyH_take (i:=8) (v:=undef) rfl Ok Ok Ok (λ_ _ _ h=>h) (Or.inr ⟨rfl,rfl⟩) P0 ?_;simp only[Act.put,z7,z8,zz];refine wpAnyH_take (i:=9) (v:=undef) rfl Ok Ok Ok (λ_ _ _ h=>h) (Or.inr ⟨rfl,rfl⟩) P0 ?_;simp only[Act.put,z7,z8,zz];refine wpAnyH_take (i:=10) (v:=undef) rfl Ok Ok Ok (λ_ _ _ h=>h) (Or.inr ⟨rfl,rfl⟩) P0 ?_;simp only[Act.put,z7,z8,zz];refine wpAnyH_take (i:=11) (v:=undef) rfl Ok Ok Ok (λ_ _ _ h=>h) (Or.inr ⟨rfl,rfl⟩) P0 ?_;simp only[Act.put,z7,z8,zz];refine wpAnyH_take (i:=12) (v:=.bool jG) rfl Ok Ok Ok (λ_ _ _ h=>h) (Or.inl ⟨rfl,λw' l=>S8⟩) P0 ?_;simp only[Act.put,z7,z8,zz];refine wpAnyH_done Ok ?_ _;go_wp2;go_ret;exact⟨Ae (Aa J).symm,t.trans<|o.mono t.size⟩
 have e:k=n:=Oa;subst e;have aq:=Ab<|show L.all AR=jG from(Pe L).2 (λj r=>Aa E j r<|G7<|Aa W);go_wp2;go_ret;exact⟨Ae (Aa aq).symm,z⟩
set_option maxHeartbeats 3200000
def Bt(N:M7)(L:Nz):Bool:=decide (Y N<=4000)&&(decide (1<=Y L/\Y L<=600)&&Br L)&&N.all AR&&Dy N L
theorem Py(a b:M3)(n c m d:Nat)(N:M7)(L:Nz)(w:jD)(h1:GN w a n c N)(h2:Lr w b m d L)(af:Mu w):Calls jZ 22 #[jL #[X a n c,X b m d],.func (.func 23) #[] #[]] w λe w'=>e=jN (.bool<|Bt N L)/\Ak w w':=by
 have s1:=h1.aH;have s2:=h2.aH;have ag:=Ab h1.len;have ah:=Ab h2.len;have x:=Ab (show Bt N L=(decide (n<=4000)&&(decide (1<=m/\m<=600)&&Br L)&&N.all AR&&Dy N L)by rw[Bt,h1.len,h2.len]);have j:=Ah.new w #[X a n c,X b m d] 45;have g:=Ar w<|jC #[X a n c,X b m d] 45;have l:=h1.below g NLN;have o:=h2.below g NLN;have y:=af.below g NLN;go_enter func22,ntmps22;by_cases G:4000<n
 .have ai:(4000:Int)<(n:Int):=Oa;have h:=Ab (show Bt N L=jI by rw[Aa x,za Oa];rfl);clear G;go_wp2;go_ret;exact⟨Ae (Aa h).symm,g⟩
 have ai:¬ ((4000:Int)<(n:Int)):=Oa;have s:=Ab (show Bt N L=((decide (1<=m/\m<=600)&&Br L)&&N.all AR&&Dy N L)by rw[Aa x,zc Oa];rfl);clear G x;generalize H:(decide (1<=m/\m<=600)&&Br L)=aj at s;have p:=Ab H;clear H;cases aj
 .have h:=Ab (show Bt N L=jI by rw[Aa s];rfl);go_wp2_with (go_at_call 61;refine(EC _ _ _ _ _ o).mono ?_;rintro e w2 ⟨rfl,f⟩;rw[Aa p]);go_ret;exact⟨Ae (Aa h).symm,g.trans<|f.mono g.size⟩
 have t:=Ab (show Bt N L=(N.all AR&&Dy N L)by rw[Aa s,zx]);clear s;generalize I:N.all AR=ak at t;have z:=Ab I;clear I;cases ak
 .have h:=Ab (show Bt N L=jI by rw[Aa t];rfl);go_wp2_with (first|(go_at_call 61;refine(EC _ _ _ _ _ o).mono ?_;rintro e w2 ⟨rfl,f⟩;rw[Aa p];obtain⟨J,M⟩:=Ca<|j.aB f NLN)|(go_at_call 62;refine(FA _ _ _ _ _ (l.below f NLN)<|y.below f NLN).mono ?_;rintro e O ⟨rfl,q⟩;rw[Aa z]));go_ret;exact⟨Ae (Aa h).symm,g.trans<|(f.trans<|q.mono f.size).mono g.size⟩
 have P:=Ab (show Bt N L=Dy N L by rw[Aa t,zx]);clear t;have A:=Ab (show Dy N L=match CD (N.map Nd.aC) n [] 0 with|none=>jI|some S=>decide (Al S=L.flatMap Aj)by rw[Dy,Aa ag];try rfl);have W:=Ab λS=>(XU (K:=N.map Nd.aC) (k:=n) (S:=S));generalize aa:CD (N.map Nd.aC) n [] 0=al at A W;have ab:=Ab aa;clear aa;cases al with|none=>have h:=Ab (show Bt N L=jI by rw[Aa P,Aa A]);go_wp2_with (first|(go_at_call 61;refine(EC _ _ _ _ _ o).mono ?_;rintro e w2 ⟨rfl,f⟩;rw[Aa p];obtain⟨J,M⟩:=Ca<|j.aB f NLN)|(go_at_call 62;refine(FA _ _ _ _ _ (l.below f NLN)<|y.below f NLN).mono ?_;rintro e O ⟨rfl,q⟩;rw[Aa z];have i:=f.trans<|q.mono f.size;obtain⟨ao,ap⟩:=Ca<|j.aB i NLN)|(go_at_call 63;refine(QT _ _ _ _ _<|l.below i NLN).mono ?_;rw[Aa ab];rintro e aq ⟨he,B⟩;change e=_ at he;subst he));go_ret;exact⟨Ae (Aa h).symm,g.trans<|(i.trans<|B.mono i.size).mono g.size⟩|some S=>
  obtain⟨r,C⟩:∃r,Hid (L.flatMap Aj=r):=⟨_,Ab rfl⟩;obtain⟨D,ac⟩:∃D,Hid (Al S=D):=⟨_,Ab rfl⟩;have h:=Ab (show Bt N L=decide (D=r)by rw[Aa P,Aa A,Aa C];show decide (Al S=r)=_;rw[Aa ac]);have ax:Y S<=n:=by
   obtain k|⟨_,k⟩:=Aa W S rfl
   .exact k.1
   subst k;simp
  have ay:m<=600:=(M0 (zF _ _ ▸ Aa p).1).2;have az:Y r<=2*m:=by have:=Oh L;rw[Aa ah,Aa C]at this;exact this
  go_wp2_with (first|(go_at_call 61;refine(EC _ _ _ _ _ o).mono ?_;rintro e w2 ⟨rfl,f⟩;rw[Aa p];obtain⟨J,M⟩:=Ca<|j.aB f NLN)|(go_at_call 62;refine(FA _ _ _ _ _ (l.below f NLN)<|y.below f NLN).mono ?_;rintro e O ⟨rfl,q⟩;rw[Aa z];have i:=f.trans<|q.mono f.size;obtain⟨ao,ap⟩:=Ca<|j.aB i NLN)|(go_at_call 63;refine(QT _ _ _ _ _<|l.below i NLN).mono ?_;rw[Aa ab];rintro e aq ⟨⟨v,he,E⟩,B⟩;subst he;rw[Aa ac]at E;obtain⟨aA,aD,rfl,_⟩:=Af E;have u:=i.trans<|B.mono i.size;obtain⟨aE,aF⟩:=Ca<|j.aB u NLN;have ar:=Dd E Oa)|(go_at_call 64;refine(Tm _ _ _ _ _<|o.below u NLN).mono ?_;rintro e aG ⟨v,rfl,F,ad⟩;rw[Aa C]at F;obtain⟨aI,aJ,rfl,_⟩:=Af F;have au:=Dd F Oa;have av:=ar.below ad NLN;have ae:=u.trans<|ad.mono u.size)|(go_at_call 26;refine(QN _ _ _ _ _ _ _ _ _ av au).mono ?_;rintro e aK ⟨rfl,aw⟩));go_ret;exact⟨Ae (Aa h).symm,g.trans<|(ae.trans<|aw.mono ae.size).mono g.size⟩
theorem Bv{b:Nat}{a c d:jF}(R:Ah w b #[a,c,d] t):jE w (jB b 0 V)=Z a/\jE w (jB b 1 V)=Z c/\jE w (jB b 2 V)=Z d:=⟨R.cell 0,R.cell 1,R.cell 2⟩
theorem Be.st_one{i:Nat}{e:Ex}(t:Be N i e):∀{f:Ex},Be N i f->e.st=f.st:=by induction t with
 |int h d g=>grind[Be.cI]|text h d g=>grind[Be.cI]|bool h d g=>grind[Be.cI]|name h d g=>grind[Be.cI]|attr h d g=>grind[Be.cI]|lett h d g=>grind[Be.cI]|set h d g a n c=>intro f u;obtain⟨o,b⟩|⟨o,b⟩|⟨o,b⟩|⟨o,b⟩|⟨o,b⟩|⟨o,b⟩|⟨o,b⟩|⟨o,b⟩|⟨o,b⟩|⟨o,b⟩:=u.cI h<;>first|omega|(obtain⟨_,_,_,b⟩:=b;subst b;rfl)
 |un h d g hi t x=>grind[Ex.st,Be.cI]|bin h d g hi t u j k=>
   intro f v;obtain⟨o,b⟩|⟨o,b⟩|⟨o,b⟩|⟨o,b⟩|⟨o,b⟩|⟨o,b⟩|⟨o,b⟩|⟨o,b⟩|⟨o,l,m,p,q,r,s,w,b⟩|⟨o,b⟩:=v.cI h<;>first|omega|skip
   grind[Ex.st]|ite h d g hi t u v j k y=>
   intro f z;obtain⟨o,b⟩|⟨o,b⟩|⟨o,b⟩|⟨o,b⟩|⟨o,b⟩|⟨o,b⟩|⟨o,b⟩|⟨o,b⟩|⟨o,b⟩|⟨o,l,m,A,p,q,B,r,s,w,v',b⟩:=z.cI h<;>first|omega|skip
   grind[Ex.st]
end Go.Proofs.YtlcfoihgfcmfeaaGreatDoor

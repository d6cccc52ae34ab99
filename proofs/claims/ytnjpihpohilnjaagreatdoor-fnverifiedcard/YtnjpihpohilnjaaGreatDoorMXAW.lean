import Derived.Test.YtnjpihpohilnjaaGreatDoorMXAE
import Derived.Test.YtnjpihpohilnjaaGreatDoorMXAL
import Derived.Test.YtnjpihpohilnjaaGreatDoorMXAD
open List renaming length->T
open Option renaming none->U,some->Q,some->jg
open Array renaming size->R
open Go renaming World->jB,Value->jF,Addr->jG
open Bool renaming true->jD,false->jE
namespace Go.Proofs.YtnjpihpohilnjaaGreatDoor
open Proofs.Tryz
open Value renaming int->V,slice->Y,string->jC,ownBlock->jL,agg->jM,pointer->jP,tuple->jQ
open IntKind renaming i64->X,u64->jS
open World renaming heap->Z,cell?->jI,setCell->jJ,alloc->jK,ownsRow->jO,drew->jR
open Addr renaming mk->jA
open Obj renaming cells->jH
open Ending renaming returned->jN
open Proofs.Tryz renaming prog->jZ
open Go.RowKit
set_option linter.unusedVariables false
set_option maxRecDepth 100000
set_option maxHeartbeats 6400000
variable{f:Array jF}{L:M9}{t:TypeId}{v:jF}{w0:jB}
section
variable{w w':jB}{B Rr gb:Nat}{a:L3}{n c:Nat}{zs:L2}{k:Nat}{s:Gs}{pv iv sv lv:jF}{nv:L7}
theorem G5.setV (h:G5 w B Rr gb a n c zs k s pv iv sv lv nv){b:Nat}(hv:Ag w b f 77)(r:Rr<b)(t:gb<=b)(g:jL pv≠Q b)(j:Nat)(u:jF):G5 (jJ w (jA b j U) u) B Rr gb a n c zs k s pv iv sv lv nv/\DC Rr gb w (jJ w (jA b j U) u):=by
 have K:AN (λq=>q=b) w<|jJ w (jA b j U) u:=(AN.refl (λq=>q=b) w).setCell (p:=(jA b j U)) (λ_=>rfl) u;have l:=h.cP K λq e=>Oa;have o:∀{e:TypeId} {size m:Nat} {v:jF} {d:L7},jL v≠Q b->jO w B e size v m d->jO (jJ w (jA b j U) u) B e size v m d:=λhd o=>Ah o (jA b j U) u λq hq e=>hd (by have e:q=b:=e;rw[<-e];exact hq);exact⟨⟨h.rd.aA l Oa,⟨(K.block gb h.row.lt λe=>Bm hv h.row Ob e.symm).trans h.row.out⟩,⟨h.aI.len,o g h.aI.aN,λi hi hi'=>o (Ac hv (h.aI.aB i hi hi') Ob)<|h.aI.aB i hi hi',h.aI.bA,h.aI.bF⟩,o (Ac hv h.aK Ob) h.aK,o (Ac hv h.st Ob) h.st,o (Ac hv h.sl Ob) h.sl,h.ap,⟨h.low.1,h.low.2.1,by simpa using h.low.2.2⟩,h.ok⟩,.bP K λq e=>Oa⟩
theorem Ag.cD {w w':jB}{b Rr:Nat}{a:Array jF}(h:Ag w b a t)(T:AU Rr (Rr+1) w w')(c:Rr<b):Ag w' b a t:=⟨(T.block b h.lt<|.inr Oa).trans h.out⟩
theorem Aam (h:GS B Rr gb a n c zs k s w)(bd:T s.P<=90000)(hi:T s.I<=90000)(hs:T s.st<=90000):
  Calls jZ 110 #[jP<|Q<|jA gb 0 U] w (GA B Rr gb a n c zs k w<|VaX zs s):=by
 obtain⟨pv,iv,sv,lv,nv,h⟩:=h;obtain⟨aS,aT,aU,aV,aW⟩:=info_parts UB;have c0:=h.row.cell 0;have bf:=h.low;go_enter func110,ntmps110
 go_wp2_with fail
 refine(BN Rr a n c zs s.p w h.rd).mono ?_;rintro e o ⟨x,F,rfl,aX,bg,bh,ay,ah⟩;have ai:=h.aR ay ah;have ap:DC Rr gb w o:= .aR ah;have bi:=ah.size;clear h ay ah c0;have aj:=ai.aI.bW;obtain⟨b,az⟩:∃b,b=R (Z o):=⟨_,rfl⟩
 have L:Rr<b:=Oa;have aq:gb<=b:=Oa;have ar:=AE o<|jH #[V X<|1+x % 4,V X 0,jC ⟨#[]⟩,Y U 0 0] 77;have D:=Ag.new o #[V X<|1+x % 4,V X 0,jC ⟨#[]⟩,Y U 0 0] 77;have y:=ai.below ar;have H:=ap.trans<|.of ar;have aY:jI (jK o<|jH #[V X<|1+x % 4,V X 0,jC ⟨#[]⟩,Y U 0 0] 77) (jA gb 0 U)=Q (jP<|Q<|jA Rr 0 U):=y.row.cell 0;have ak:jL pv≠Q b:=λe=>H2<|(aj.1 b e).2;have aa:=Ab (show ∀u:jF,(∀q,jL u=Q q->b<q)->∀q,jL u=Q q->jL pv≠Q q/\∀j,(au:j<T nv)->jL nv[j]≠Q q from λu hu q hq=>
  ⟨λe=>by have:=(aj.1 q e).2;have:=hu q hq;omega,λj au e=>by have:=(aj.2 j au q e).2;have:=hu q hq;omega⟩)
 have M:=Ab az;clear az;rcases(Oa:x % 4=0\/x % 4=1\/x % 4=2\/x % 4=3)with e|e|e|e
 case' inl=>
  have av:(1+x % 4==1)=jD:=zD.2 Oa;have i:=ai.below<|AE o<|jH #[V X<|1+x % 4,V X<|x / 4 % 2,jC ⟨#[]⟩,Y U 0 0] 77;have G:=ap.trans<|.of<|AE o<|jH #[V X<|1+x % 4,V X<|x / 4 % 2,jC ⟨#[]⟩,Y U 0 0] 77;have t:=Ag.new o #[V X<|1+x % 4,V X<|x / 4 % 2,jC ⟨#[]⟩,Y U 0 0] 77;obtain⟨q,hq⟩:∃q,q=F:=⟨_,rfl⟩
  have N:=Ab (show LA zs x F ⟨1+x % 4,x / 4 % 2,⟨#[]⟩,[]⟩ q by unfold LA;rw[H8 e,e];exact⟨rfl,hq⟩);rw[<-hq]at i;clear e hq;go_wp2_with fail
  have z:jO (jK o<|jH #[V X<|1+x % 4,V X<|x / 4 % 2,jC ⟨#[]⟩,Y U 0 0] 77) B 9 1 (Y U 0 0) (T ([]:L4))<|([]:L4).map Value.string:=H3;have O:=Ab<|show PU ⟨1+x % 4,x / 4 % 2,⟨#[]⟩,[]⟩from⟨zE _,zE _,λs hs=>H9 hs Ox⟩;have S:=Ab<|Aa aa (Y U 0 0) λq hq=>Hj;generalize jK o (jH #[V X (1+x % 4),V X (x / 4 % 2),jC ⟨#[]⟩,Y U 0 0] 77)=l at i G t z|-;rw[<-Aa M]at t|-
 case' inr.inl=>
  have av:(1+x % 4==1)=jE:=zA.2 Oa;have aA:(1+x % 4==2)=jD:=zD.2 Oa;have E:=Ab e;clear e;go_wp2_with fail
  generalize jK o (jH #[V X (1+x % 4),V X 0,jC ⟨#[]⟩,Y U 0 0] 77)=aB at y H D|-;rw[<-Aa M]at D|-;refine(Aan Rr a n c zs F _ y.rd).mono ?_;rintro e A ⟨nm,q,rfl,ab,-,h3,C⟩;have m:=D.cD C L;have ac:=m.frozen 1;obtain⟨ad,ae,af,ag⟩:=Cx m;go_wp2_with fail
  obtain⟨i,b3⟩:=(y.aR h3 C).setV m L aq ak 1<|V X nm;have G:=(H.trans<|.aR C).trans b3;have t:Ag (jJ A (jA b 1 U)<|V X nm) b #[V X<|1+x % 4,V X nm,jC ⟨#[]⟩,Y U 0 0] 77:=m.set 1 _;have N:=Ab (show LA zs x F ⟨1+x % 4,nm,⟨#[]⟩,[]⟩ q by have e:=Aa E;unfold LA;rw[H7 Oa,H8 e,e,Aa ab];exact⟨rfl,rfl⟩);have z:jO (jJ A (jA b 1 U)<|V X nm) B 9 1 (Y U 0 0) (T ([]:L4))<|([]:L4).map Value.string:=H3;have O:=Ab<|show PU ⟨1+x % 4,nm,⟨#[]⟩,[]⟩from⟨zE _,zE _,λs hs=>H9 hs Ox⟩;have S:=Ab<|Aa aa (Y U 0 0) λq hq=>Hj;generalize jJ A (jA b 1 U) (V X nm)=l at i G t z|-;clear m ac ad ae af ag b3
 case' inr.inr.inl=>
  have av:(1+x % 4==1)=jE:=zA.2 Oa;have aA:(1+x % 4==2)=jE:=zA.2 Oa;have aZ:(1+x % 4==3)=jD:=zD.2 Oa;have E:=Ab e;clear e;go_wp2_with fail
  generalize jK o (jH #[V X (1+x % 4),V X 0,jC ⟨#[]⟩,Y U 0 0] 77)=aB at y H D|-;rw[<-Aa M]at D|-;refine(JY Rr a n c zs F _ y.rd).mono ?_;rintro e A ⟨d,q,rfl,ab,h5,h3,C⟩;have m:=D.cD C L;have ac:=m.frozen 2;obtain⟨ad,ae,af,ag⟩:=Cx m;go_wp2_with fail
  obtain⟨i,b3⟩:=(y.aR h3 C).setV m L aq ak 2<|jC d;have G:=(H.trans<|.aR C).trans b3;have t:Ag (jJ A (jA b 2 U)<|jC d) b #[V X<|1+x % 4,V X 0,jC d,Y U 0 0] 77:=m.set 2 _;have N:=Ab (show LA zs x F ⟨1+x % 4,0,d,[]⟩ q by have e:=Aa E;unfold LA;rw[H7 Oa,H7 Oa,H8 e,e,Aa ab];exact⟨rfl,rfl⟩);have z:jO (jJ A (jA b 2 U)<|jC d) B 9 1 (Y U 0 0) (T ([]:L4))<|([]:L4).map Value.string:=H3;have O:=Ab<|show PU ⟨1+x % 4,0,d,[]⟩from⟨h5,zE _,λs hs=>H9 hs Ox⟩;have S:=Ab<|Aa aa (Y U 0 0) λq hq=>Hj;generalize jJ A (jA b 2 U) (jC d)=l at i G t z|-;clear m ac ad ae af ag b3
 case' inr.inr.inr=>
  have av:(1+x % 4==1)=jE:=zA.2 Oa;have aA:(1+x % 4==2)=jE:=zA.2 Oa;have aZ:(1+x % 4==3)=jE:=zA.2 Oa;have E:=Ab e;clear e;go_wp2_with fail
  have a0:b<R (Z<|jK o<|jH #[V X<|1+x % 4,V X 0,jC ⟨#[]⟩,Y U 0 0] 77):=by have:=Aa M;simp;omega
  generalize jK o (jH #[V X (1+x % 4),V X 0,jC ⟨#[]⟩,Y U 0 0] 77)=aB at y H D a0|-;rw[<-Aa M]at D|-;refine(Pw Rr a n c zs F _ y.rd).mono ?_;rintro e A ⟨f,g,K,q,rfl,ab,h5,al,h3,C⟩;have m:=D.cD C L;have ac:=m.frozen 3;obtain⟨ad,ae,af,ag⟩:=Cx m;go_wp2_with fail
  obtain⟨i,b3⟩:=(y.aR h3 C).setV m L aq ak 3<|Y f (T K) g;have G:=(H.trans<|.aR C).trans b3;have t:Ag (jJ A (jA b 3 U)<|Y f (T K) g) b #[V X<|1+x % 4,V X 0,jC ⟨#[]⟩,Y f (T K) g] 77:=m.set 3 _;have N:=Ab (show LA zs x F ⟨1+x % 4,0,⟨#[]⟩,K⟩ q by have e:=Aa E;unfold LA;rw[H7 Oa,H7 Oa,H7 Oa,e];exact⟨rfl,Aa ab⟩);have z:jO (jJ A (jA b 3 U)<|Y f (T K) g) B 9 1 (Y f (T K) g) (T K)<|K.map Value.string:=Ah (Az al.aN<|H2 y.low) (jA b 3 U) _ (λq hq=>by have:=(al.aN.lt q hq).1;show q≠b;omega);have O:=Ab<|show PU ⟨1+x % 4,0,⟨#[]⟩,K⟩from⟨zE _,zB h5 Ob,al.aJ⟩;have S:=Ab<|Aa aa (Y f (T K) g) λq hq=>H2<|(al.aN.lt q hq).1;generalize jJ A (jA b 3 U) (Y f (T K) g)=l at i G t z|-;clear m ac ad ae af ag b3
 all_goals
  obtain⟨nm,d,K,f,g,t,N,z,O,S⟩:∃ (nm:Int) (d:K9) (K:L4) (f:L3) (g:Nat),Ag l b #[V X (1+x % 4),V X nm,jC d,Y f (T K) g] 77/\Hid (LA zs x F ⟨1+x % 4,nm,d,K⟩ q)/\jO l B 9 1 (Y f (T K) g) (T K) (K.map Value.string)/\Hid (PU ⟨1+x % 4,nm,d,K⟩)/\Hid (∀q,jL (Value.slice f (T K) g)=Q q->jL pv≠Q q/\∀j,(au:j<T nv)->jL nv[j]≠Q q):=⟨_,_,_,_,_,t,N,z,O,S⟩
  clear ai y ap H D ar aj aY aa M;obtain⟨W,cn,a1,-⟩:=Ae i.aI.aN;subst a1;obtain⟨e0,e1,e2,e3⟩:=Cx t;have aC:jI l (jA gb 1 U)=Q (Y W (T s.P) cn):=i.row.cell 1;have aD:=i.row.frozen 1;have aE:=G4<|G8 l<|jH #[V X<|1+x % 4,V X nm,jC d,Y f (T K) g] 77;have aF:=(G1 i.aI.aN<|jH #[V X<|1+x % 4,V X nm,jC d,Y f (T K) g] 77).drew;have ao:Ag (jR<|jK l<|jH #[V X<|1+x % 4,V X nm,jC d,Y f (T K) g] 77) gb #[jP<|Q<|jA Rr 0 U,Y W (T s.P) cn,V X k,iv,sv,lv] 137:=⟨(i.row.alloc<|jH #[V X<|1+x % 4,V X nm,jC d,Y f (T K) g] 77).out⟩
  have a2:jI (jR l) (jA gb 1 U)=Q (Y W (T s.P) cn)/\World.frozen? (jR l) (jA gb 1 U)=jE:=⟨aC,aD⟩
  have d1:jI (jR l) (jA b 0 U)=Q (V X<|1+x % 4):=e0;have d2:jI (jR l) (jA b 1 U)=Q (V X nm):=e1;have d3:jI (jR l) (jA b 2 U)=Q (jC d):=e2;have d4:jI (jR l) (jA b 3 U)=Q (Y f (T K) g):=e3;have a3:=ao.cell 1;have aG:jL (Value.slice W (T s.P) cn)≠Q gb:=Ac i.row i.aI.aN Ob;have bj:B<=R (Z l):=i.low.2.2;clear e0 e1 e2 e3 aC aD;go_region_law (refine step_append_lies _ rfl _ _ 23 rfl B 77 aS (jM #[V X 0,V X 0,jC ByteArray.empty,Y U 0 0]) 4 56 underlying23 aT aU aV aW rfl Ob (Y W (T s.P) cn) (T s.P) (JX s.P nv) rfl aF ⟨R<|Z l,0,U⟩ 1 1 [V X<|1+x % 4,V X nm,jC d,Y f (T K) g] rfl rfl aE (by intro u hu;simp at hu;obtain rfl|rfl|rfl|rfl:=hu<;>rfl) Ob O2 Oa O0 _ rfl ?_;intro g7 c7 aH aK J hat a4;have aw:Ag aH gb #[jP (Q (jA Rr 0 U)),Y W (T s.P) cn,V X k,iv,sv,lv] 137:=⟨(J.block gb ao.lt λe=>aG e.symm).trans ao.out⟩;have aL:=aw.cell 1;have a5:=aw.frozen 1)
  all_goals
   obtain⟨ax,aM,aO⟩:=i.newP (g7:=g7) (c7:=c7) (v:=⟨1+x % 4,nm,d,K⟩) (u:= Y f (T K) g) (jH #[V X<|1+x % 4,V X nm,jC d,Y f (T K) g] 77) (Aa O) z (Aa S) ⟨J.os,J.tape,J.output,J.size,J.block⟩ aK (hat.imp id λe=>by rw[e];show R (Z<|jK l _)=_;simp);have aP:=aO b _ t ak;have aQ:=G.trans aM;clear aK J hat a4 aw ao a3 a2 d1 d2 d3 d4 aE aF aM aO;clear aL a5;generalize jJ aH (jA gb 1 U) (Y (Q (jA g7 0 U)) (T s.P+1) c7)=a6 at ax aQ aP|-;clear aG t i G z;have aL:jI a6 (jA gb 1 U)=Q (Y (Q<|jA g7 0 U) (T s.P+1) c7):=ax.row.cell 1;go_wp2_with fail
   refine(Adu ⟨_,_,_,_,_,ax⟩ 1 (T s.P:Int) (Oa:T s.I<=100000)).mono ?_;rintro r bk ⟨⟨rfl,a7,rfl,a8,a9⟩,ba⟩;obtain⟨e0,e1,e2,e3⟩:=Cx<|ba _ _ aP;go_wp2_with fail
   refine(PV a8 (1+x % 4) (Oa:T s.st<=100000)).mono ?_;rintro r bl ⟨rfl,a7,rfl,bb,bc⟩;go_wp2_with fail
   go_end0
   exact⟨rfl,_,⟨_,_,by rw[Aa aX];exact Aa N,rfl⟩,bb,(aQ.trans a9).trans bc⟩
end
section
variable{a b:Int}{w:jB}
theorem AgJ (k:Cu a)(l:Cu b)(op:Int)(g:op≠1)(h:op≠2)(h3:op≠3)(i:op≠4)(h5:op≠5):
  Calls jZ 155 #[V X op,V X a,V X b] w λe w'=>e=jN (jQ #[V X (AV op a b).1,V X (AV op a b).2])/\Ai w w':=by
 have e1:(op==1)=jE:=zA.2 g;have e2:(op==2)=jE:=zA.2 h;have e3:(op==3)=jE:=zA.2 h3;have e4:(op==4)=jE:=zA.2 i;have e5:(op==5)=jE:=zA.2 h5;have m:=Ab (show AV op a b=(0,4) by rw[AV,H7 g,H7 h,H7 h3,H7 i,H7 h5]);go_enter func155,ntmps155
 go_wp2_with fail
 refine(AW a w k).mono ?_;rintro e n ⟨rfl,j⟩;have d:=j.alloc j.size<|jH #[.bool<|decide (a<0),V jS 0,V jS (a.natAbs:Int)] 263;have o:=Ag.new n #[.bool<|decide (a<0),V jS 0,V jS (a.natAbs:Int)] 263;go_wp2_with fail
 refine(AW b _ l).mono ?_;rintro e w2 ⟨rfl,c⟩;have p:=(d.trans<|c.mono d.size).alloc (zB d.size c.size)<|jH #[.bool<|decide (b<0),V jS 0,V jS (b.natAbs:Int)] 263;have f:=(o.aA c NLN).alloc<|jH #[.bool<|decide (b<0),V jS 0,V jS (b.natAbs:Int)] 263;have q:=c.size;simp only[G0]at q;have c0:=f.cell 0;have c1:=f.cell 1;have c2:=f.cell 2;simp at c0 c1 c2;go_wp2
 go_ret2
 exact⟨LI<|Aa m,p⟩
theorem AdV (k:Cu a)(f:Cu b)(h0:b=0):
  Calls jZ 155 #[V X 4,V X a,V X b] w λe w'=>e=jN (jQ #[V X (AV 4 a b).1,V X (AV 4 a b).2])/\Ai w w':=by
 have hy:(b.natAbs:Int)<=9223372036854775808:=by have:=f.lo;have:=f.hi;omega
 have l:=Ab (show AV 4 a b=(0,2) by subst h0;rfl);have e0:(b==0)=jD:=zD.2 h0;clear h0;go_enter func155,ntmps155
 go_wp2_with fail
 refine(AW a w k).mono ?_;rintro e m ⟨rfl,g⟩;have d:=g.alloc g.size<|jH #[.bool<|decide (a<0),V jS 0,V jS (a.natAbs:Int)] 263;have i:=Ag.new m #[.bool<|decide (a<0),V jS 0,V jS (a.natAbs:Int)] 263;go_wp2_with fail
 refine(AW b _ f).mono ?_;rintro e w2 ⟨rfl,c⟩;have n:=(d.trans<|c.mono d.size).alloc (zB d.size c.size)<|jH #[.bool<|decide (b<0),V jS 0,V jS (b.natAbs:Int)] 263;have h:=(i.aA c NLN).alloc<|jH #[.bool<|decide (b<0),V jS 0,V jS (b.natAbs:Int)] 263;have j:=c.size;simp only[G0]at j;clear i d g c j;have c0:=h.cell 0;have c1:=h.cell 1;have c2:=h.cell 2;simp at c0 c1 c2;go_wp2
 go_ret2
 exact⟨LI<|Aa l,n⟩
theorem AdW (k:Cu a)(f:Cu b)(h0:b=0):
  Calls jZ 155 #[V X 5,V X a,V X b] w λe w'=>e=jN (jQ #[V X (AV 5 a b).1,V X (AV 5 a b).2])/\Ai w w':=by
 have hy:(b.natAbs:Int)<=9223372036854775808:=by have:=f.lo;have:=f.hi;omega
 have l:=Ab (show AV 5 a b=(0,2) by subst h0;rfl);have e0:(b==0)=jD:=zD.2 h0;clear h0;go_enter func155,ntmps155
 go_wp2_with fail
 refine(AW a w k).mono ?_;rintro e m ⟨rfl,g⟩;have d:=g.alloc g.size<|jH #[.bool<|decide (a<0),V jS 0,V jS (a.natAbs:Int)] 263;have i:=Ag.new m #[.bool<|decide (a<0),V jS 0,V jS (a.natAbs:Int)] 263;go_wp2_with fail
 refine(AW b _ f).mono ?_;rintro e w2 ⟨rfl,c⟩;have n:=(d.trans<|c.mono d.size).alloc (zB d.size c.size)<|jH #[.bool<|decide (b<0),V jS 0,V jS (b.natAbs:Int)] 263;have h:=(i.aA c NLN).alloc<|jH #[.bool<|decide (b<0),V jS 0,V jS (b.natAbs:Int)] 263;have j:=c.size;simp only[G0]at j;clear i d g c j;have c0:=h.cell 0;have c1:=h.cell 1;have c2:=h.cell 2;simp at c0 c1 c2;go_wp2
 go_ret2
 exact⟨LI<|Aa l,n⟩
end
section
variable{a b:Int}{w:jB}
theorem AgK (j:Cu a)(k:Cu b)(h0:b≠0):
  Calls jZ 155 #[V X 4,V X a,V X b] w λe w'=>e=jN (jQ #[V X (AV 4 a b).1,V X (AV 4 a b).2])/\Ai w w':=by
 have hx:(a.natAbs:Int)<=9223372036854775808:=by have:=j.lo;have:=j.hi;omega
 have hy:(b.natAbs:Int)<=9223372036854775808:=by have:=k.lo;have:=k.hi;omega
 have e0:(b==0)=jE:=zA.2 h0;have A:(0 :Int)<(b.natAbs:Int):=Oa;have q:=Ab<|AdT a b;have h3: 0<=(a.natAbs:Int) / (b.natAbs:Int):=Int.ediv_nonneg Oa Oa;have n:(a.natAbs:Int) / (b.natAbs:Int)<18446744073709551616:=by have:=Int.ediv_le_self (b.natAbs:Int) (Oa:0<=(a.natAbs:Int));omega
 have r:=Ab<|V8 h3 n;go_enter func155,ntmps155
 go_wp2_with fail
 refine(AW a w j).mono ?_;rintro e l ⟨rfl,o⟩;have m:=o.alloc o.size<|jH #[.bool<|decide (a<0),V jS 0,V jS (a.natAbs:Int)] 263;have s:=Ag.new l #[.bool<|decide (a<0),V jS 0,V jS (a.natAbs:Int)] 263;go_wp2_with fail
 refine(AW b _ k).mono ?_;rintro e w2 ⟨rfl,h⟩;have p:=(m.trans<|h.mono m.size).alloc (zB m.size h.size)<|jH #[.bool<|decide (b<0),V jS 0,V jS (b.natAbs:Int)] 263;have c:=(s.aA h NLN).alloc<|jH #[.bool<|decide (b<0),V jS 0,V jS (b.natAbs:Int)] 263;have d:=Ag.new w2 #[.bool<|decide (b<0),V jS 0,V jS (b.natAbs:Int)] 263;have t:=h.size;simp only[G0]at t;have c0:=c.cell 0;have c1:=c.cell 1;have c2:=c.cell 2;simp at c0 c1 c2;generalize B:jK w2 (jH #[.bool (decide (b<0)),V jS 0,V jS (b.natAbs:Int)] 263)=i at*;have u:=d.cell 0;have d1:=d.cell 1;have d2:=d.cell 2;simp at u d1 d2;go_wp2_with fail
 go_region_held3 (λw'=>jI w' ⟨R<|Z l,0,U⟩=Q (.bool<|decide (a<0))/\jI w' ⟨R<|Z l,2,U⟩=Q (V jS (a.natAbs:Int))/\jI w' ⟨R<|Z w2,0,U⟩=Q (.bool<|decide (b<0))/\jI w' ⟨R<|Z w2,2,U⟩=Q (V jS (b.natAbs:Int))) (go_keep)
  ((go_at_call 173;rw[Aa r];refine(FJ _ _ _ _ ?_ ?_ ?_ ?_).mono ?_;omega;omega;exact h3;exact n;rintro e C ⟨rfl,g⟩;have v:=(Ag.aA (w:=jR i) ⟨c.out⟩ g NLN).cell 0;have q2:=(Ag.aA (w:=jR i) ⟨c.out⟩ g NLN).cell 2;have x:=(Ag.aA (w:=jR i) ⟨d.out⟩ g NLN).cell 0;have y:=(Ag.aA (w:=jR i) ⟨d.out⟩ g NLN).cell 2;simp at v q2 x y))
 all_goals
  rw[Aa q];generalize z:JV (a.tdiv b)=f;go_wp2
  go_ret2
  exact⟨IU (Aa<|Ab<|show AV 4 a b=f by rw[<-z,AV];simp[UL,h0]).symm,p.drew.trans<|g.mono p.size⟩
theorem AgL (o:Cu a)(j:Cu b)(h0:b≠0):
  Calls jZ 155 #[V X 5,V X a,V X b] w λe w'=>e=jN (jQ #[V X (AV 5 a b).1,V X (AV 5 a b).2])/\Ai w w':=by
 have hy:(b.natAbs:Int)<=9223372036854775808:=by have:=j.lo;have:=j.hi;omega
 have e0:(b==0)=jE:=zA.2 h0;have p:(0 :Int)<(b.natAbs:Int):=Oa;have q:=Ab<|AdU a b;have h3: 0<=(a.natAbs:Int) % (b.natAbs:Int):=Int.emod_nonneg _ Oa;have r:(a.natAbs:Int) % (b.natAbs:Int)<18446744073709551616:=by have:=Int.emod_lt_of_pos (a.natAbs:Int) p;omega
 have s:=Ab<|Int.tmod_eq_emod_of_nonneg (b:=(b.natAbs:Int)) (Oa:0<=(a.natAbs:Int));go_enter func155,ntmps155
 go_wp2_with fail
 refine(AW a w o).mono ?_;rintro e k ⟨rfl,m⟩;have l:=m.alloc m.size<|jH #[.bool<|decide (a<0),V jS 0,V jS (a.natAbs:Int)] 263;have t:=Ag.new k #[.bool<|decide (a<0),V jS 0,V jS (a.natAbs:Int)] 263;go_wp2_with fail
 refine(AW b _ j).mono ?_;rintro e w2 ⟨rfl,h⟩;have n:=(l.trans<|h.mono l.size).alloc (zB l.size h.size)<|jH #[.bool<|decide (b<0),V jS 0,V jS (b.natAbs:Int)] 263;have c:=(t.aA h NLN).alloc<|jH #[.bool<|decide (b<0),V jS 0,V jS (b.natAbs:Int)] 263;have d:=Ag.new w2 #[.bool<|decide (b<0),V jS 0,V jS (b.natAbs:Int)] 263;have u:=h.size;simp only[G0]at u;have c0:=c.cell 0;have c1:=c.cell 1;have c2:=c.cell 2;simp at c0 c1 c2;generalize B:jK w2 (jH #[.bool (decide (b<0)),V jS 0,V jS (b.natAbs:Int)] 263)=i at*;have v:=d.cell 0;have d1:=d.cell 1;have d2:=d.cell 2;simp at v d1 d2;go_wp2_with fail
 go_region_held3 (λw'=>jI w' ⟨R<|Z k,0,U⟩=Q (.bool<|decide (a<0))/\jI w' ⟨R<|Z k,2,U⟩=Q (V jS (a.natAbs:Int))/\jI w' ⟨R<|Z w2,0,U⟩=Q (.bool<|decide (b<0))/\jI w' ⟨R<|Z w2,2,U⟩=Q (V jS (b.natAbs:Int))) (go_keep)
  ((go_at_call 173;rw[Aa s];refine(FJ _ _ _ _ ?_ ?_ ?_ ?_).mono ?_;omega;omega;exact h3;exact r;rintro e C ⟨rfl,g⟩;have x:=(Ag.aA (w:=jR i) ⟨c.out⟩ g NLN).cell 0;have q2:=(Ag.aA (w:=jR i) ⟨c.out⟩ g NLN).cell 2;have y:=(Ag.aA (w:=jR i) ⟨d.out⟩ g NLN).cell 0;have z:=(Ag.aA (w:=jR i) ⟨d.out⟩ g NLN).cell 2;simp at x q2 y z))
 all_goals
  rw[Aa q];generalize A:JV (a.tmod b)=f;go_wp2
  go_ret2
  exact⟨IU (Aa<|Ab<|show AV 5 a b=f by rw[<-A,AV];simp[SI,h0]).symm,n.drew.trans<|g.mono n.size⟩
theorem Tw (op:Int)(c:Cu a)(d:Cu b):
  Calls jZ 155 #[V X op,V X a,V X b] w λe w'=>e=jN (jQ #[V X (AV op a b).1,V X (AV op a b).2])/\Ai w w':=by grind [AgL,AgG,AgJ,AdV,AgI,AdW,AgH,AgK]
end
theorem VU (op:Int)(h: 8<=op/\op<=26)(w:jB):Calls jZ 105 #[V X op] w λr w'=>r=jN (V X<|op-3)/\w'=w:=by
 by_cases a:op<=10
 .go_enter func105,ntmps105
  go_wp2
  go_ret
  refine⟨?_,rfl⟩;show jN (V X _)=_
  congr 2
  omega
 .go_enter func105,ntmps105
  go_wp2
  go_ret
  refine⟨?_,rfl⟩;show jN (V X _)=_
  congr 2
  omega
theorem BS.low {w:jB}{B B':Nat}(h:BS w0 B v L w)(a:B'<=B):BS w0 B' v L w:=by
 obtain⟨b,c,d,h3⟩:=h;exact⟨b,c,d,Az h3 a⟩
theorem BS.bE {w:jB}{B:Nat}(h:BS w0 B v L w):∃x c,v=Y x (T L) c/\(0<T L->∃g K,x=Q (jA g 0 U)/\K.map J5.i=L/\Ov w0 K/\∀j u,(K.flatMap J5.cs)[j]? =Q u->jI w (((jA g 0 U):jG).add j)=Q u):=by
 obtain⟨a,b,d,h3⟩:=h;have e:T a=T L:=by rw[<-b,zN]
 obtain⟨x,c,rfl,hx⟩:=Ae h3;rw[e];refine⟨x,c,rfl,λh0=>?_⟩;obtain⟨g,rfl,_,hc⟩:=hx Oa;refine⟨g,a,rfl,b,d,λj u hu=>?_⟩;rw[(Qx:((jA g 0 U):jG).add j=(jA g j U))]
 grind
theorem J5.bH (j:J5):∀u∈j.cs,u.oneCell'=jD:=λu hu=>by
 simp only[J5.cs,zh,List.not_mem_nil,or_false]at hu;obtain rfl|rfl|rfl|rfl|rfl|rfl:=hu<;>rfl
theorem LH {w:jB}{ops:Array Oper}{rest:List Oper}{o:Oper}{a:Act}{Q:Exit->Act->jB->Prop}(l:o.guard=U)(s x:Operand)
  (n:o.op= .call { callee:= .builtin .append,args:=#[s,x],argTypes:=#[129,129] })(w0:jB)(B:Nat)(v:jF)(L:M9)(hs:a.eval s=v)(hv:BS w0 B v L w)
  (f:jG)(m c:Nat)(K:List J5)(hx:a.eval x=Y (jg f) m c)(hm:T K=m)(p:Ov w0 K)(r:∀j u,(K.flatMap J5.cs)[j]? =jg u->jI w (f.add j)=jg u)(G:T L+m<=4194304)(g:B<=R (Z w))
  (h:∀b n' c' w',BS w0 B (Y b n' c') (L++K.map J5.i) w'->Below B w w'->wpList jZ ops Q rest (a.put o.dst<|Y b n' c') w'):wpList jZ ops Q (o ::rest) a w:=by
 obtain⟨t,y,z,A,C⟩:=info_parts AdK;obtain⟨d,k,D,h3⟩:=hv;have e:T d=T L:=by rw[<-k,zN]
 refine G7 w l s x 129 n B 133 t _ 6 72 underlying129 y z A C rfl Ob v (T d) (d.flatMap J5.cs) hs h3 f m c (K.flatMap J5.cs) hx (by rw[Tr,hm]) r (λu hu=>?_) O2 Oa g ?_
 .grind [J5.bH]
 .intro v' w' E hg _;obtain⟨b,c',rfl,_⟩:=Ae E;rw[e];refine h b _ c' w' ⟨d++K,by rw[zk,k],λj F=>(zO.1 F).elim (D j)<|p j,?_⟩ ((Below.refl B w).grown hg g λq hq=>(h3.lt q hq).1)
  grind
theorem DL (w:jB)(k:J5)(b:Nat)(d:b=R (Z w)):∀j u,([k].flatMap J5.cs)[j]? =Q u->jI (jK w<|jH #[V X k.i.op,V X k.i.aY,V X k.i.val.aC,V X k.i.val.num,jC k.i.val.text,Y k.a k.n k.c] 133) (((jA b 0 U):jG).add j)=Q u:=λj u h=>by
 subst d;have f:(⟨R<|Z w,0,U⟩:jG).add j=⟨R<|Z w,j,U⟩:=Qx;rw[f,(Ag.new w _ 133).cell j,<-h];simp[J5.cs]
theorem Ov.bH {k:J5}(h:Qh w0 k.a k.n k.c k.i.val.aB):Ov w0 [k]:=λj b=>by
 rw[zR.1 b];exact h
theorem Ov.plain (w0:jB)(op a:Int):Ov w0 [AR op a]:=Ov.bH<|Qh.bR w0
def KiC (w0 w:jB) (k:K5) (e:Ex):Prop:=∀W,Ai w W->∀at_:Nat,at_+Am e<=1048576->Calls jZ 63 #[jM #[V X k.op,V X k.num,jC k.text,Y k.an k.nn k.cn,Y k.ka k.kn k.kc],V X at_] W λr w'=>(∃v,r=jN v/\BS w0 (R<|Z W) v (Ar e at_) w')/\Ai W w'
def VV (w:jB) (k:K5) (e:Ex):Prop:=∀W,Ai w W->Calls jZ 103 #[jM #[V X k.op,V X k.num,jC k.text,Y k.an k.nn k.cn,Y k.ka k.kn k.kc]] W λr w'=>r=jN (V X<|Am e)/\Ai W w'
theorem AgA (w0:jB)(op num:Int)(text:K9)(an:L3)(nn cn:Nat)(ka:L3)(kc:Nat)(d:K5)(i:Int)(e0:Ex)(F: 8<=op/\op<=10)(at_:Nat)(n:at_+Am (.un i op e0)<=1048576)(w:jB)(o:AO w ka [d])(p:KiC w0 w d e0):
  Calls jZ 63 #[jM #[V X op,V X num,jC text,Y an nn cn,Y ka 1 kc],V X at_] w λr w'=>(∃v,r=jN v/\BS w0 (R<|Z w) v (Ar (.un i op e0) at_) w')/\Ai w w':=by
 rw[Am]at n;have a:=AE w<|Bu op num text an nn cn ka 1 kc;have q:=Ag.new w #[V X op,V X num,jC text,Y an nn cn,Y ka 1 kc] 121;obtain⟨b,G,rfl,H,hc⟩:=(o.below a NLN) 0 Ox;have c0:=hc 0 Ob;have c1:=hc 1 Ob;have c2:=hc 2 Ob;have c3:=hc 3 Ob;have c4:=hc 4 Ob;simp only[K5.cs,z0,zu,zX,Z3,Z4]at c0 c1 c2 c3 c4;have f:=Ab λs t=>p s t at_ Oa;have e6:(op==6)=jE:=zA.2 Oa;have e7:(op==7)=jE:=zA.2 Oa;have I:(op==25)=jE:=zA.2 Oa;have J:(op==26)=jE:=zA.2 Oa;have K:(op==27)=jE:=zA.2 Oa;have u:=BJ e0 at_;have g:=Ab<|show Ar (.un i op e0) at_=Ar e0 at_++[(AR (op-3) 0).i]from rfl;rw[Aa g];have x:=Ab<|VU op Oa;generalize Ar e0 at_=h at f u g|-;have L:T h<=1048576:=Oa
 go_enter func63,ntmps63
 go_wp2_with fail
 refine(Aa f _ a).mono ?_;rintro r c ⟨⟨M,rfl,j⟩,k⟩;have y:=q.aA k NLN;obtain⟨N,O,P,S,W,_⟩:=Ap y;obtain⟨aa,ab,rfl,_⟩:=j.bE;have l:=a.trans<|k.mono a.size;have z:=j.low (B':=R<|Z w) a.size;have A:=l.size;dsimp only;go_wp2_with fail
 refine(Aa x c).mono ?_;rintro r w2 ⟨rfl,B⟩;rw[B];dsimp only;have m:=AE c<|jH #[V X<|op-3,V X 0,V X 0,V X 0,jC ⟨#[]⟩,Y U 0 0] 133;have C:=z.below m;go_wp2_with (at_builtin;refine LH rfl _ _ rfl w0 (R<|Z w) _ h rfl C ⟨R<|Z c,0,U⟩ 1 1 [AR (op-3) 0] rfl rfl (Ov.plain _ _ _) (DL c (AR (op-3) 0) _ rfl) Oa O0 ?_)
 intro ac ad ae af D E;go_wp2
 go_ret
 exact⟨⟨_,rfl,D⟩,(l.trans<|m.mono A).trans E⟩
theorem Qj (k n:Int)(s:K9)(a:L3)(m c:Nat)(w:jB):Calls jZ 101 #[jM #[V X k,V X n,jC s,Y a m c]] w λr w'=>r=jN (jM #[V X 1,V X 0,V X k,V X n,jC s,Y a m c])/\Ai w w':=by
 have b:=Ag.new (jK w<|jH #[V X k,V X n,jC s,Y a m c] 77) #[V X 1,V X 0,V X k,V X n,jC s,Y a m c] 133;have c0:=b.cell 0;have c1:=b.cell 1;have c2:=b.cell 2;have c3:=b.cell 3;have c4:=b.cell 4;have c5:=b.cell 5;simp only[G0]at c0 c1 c2 c3 c4 c5;go_enter func101,ntmps101
 go_wp2_with fail
 refine G2 (v:= jM #[V X 1,V X 0,V X k,V X n,jC s,Y a m c]) (by simp[results,results101,go_sem,c0,c1,c2,c3,c4,c5]) rfl ⟨rfl,?_⟩
 exact(AE w _).alloc Ox _
theorem DN {w:jB}{b:Nat}{a c d f g h:jF}(R:Ag w b #[a,c,d,f,g,h] t):jI w (jA b 0 U)=Q a/\jI w (jA b 1 U)=Q c/\jI w (jA b 2 U)=Q d/\jI w (jA b 3 U)=Q f/\jI w (jA b 4 U)=Q g/\jI w (jA b 5 U)=Q h:=⟨R.cell 0,R.cell 1,R.cell 2,R.cell 3,R.cell 4,R.cell 5⟩
theorem Qi (n:Int)(w:jB):Calls jZ 104 #[V X n] w λr w'=>r=jN (jM #[V X 1,V X 0,V X 1,V X n,jC ⟨#[]⟩,Y U 0 0])/\Ai w w':=by
 go_enter func104,ntmps104
 go_wp2_with fail
 refine(Qj 1 n ⟨#[]⟩ U 0 0 _).mono ?_;rintro r m ⟨rfl,b⟩;have c:=AE w<|jH #[V X 0,V X 0,V X 0,V X 0,jC ⟨#[]⟩,Y U 0 0] 133;have a:=(Ag.new w #[V X 0,V X 0,V X 0,V X 0,jC ⟨#[]⟩,Y U 0 0] 133).aA b NLN;obtain⟨o,q,s,t,u,x⟩:=DN a;have y:=λj=>a.frozen j;obtain⟨d,f,g,h,i,k⟩:=DN<|((((((a).set 0<|V X 1).set 1<|V X 0).set 2<|V X 1).set 3<|V X n).set 4<|jC ⟨#[]⟩).set 5<|Y U 0 0;have l:=Ab<|(((((((c.trans<|b.mono c.size)).setCell (p:=⟨R<|Z w,0,U⟩) NLN<|V X 1).setCell (p:=⟨R<|Z w,1,U⟩) NLN<|V X 0).setCell (p:=⟨R<|Z w,2,U⟩) NLN<|V X 1).setCell (p:=⟨R<|Z w,3,U⟩) NLN<|V X n).setCell (p:=⟨R<|Z w,4,U⟩) NLN<|jC ⟨#[]⟩).setCell (p:=⟨R<|Z w,5,U⟩) NLN<|Y U 0 0;go_wp2_with fail
 refine G2 (v:= jM #[V X 1,V X 0,V X 1,V X n,jC ⟨#[]⟩,Y U 0 0]) (by simp[results,results104,go_sem,d,f,g,h,i,k]) rfl ⟨rfl,?_⟩
 exact Aa l
theorem UJ (op:Int)(w:jB):Calls jZ 102 #[V X op] w λr w'=>r=jN (V X<|if op=1 then 2 else if op=2 then 3 else if op=3 then 1 else 4)/\w'=w:=by
 by_cases a:op=1
 .subst a;go_enter func102,ntmps102
  go_wp2
  go_ret
  exact⟨rfl,rfl⟩
 by_cases b:op=2
 .subst b;go_enter func102,ntmps102
  go_wp2
  go_ret
  exact⟨rfl,rfl⟩
 by_cases h3:op=3
 .subst h3;go_enter func102,ntmps102
  go_wp2
  go_ret
  exact⟨rfl,rfl⟩
 rw[H7 a,H7 b,H7 h3];have e1:(op==1)=jE:=zA.2 a;have e2:(op==2)=jE:=zA.2 b;have e3:(op==3)=jE:=zA.2 h3;go_enter func102,ntmps102
 go_wp2
 go_ret
 exact⟨rfl,rfl⟩
theorem BS.lit (w0 w:jB)(B:Nat)(k:J5)(b:Qh w0 k.a k.n k.c k.i.val.aB)(d:B<=R (Z w)):BS w0 B (Y (Q ⟨R<|Z w,0,U⟩) 1 1) [k.i]<|jK w<|jH #[V X k.i.op,V X k.i.aY,V X k.i.val.aC,V X k.i.val.num,jC k.i.val.text,Y k.a k.n k.c] 133:=by
 refine⟨[k],rfl,Ov.bH b,⟨?_,.inr ⟨R<|Z w,1,_,rfl,d,G8 w _,NLN,Ob,rfl,?_⟩⟩⟩
 all_goals simp_all[J5.cs]
theorem AbI (w0:jB)(num:Int)(text:K9)(an:L3)(nn cn:Nat)(ka:L3)(kn kc:Nat)(i:Int)(at_:Nat)(w:jB):
  Calls jZ 63 #[jM #[V X 6,V X num,jC text,Y an nn cn,Y ka kn kc],V X at_] w λr w'=>(∃v,r=jN v/\BS w0 (R<|Z w) v (Ar (.attr i num) at_) w')/\Ai w w':=by
 go_enter func63,ntmps63
 go_wp2
 go_ret
 have a:=AE w<|Bu 6 num text an nn cn ka kn kc;refine⟨⟨_,rfl,?_⟩,a.alloc a.size _⟩;have:=BS.lit w0 (jK w<|Bu 6 num text an nn cn ka kn kc) (R<|Z w) (AR 2 num) (Qh.bR w0) a.size;simp only[G0]at this;exact this
theorem AbJ (w0:jB)(num:Int)(text:K9)(an:L3)(nn cn:Nat)(ka:L3)(kn kc:Nat)(i:Int)(at_:Nat)(w:jB):
  Calls jZ 63 #[jM #[V X 7,V X num,jC text,Y an nn cn,Y ka kn kc],V X at_] w λr w'=>(∃v,r=jN v/\BS w0 (R<|Z w) v (Ar (.lett i num) at_) w')/\Ai w w':=by
 go_enter func63,ntmps63
 go_wp2
 go_ret
 have a:=AE w<|Bu 7 num text an nn cn ka kn kc;refine⟨⟨_,rfl,?_⟩,a.alloc a.size _⟩;have:=BS.lit w0 (jK w<|Bu 7 num text an nn cn ka kn kc) (R<|Z w) (AR 3 num) (Qh.bR w0) a.size;simp only[G0]at this;exact this
theorem YK (w0:jB)(op num:Int)(text:K9)(an:L3)(nn cn:Nat)(ka:L3)(kc:Nat)(e6:(op==6)=jE)(e7:(op==7)=jE)(at_:Nat)(w:jB)(ss:L4)(h:Qh w0 an nn cn ss):
  Calls jZ 63 #[jM #[V X op,V X num,jC text,Y an nn cn,Y ka 0 kc],V X at_] w λr w'=>(∃v,r=jN v/\BS w0 (R<|Z w) v [⟨1,0,⟨if op=1 then 2 else if op=2 then 3 else if op=3 then 1 else 4,num,text,ss⟩⟩] w')/\Ai w w':=by
 have c:=AE w<|Bu op num text an nn cn ka 0 kc;have i:=Ag.new w #[V X op,V X num,jC text,Y an nn cn,Y ka 0 kc] 121;have j:=Ab λd=>UJ op d;generalize (if op=1 then 2 else if op=2 then 3 else if op=3 then 1 else 4 :Int)=ty at j|-;have m:=Ab λd=>Qj ty num text an nn cn d;have n:=Ab h;clear h;go_enter func63,ntmps63
 go_wp2_with fail
 generalize jK w (Bu op num text an nn cn ka 0 kc)=a at c i|-;have f:=(SH a).drew;have k:=i.aA f NLN;obtain⟨o,d1,d2,d3,d4,_⟩:=Ap k;have u:jI (jR a) ⟨R<|Z w,0,U⟩=Q (V X op)/\jI (jR a) ⟨R<|Z w,1,U⟩=Q (V X num)/\jI (jR a) ⟨R<|Z w,2,U⟩=Q (jC text)/\jI (jR a) ⟨R<|Z w,3,U⟩=Q (Y an nn cn):=⟨o,d1,d2,d3⟩
 go_region_held3 (λw'=>jI w' ⟨R<|Z w,0,U⟩=Q (V X op)/\jI w' ⟨R<|Z w,1,U⟩=Q (V X num)/\jI w' ⟨R<|Z w,2,U⟩=Q (jC text)/\jI w' ⟨R<|Z w,3,U⟩=Q (Y an nn cn)) (first|assumption|go_keep) (first
  |(go_at_call 102;refine(Aa j _).mono ?_;rintro r x ⟨rfl,l⟩;rw[l];clear l)
  |(go_at_call 101;refine(Aa m _).mono ?_;rintro r b ⟨rfl,g⟩;have p:=k.aA g NLN;obtain⟨q,f1,f2,s,y,_⟩:=Ap p;have z:jI b ⟨R<|Z w,0,U⟩=Q (V X op)/\jI b ⟨R<|Z w,1,U⟩=Q (V X num)/\jI b ⟨R<|Z w,2,U⟩=Q (jC text)/\jI b ⟨R<|Z w,3,U⟩=Q (Y an nn cn):=⟨q,f1,f2,s⟩))
 go_wp2
 go_ret
 have t:=c.size;have A:=f.size;have B:=g.size;exact⟨⟨_,rfl,BS.lit w0 b (R<|Z w) ⟨⟨1,0,⟨ty,num,text,ss⟩⟩,an,nn,cn⟩ (Aa n) Oa⟩,((c.trans<|f.mono t).trans<|g.mono Oa).alloc Oa _⟩
def Lq (n:Int):J5:=⟨⟨1,0,⟨1,n,⟨#[]⟩,[]⟩⟩,U,0,0⟩
theorem VW (w:jB)(k l:J5)(b:Nat)(d:b=R (Z w)):∀j u,([k,l].flatMap J5.cs)[j]? =Q u->jI (jK w<|jH #[V X k.i.op,V X k.i.aY,V X k.i.val.aC,V X k.i.val.num,jC k.i.val.text,Y k.a k.n k.c,V X l.i.op,V X l.i.aY,V X l.i.val.aC,V X l.i.val.num,jC l.i.val.text,Y l.a l.n l.c] 133) (((jA b 0 U):jG).add j)=Q u:=λj u h=>by
 subst d;have f:(⟨R<|Z w,0,U⟩:jG).add j=⟨R<|Z w,j,U⟩:=Qx;rw[f,(Ag.new w _ 133).cell j,<-h];simp[J5.cs]
end Go.Proofs.YtnjpihpohilnjaaGreatDoor

import Derived.Test.YtnjpihpohilnjaaGreatDoorMXAW
import Derived.Test.YtnjpihpohilnjaaGreatDoorMXAV
import Derived.Test.YtnjpihpohilnjaaGreatDoorLTF
open List renaming length->T,length->ja
open Option renaming none->U,some->Q
open Go renaming World->jB,Value->jF,Addr->jG,TypeId->jV
open Bool renaming true->jD,false->jE
namespace Go.Proofs.YtnjpihpohilnjaaGreatDoor
open Proofs.Tryz
open Value renaming int->V,slice->Y,string->jC,ownBlock->jL,pointer->jP
open IntKind renaming i64->X
open World renaming heap->Z,cell?->jI,setCell->jJ,alloc->jK,ownsRow->jO,frozen?->jY
open Addr renaming mk->jA
open Proofs.Tryz renaming prog->jZ
open Go.RowKit
set_option linter.unusedVariables false
set_option maxRecDepth 100000
set_option maxHeartbeats 3200000
variable{nm:K9}{i cd:Int}{Es:L8}{ts tt ys:L2}{j d q g7 c7:Nat}{an:L3}{o:Rs}{x:Sx}{b w':jB}
section
variable (B Rr gb:Nat) (a:L3) (n c:Nat) (zs:L2) (k:Nat)
structure Fit (d m:Nat) (s:Gs):Prop where
 aK:T s.I+m*mI d<=80000
 aI:T s.P+m*mI d<=80000
 st:T s.st+m*2 ^ d<=80000
 sl:T s.sl=k
def Adv (d:Nat):Prop:=∀(m:Nat) (s:Gs) (w:jB),m<=40->GS B Rr gb a n c zs k s w->Fit k d m s->Calls jZ 66 #[jP<|Q<|jA gb 0 U,V X m,V X ((3-d:Nat):Int)] w (GA B Rr gb a n c zs k w<|Mh (Ie zs k d) zs k (T s.st) (3-d) m s)
def BrC (d:Nat):Prop:=∀(s:Gs) (w:jB),GS B Rr gb a n c zs k s w->1<=T s.st->Fit k d 1 s->Calls jZ 109 #[jP<|Q<|jA gb 0 U,V X ((3-d:Nat):Int)] w (GA B Rr gb a n c zs k w<|Ie zs k d s)
end
theorem AbA (t:Int)(h: 8<=t)(a:t<=24): 1<=T (Ds t).1/\T (Ds t).1<=2:=by rcases(Oa:t=8\/t=9\/t=10\/t=11\/t=12\/t=13\/t=14\/t=15\/t=16\/t=17\/t=18\/t=19\/t=20\/t=21\/t=22\/t=23\/t=24)with rfl|rfl|rfl|rfl|rfl|rfl|rfl|rfl|rfl|rfl|rfl|rfl|rfl|rfl|rfl|rfl|rfl<;>decide
theorem Fit.next {k m:Nat}{s a:Gs}{low:Nat}(h:Fit k d (m+1) s)(g:Grw (mI d) (2 ^ d) low s a):Fit k d m a:=by
 have b:=h.aK;have c:=h.aI;have h3:=h.st;have g1:=g.aK;have g2:=g.aI;have g3:=g.st;rw[Nat.add_mul,Nat.one_mul]at b c h3;exact⟨Oa,Oa,Oa,g.sl.trans h.sl⟩
def DpI (B R gb:Nat) (a:L3) (n c:Nat) (zs:L2) (wild:Bool) (p:Nat) (N:L6) (L:List<|K9×Int) (nd lt:jF) (t:Nat) (w:jB) (vx vi:jF) (wr:jB):Prop:=
 ∃ (j q:Nat) (M:L6) (nd':jF),1<=j/\j<=t/\vi=V X (j:Int)/\vx=V X (Fl M)/\Hid (DpX zs L j p N q M)/\T N<=T M/\T M<=T N+j/\Kj B R gb a n c zs wild q M L nd' lt wr/\Gk B R gb lt nd w nd' wr
theorem AeA {zs:L2}{L:List (K9×Int)}{p a:Nat}{N M b:L6}(c: 1<=j)(h:DpX zs L j p N q M)(hs:Snc q M (opN 9 [Fl M]) a b):DpX zs L (j+1) p N a b:=by
 obtain⟨rfl,rfl⟩:=hs;obtain⟨k,rfl⟩:∃k,j=k+1:=⟨j-1,Oa⟩
 exact⟨M,h,rfl⟩
theorem AeB {B R b:Nat}{a:L3}{n c:Nat}{zs:L2}{wild:Bool}{p:Nat}{N:L6}{L:List (K9×Int)}{nd lt:jF}{w:jB}(h:Kj B R b a n c zs wild p N L nd lt w)(hm:T N+80<=1000000)(m:T L<=100)(t:Nat)(o: 1<=t)(M:t<=70):
  Calls jZ 92 #[jP<|Q<|jA b 0 U,V X (t:Int)] w (GnA B R b a n c zs wild N 70 (DpX zs L t p N) L nd lt w):=by
 go_enter func92,ntmps92
 go_wp2_with fail
 refine(Kk h Oa m 1 Oa).mono ?_;rintro r q ⟨q1,i,s,rfl,u,a1,a2,v,x⟩;have y:=Ab<|show DpI B R b a n c zs wild p N L nd lt t w (V X<|Fl i) (V X 1) q from⟨1,q1,i,s,Oa,o,rfl,rfl,u,a1,a2,v,x⟩;go_wp2_with fail
 go_loopw [5,6] (λz d wr=>DpI B R b a n c zs wild p N L nd lt t w z d wr) (λ_ d _=>t-(intOf d).toNat)
 case atStart=>exact Aa y
 case round=>
  obtain⟨j,q2,f,A,C,O,rfl,rfl,k,b1,b2,S2,K2⟩:=hrel;by_cases D:j<t
  .have E:(j:Int)<(t:Int):=Oa;go_wp2_with fail
   refine(PB S2 Oa [Fl f] _ 1 rfl rfl Oa 9).mono ?_;rintro r F ⟨G,l,H,rfl,I,b3,b4,J,K⟩;have g:=Ab<|show DpI B R b a n c zs wild p N L nd lt t w (V X<|Fl l) (V X<|(j:Int)+1) F from⟨j+1,G,l,H,Oa,Oa,by rw[z9];rfl,rfl,Ab<|AeA C (Aa k)<|Aa I,Oa,Oa,J,K2.trans K⟩;go_wp2_with fail
   exact⟨Aa g,Aa<|Ab<|Aeu t j D⟩
  .have E: ¬ ((j:Int)<(t:Int)):=Oa;have g:=Ab<|show GnA B R b a n c zs wild N 70 (DpX zs L t p N) L nd lt w (.returned<|V X<|Fl f) wr from⟨q2,f,A,rfl,by rw[(Oa:t=j)];exact k,b1,Oa,S2,K2⟩;go_wp2
   go_ret
   exact Aa g
structure PgO (w:jB) (B pb:Nat) (S:L9) (sv:jF):Prop where
 row:Ag w pb #[Y U 0 0,sv] 106
 st:jO w B 113 4 sv (T S)<|EC S
 bL:∀s∈S,s.name.size<=1048576
theorem Gk.row {B R d:Nat}{a:L3}{n c:Nat}{zs:L2}{wild:Bool}{p:Nat}{N:L6}{L:List (K9×Int)}{nd lt g:jF}{w w':jB}(K:Gk B R d lt nd w g w')(S:Kj B R d a n c zs wild p N L nd lt w){b:Nat}{f:Array jF}{t:jV}(h:Ag w b f t)(i:t≠163)(j:t≠64)(h3:t≠170)(k:t≠167):Ag w' b f t:=by
 obtain⟨m,o,C⟩:=S;have l:=C.rd;exact⟨(K.block b h.lt (Bm h C.row i) (Bm h l.row j) (Ac h C.aQ.aN h3)<|Ac h C.aU k).trans h.out⟩
theorem Gk.aN {B R b:Nat}{a:L3}{n c:Nat}{zs:L2}{wild:Bool}{p:Nat}{N:L6}{L:List (K9×Int)}{nd lt f:jF}{w w':jB}(K:Gk B R b lt nd w f w')(S:Kj B R b a n c zs wild p N L nd lt w){base t size k:Nat}{v:jF}{d:L7}(h:jO w base t size v k d)(g: 163≠t)(i: 64≠t)(h3:t≠170)(j:t≠167):jO w' base t size v k d:=by
 obtain⟨m,o,C⟩:=S;have l:=C.rd;exact Ad h λq hq=>K.block q (h.lt q hq).2 (λe=>Ac C.row h g O9) (λe=>Ac l.row h i O9) (λe=>Al h C.aQ.aN h3 q hq e) λe=>Al h C.aU j q hq e
theorem PgO.gk {B R b:Nat}{a:L3}{n c:Nat}{zs:L2}{wild:Bool}{p:Nat}{N:L6}{L:List (K9×Int)}{nd lt g f:jF}{w:jB}{S:L9}(P:PgO w B g7 S f)(K:Gk B R b lt nd w g w')(G:Kj B R b a n c zs wild p N L nd lt w):PgO w' B g7 S f:=
 ⟨K.row G P.row Ob Ob Ob Ob,K.aN G P.st Ob Ob Ob Ob,P.bL⟩
theorem PgO.below {B a:Nat}{b:jF}{w:jB}{S:L9}(P:PgO w B a S b)(c:Ai w w'):PgO w' B a S b:=
 ⟨P.row.aA c NLN,Ad P.st λq hq=>c.block q (P.st.lt q hq).2,P.bL⟩
theorem Kj.dF {B R i:Nat}{a:L3}{n c:Nat}{zs:L2}{wild:Bool}{p:Nat}{N:L6}{L:List (K9×Int)}{nd lt:jF}{w:jB}(h:Kj B R i a n c zs wild p N L nd lt w)(x:Below B w w')(T:jV)(X:Nat->Prop)(H:∀q,X q->(∃l,Ag w q l T)\/∃base size k v m,jL v=Q q/\jO w base T size v k m)(y:T≠163)(z:T≠64)(h3:T≠170)(A:T≠167)(h5:T≠9)(D:T≠3)(g:∀q,q<Array.size (Z w)->¬ X q->(Z w')[q]? =(Z w)[q]?):Kj B R i a n c zs wild p N L nd lt w':=by
 obtain⟨E,F,C⟩:=h;have f:=C.rd;have s:∀{b:Nat} {l:Array jF} {t:jV},Ag w b l t->T≠t->¬ X b:=λr G hx=>by grind [Ac,Bm]
 have no:∀{base t size k:Nat} {v:jF} {m:L7},jO w base t size v k m->T≠t->∀q,jL v=Q q->¬ X q:=λo G q hq hx=>by grind [Ac,Al]
 refine⟨E,F,⟨⟨(g i C.row.lt<|s C.row y).trans C.row.out⟩,⟨⟨(g R f.row.lt<|s f.row z).trans f.row.out⟩,f.len,f.le,f.aJ,λj d=>?_⟩,C.aQ.cF (λq hq=>g q (C.aQ.bW.1 q hq).2<|no C.aQ.aN h3 q hq) (λj d q hq=>g q (C.aQ.bW.2.1 j d q hq).2<|no (C.aQ.aB j (by rw[<-C.aQ.len];exact d) d) h5 q hq) λj d q hq=>g q (C.aQ.bW.2.2 j d q hq).2<|no (C.aQ.aD j (by rw[<-C.aQ.bY];exact d) d) D q hq,Ad C.aU λq hq=>g q (C.aU.lt q hq).2<|no C.aU A q hq,C.low,C.bL⟩⟩;obtain⟨b,u,e1,e2,e3,e4⟩:=f.cells j d;exact⟨b,u,e1,e2,(x.cell (p:=⟨b,u+j,U⟩)<|show b<B from C.low.2 Oa _ e1).trans e3,e4⟩
theorem SW.cM {k g:jB}{B R f:Nat}{a:L3}{n c:Nat}{zs:L2}{p:Nat}{N:L6}{L:List (K9×Int)}{nd lt:jF}{m r:L7}{wild:Bool}(C:SW k B R f a n c zs p N L nd lt m r wild)(o:Obj)(x:K9×Int)(hx:x.1.size<=1000)(t:B<=Array.size (Z k))
  (hg:(jK k o).grownBy g<|jL lt)(z:jO g B 167 2 (Y (Q<|jA g7 0 U) (T L+1) c7) (T L+1)<|SV L++[jC x.1,V X x.2]):
  SW (jJ g (jA f 2 U)<|Y (Q<|jA g7 0 U) (T L+1) c7) B R f a n c zs p N (L++[x]) nd (Y (Q<|jA g7 0 U) (T L+1) c7) m r wild:=by
 have u:=AE k o;have n1:jL lt≠Q f:=Ac C.row C.aU Ob;have l:Ag g f #[jP<|Q<|jA R 0 U,nd,lt,.bool wild] 163:=⟨(BL hg f C.row.lt n1).trans C.row.out⟩
 have sc:∀q,q≠f->(Z<|jJ g (jA f 2 U)<|Y (Q<|jA g7 0 U) (T L+1) c7)[q]? =(Z g)[q]? :=λq hq=>K0 g (jA f 2 U) q _ hq;have h:=C.rd;have v:R≠f:=Bm h.row C.row Ob;have w:Below B k<|jJ g (jA f 2 U)<|Y (Q<|jA g7 0 U) (T L+1) c7:=((u.mono t).grown hg O0 λq hq=>(C.aU.lt q hq).1).setCell (p:=(jA f 2 U)) C.low.1.1 _;have i:Cv g B nd N m r:=C.aQ.cF (λq hq=>BL hg q (C.aQ.bW.1 q hq).2 λe=>Al C.aU C.aQ.aN Ob q e hq) (λj d q hq=>BL hg q (C.aQ.bW.2.1 j d q hq).2 λe=>Al C.aU (C.aQ.aB j (by rw[<-C.aQ.len];exact d) d) Ob q e hq) λj d q hq=>BL hg q (C.aQ.bW.2.2 j d q hq).2 λe=>Al C.aU (C.aQ.aD j (by rw[<-C.aQ.bY];exact d) d) Ob q e hq;refine⟨l.set 2 _,⟨⟨((sc R v).trans<|BL hg R h.row.lt<|Ac h.row C.aU Ob).trans h.row.out⟩,h.len,h.le,h.aJ,λj d=>?_⟩,i.cF (λq hq=>sc q λe=>Ac l i.aN Ob O9) (λj d q hq=>sc q λe=>Ac l (i.aB j (by rw[<-i.len];exact d) d) Ob O9) λj d q hq=>sc q λe=>Ac l (i.aD j (by rw[<-i.bY];exact d) d) Ob O9,?_,C.low,⟨C.bL.1,λy hy=>?_⟩⟩
 .obtain⟨b,s,e1,e2,e3,e4⟩:=h.cells j d;exact⟨b,s,e1,e2,(w.cell (p:=⟨b,s+j,U⟩)<|show b<B from C.low.2 Oa _ e1).trans e3,e4⟩
 all_goals grind [Aca,Ac,Ad,SW.bL]
theorem AeD:(jZ.info? 113).map (λi=>(i.zero,i.size,i.bytes))=Q (Q<|.agg #[V X 0,jC ByteArray.empty,V X 0,V X 0],4,40):=Oy
theorem AeE:(jZ.info? 167).map (λi=>(i.zero,i.size,i.bytes))=Q (Q<|.agg #[jC ByteArray.empty,V X 0],2,24):=Oy
theorem Zq (L:L9)(s:St):EC (L++[s])=EC L++[V X s.aC,jC s.name,V X s.cond,V X s.aG]:=by simp[EC]
def okR (t:jV):Prop:=t≠163/\t≠170/\t≠167/\t≠113/\t≠106
structure GD (B Rr:Nat) (w w':jB):Prop where
 low:Below B w w'
 rd:∀k cs t,okR t->k≠Rr->Ag w k cs t->Ag w' k cs t
theorem GD.aM {B:Nat}{w w2:jB}(h:GD B d w w')(b:Below B w' w2)(c:∀k a t,okR t->Ag w' k a t->(Z w2)[k]? =(Z w')[k]?):GD B d w w2:=
 ⟨h.low.trans b,λk a t ht n r=>⟨(c k a t ht<|h.rd k a t ht n r).trans (h.rd k a t ht n r).out⟩⟩
theorem GD.below {B:Nat}{w w2:jB}(h:GD B d w w')(a:Ai w' w2)(b:B<=Array.size (Z w')):GD B d w w2:=by grind [GD.aM,Go.RowKit.Below.mono,Go.RowKit.Below.block,Ag.lt]
theorem GD.gk {B:Nat}{a:L3}{n c:Nat}{zs:L2}{wild:Bool}{p:Nat}{N:L6}{L:List (K9×Int)}{nd lt Rr:jF}{w w2:jB}(h:GD B d w w')(K:Gk B d q lt nd w' Rr w2)(G:Kj B d q a n c zs wild p N L nd lt w'):GD B d w w2:=by
 obtain⟨g,i,C⟩:=G;exact⟨h.low.trans K.low,λk f t ht n r=>by
  have b:=h.rd k f t ht n r;exact⟨(K.block k b.lt (Bm b C.row ht.1) n (Ac b C.aQ.aN ht.2.1)<|Ac b C.aU ht.2.2.1).trans b.out⟩⟩
structure PC (B Rr gb pb b0 sb:Nat) (a:L3) (n c:Nat) (zs:L2) (wild:Bool) (p:Nat) (N:L6) (L:List (K9×Int)) (nd lt:jF) (S:L9) (sv v0 v1 v2 v3:jF) (w w':jB):Prop where
 G:Kj B Rr gb a n c zs wild p N L nd lt w'
 P:PgO w' B pb S sv
 Zz:Ag w' b0 #[Y U 0 0,Y U 0 0] 106
 s:Ag w' sb #[v0,v1,v2,v3] 113
 cP:GD B Rr w w'
 bF:jL sv≠Q sb/\B<=sb/\B<=pb/\b0≠pb
section
variable{B Rr gb pb b0 sb:Nat}{a:L3}{n c:Nat}{zs:L2}{wild:Bool}{p:Nat}{N:L6}{L:List (K9×Int)}{nd lt:jF}{S:L9}{sv v0 v1 v2 v3:jF}{w w1 w2:jB}
theorem PC.below (h:PC B Rr gb pb b0 sb a n c zs wild p N L nd lt S sv v0 v1 v2 v3 w w1)(b:Ai w1 w2):PC B Rr gb pb b0 sb a n c zs wild p N L nd lt S sv v0 v1 v2 v3 w w2:=
 ⟨h.G.below b,h.P.below b,h.Zz.aA b NLN,h.s.aA b NLN,h.cP.below b h.G.lt.1.1,h.bF⟩
theorem PC.gk {q:Nat}{M:L6}{b:jF}(h:PC B Rr gb pb b0 sb a n c zs wild p N L nd lt S sv v0 v1 v2 v3 w w1)(G:Kj B Rr gb a n c zs wild q M L b lt w2)(K:Gk B Rr gb lt nd w1 b w2):PC B Rr gb pb b0 sb a n c zs wild q M L b lt S sv v0 v1 v2 v3 w w2:=
 ⟨G,h.P.gk K h.G,K.row h.G h.Zz Ob Ob Ob Ob,K.row h.G h.s Ob Ob Ob Ob,h.cP.gk K h.G,h.bF⟩
theorem PC.aR {q:Nat}(h:PC B Rr gb pb b0 sb a n c zs wild p N L nd lt S sv v0 v1 v2 v3 w w1)(t:AU Rr (Rr+1) w1 w2)(b:JU w2 Rr a n c zs q):PC B Rr gb pb b0 sb a n c zs wild q N L nd lt S sv v0 v1 v2 v3 w w2:=
 h.gk (h.G.aR t b) (Gk.bO t h.G.lt.2.1.2 h.G.lt.1.2.2)
theorem PC.set {b d f g:jF}(h:PC B Rr gb pb b0 sb a n c zs wild p N L nd lt S sv v0 v1 v2 v3 w w1)(j:Nat)(u:jF)(hu: #[v0,v1,v2,v3].setIfInBounds j u= #[b,d,f,g]):PC B Rr gb pb b0 sb a n c zs wild p N L nd lt S sv b d f g w<|jJ w1 (jA sb j U) u:=by
 have hs:∀q,q≠sb->(Z<|jJ w1 (jA sb j U) u)[q]? =(Z w1)[q]? :=λq hq=>K0 w1 (jA sb j U) q u hq;have i:Below B w1<|jJ w1 (jA sb j U) u:=(Below.refl B w1).setCell (p:=(jA sb j U)) h.bF.2.1 u;refine⟨h.G.dF i 113 (λq=>q=sb) (λq hq=> .inl ⟨#[v0,v1,v2,v3],by rw[hq];exact h.s⟩) Ob Ob Ob Ob Ob Ob λq _ hq=>hs q hq,⟨⟨(hs pb<|Bm h.P.row h.s Ob).trans h.P.row.out⟩,Ad h.P.st λq hq=>hs q λe=>h.bF.1 O9,h.P.bL⟩,⟨(hs b0<|Bm h.Zz h.s Ob).trans h.Zz.out⟩,by have:=h.s.set j u;rw[hu]at this;exact this,h.cP.aM i λk l t ht r=>hs k<|Bm r h.s ht.2.2.2.1,h.bF⟩
theorem PC.cells (h:PC B Rr gb pb b0 sb a n c zs wild p N L nd lt S sv v0 v1 v2 v3 w w1):(jI w1 (jA sb 0 U)=Q v0/\jI w1 (jA sb 1 U)=Q v1/\jI w1 (jA sb 2 U)=Q v2/\jI w1 (jA sb 3 U)=Q v3)/\(∀j,jY w1 (jA sb j U)=jE)/\(jI w1 (jA gb 1 U)=Q nd/\jI w1 (jA gb 2 U)=Q lt/\∀j,jY w1 (jA gb j U)=jE)/\(jI w1 (jA pb 0 U)=Q (Y U 0 0)/\jI w1 (jA pb 1 U)=Q sv/\∀j,jY w1 (jA pb j U)=jE):=by
 obtain⟨b,d,C⟩:=h.G;exact⟨⟨h.s.cell 0,h.s.cell 1,h.s.cell 2,h.s.cell 3⟩,λj=>h.s.frozen j,⟨C.row.cell 1,C.row.cell 2,λj=>C.row.frozen j⟩,h.P.row.cell 0,h.P.row.cell 1,λj=>h.P.row.frozen j⟩
theorem PC.pushS {d f:Int}{g7 c7:Nat}(h:PC B Rr gb pb b0 sb a n c zs wild p N L nd lt S sv v0 v1 v2 v3 w w1)(o:Obj)(z:nm.size<=1048576)(hg:(jK w1 o).grownBy b<|jL sv)(A:jO b B 113 4 (Y (Q<|jA g7 0 U) (T S+1) c7) (T S+1)<|EC S++[V X d,jC nm,V X cd,V X f]):
  Kj B Rr gb a n c zs wild p N L nd lt (jJ b (jA pb 1 U)<|Y (Q<|jA g7 0 U) (T S+1) c7)/\PgO (jJ b (jA pb 1 U)<|Y (Q<|jA g7 0 U) (T S+1) c7) B pb (S++[⟨d,nm,cd,f⟩]) (Y (Q<|jA g7 0 U) (T S+1) c7)/\Ag (jJ b (jA pb 1 U)<|Y (Q<|jA g7 0 U) (T S+1) c7) b0 #[Y U 0 0,Y U 0 0] 106/\GD B Rr w (jJ b (jA pb 1 U)<|Y (Q<|jA g7 0 U) (T S+1) c7):=by
 have l:=h.G.lt.1.1;have m:=(Below.refl B w1).alloc l o;have g:Below B w1 b:=m.grown hg O0 λq hq=>(h.P.st.lt q hq).1;have gk:=BL hg;have u:=h.G.dF g 113 (λq=>jL sv=Q q) (λq hq=> .inr ⟨_,_,_,_,_,hq,h.P.st⟩) Ob Ob Ob Ob Ob Ob λq v x=>gk q v x;have i:Ag b pb #[Y U 0 0,sv] 106:=⟨(gk pb h.P.row.lt<|Ac h.P.row h.P.st Ob).trans h.P.row.out⟩
 have y:Ag b b0 #[Y U 0 0,Y U 0 0] 106:=⟨(gk b0 h.Zz.lt<|Ac h.Zz h.P.st Ob).trans h.Zz.out⟩
 have sc:∀q,q≠pb->(Z<|jJ b (jA pb 1 U)<|Y (Q<|jA g7 0 U) (T S+1) c7)[q]? =(Z b)[q]? :=λq hq=>K0 b (jA pb 1 U) q _ hq;have j:Below B b<|jJ b (jA pb 1 U)<|Y (Q<|jA g7 0 U) (T S+1) c7:=(Below.refl B b).setCell (p:=(jA pb 1 U)) h.bF.2.2.1 _;refine⟨u.dF j 106 (λq=>q=pb) (λq hq=> .inl ⟨#[Y U 0 0,sv],by rw[hq];exact i⟩) Ob Ob Ob Ob Ob Ob λq _ hq=>sc q hq,⟨i.set 1 _,?_,λs hs=>?_⟩,⟨(sc b0 h.bF.2.2.2).trans y.out⟩,h.cP.aM (g.trans j) λk C t ht r=>(sc k<|Bm r h.P.row ht.2.2.2.2).trans<|gk k r.lt<|Ac r h.P.st ht.2.2.2.1⟩
 .grind [Ac,Ad,Zq]
 .obtain hs|hs:=zO.1 hs
  .exact h.P.bL s hs
  grind
theorem PC.cM {d:jB}{g7 c7:Nat}(h:PC B Rr gb pb b0 sb a n c zs wild p N L nd lt S sv v0 v1 v2 v3 w w1)(o:Obj)(x:K9×Int)(hx:x.1.size<=1000)(hg:(jK w1 o).grownBy d<|jL lt)(j:jO d B 167 2 (Y (Q<|jA g7 0 U) (T L+1) c7) (T L+1)<|SV L++[jC x.1,V X x.2]):
  PC B Rr gb pb b0 sb a n c zs wild p N (L++[x]) nd (Y (Q<|jA g7 0 U) (T L+1) c7) S sv v0 v1 v2 v3 w (jJ d (jA gb 2 U)<|Y (Q<|jA g7 0 U) (T L+1) c7):=by
 have i:=h.G.lt.1.1;have l:=h.G.lt.2.1.1;obtain⟨m,u,C⟩:=h.G;have v:=(Below.refl B w1).alloc i o;have y:Below B w1 d:=v.grown hg O0 λq hq=>(C.aU.lt q hq).1;have gk:=BL hg;have sc:∀q,q≠gb->(Z<|jJ d (jA gb 2 U)<|Y (Q<|jA g7 0 U) (T L+1) c7)[q]? =(Z d)[q]? :=λq hq=>K0 d (jA gb 2 U) q _ hq;have f:∀{b:Nat} {g:Array jF} {t:jV},Ag w1 b g t->t≠163->t≠167->Ag (jJ d (jA gb 2 U)<|Y (Q<|jA g7 0 U) (T L+1) c7) b g t:=λr z A=>⟨((sc _<|Bm r C.row z).trans<|gk _ r.lt<|Ac r C.aU A).trans r.out⟩
 have D:Below B d<|jJ d (jA gb 2 U)<|Y (Q<|jA g7 0 U) (T L+1) c7:=(Below.refl B d).setCell (p:=(jA gb 2 U)) l _;exact⟨⟨m,u,C.cM o x hx i hg j⟩,⟨f h.P.row Ob Ob,Ad h.P.st λq hq=>(sc q λe=>Ac C.row h.P.st Ob O9).trans<|gk q (h.P.st.lt q hq).2 λe=>Al h.P.st C.aU Ob q hq e,h.P.bL⟩,f h.Zz Ob Ob,f h.s Ob Ob,h.cP.aM (y.trans D) λk g t ht r=>(sc k<|Bm r C.row ht.1).trans<|gk k r.lt<|Ac r C.aU ht.2.2.1,h.bF⟩
end
def LR (X:jB) (pb b0:Nat) (nd V:jF):jB:=((X.setCell (jA pb 0 U) nd).setCell (jA b0 0 U) nd).setCell (jA b0 1 U) V
theorem Ahe {X w:jB}{B gb:Nat}{a:L3}{n c:Nat}{zs:L2}{p:Nat}{N:L6}{L:List (K9×Int)}{nd lt V l m:jF}{g h:L7}{wild:Bool}{S:L9}(C:SW X B d gb a n c zs p N L nd lt g h wild)(P:PgO X B g7 S V)(f:Ag X c7 #[l,m] 106)(E:Below B w X)(r:B<=g7)(h0:B<=c7):Ag (LR X g7 c7 nd V) c7 #[nd,V] 106/\Cv (LR X g7 c7 nd V) B nd N g h/\(LR X g7 c7 nd V).ownsRow B 113 4 V (T S) (EC S)/\Below B w (LR X g7 c7 nd V):=by
 have sc:∀q,q≠g7->q≠c7->(LR X g7 c7 nd V).heap[q]? =X.heap[q]? :=λq u x=>by grind [LR,Go.heap_setCell_other]
 have Rr:∀{t size k:Nat} {v:jF} {s:L7},X.ownsRow B t size v k s->106≠t->∀q,jL v=Q q->(LR X g7 c7 nd V).heap[q]? =X.heap[q]? :=λo i q hq=>sc q (λe=>Ac P.row o i O9) λe=>Ac f o i O9;refine⟨?_,C.aQ.cF (λq hq=>Rr C.aQ.aN Ob q hq) (λj b q hq=>Rr (C.aQ.aB j (by rw[<-C.aQ.len];exact b) b) Ob q hq) λj b q hq=>Rr (C.aQ.aD j (by rw[<-C.aQ.bY];exact b) b) Ob q hq,Ad P.st λq hq=>Rr P.st Ob q hq,((E.setCell (p:=(jA g7 0 U)) r nd).setCell (p:=(jA c7 0 U)) h0 nd).setCell (p:=(jA c7 1 U)) h0 V⟩;unfold LR;by_cases e:c7=g7
 .subst e;have:=((f.set 0 nd).set 0 nd).set 1 V;exact this
 .have:=((f.aF (p:=(jA g7 0 U)) e nd).set 0 nd).set 1 V;exact this
theorem Xe {X w:jB}{B gb:Nat}{a:L3}{n c:Nat}{zs:L2}{p:Nat}{N:L6}{L:List (K9×Int)}{nd lt V j l:jF}{b Rr:L7}{wild:Bool}{S:L9}(C:SW X B d gb a n c zs p N L nd lt b Rr wild)(P:PgO X B g7 S V)(f:Ag X c7 #[j,l] 106)(E:GD B d w X)(g:B<=g7)(h0:B<=c7):Ag (LR X g7 c7 nd V) c7 #[nd,V] 106/\Cv (LR X g7 c7 nd V) B nd N b Rr/\(LR X g7 c7 nd V).ownsRow B 113 4 V (T S) (EC S)/\GD B d w (LR X g7 c7 nd V):=by
 obtain⟨h,i,h3,-⟩:=Ahe C P f E.low g h0;have sc:∀q,q≠g7->q≠c7->(LR X g7 c7 nd V).heap[q]? =X.heap[q]? :=λq h i=>by grind [LR,Go.heap_setCell_other]
 have m:Below B X<|LR X g7 c7 nd V:=(((Below.refl B X).setCell (p:=(jA g7 0 U)) g nd).setCell (p:=(jA c7 0 U)) h0 nd).setCell (p:=(jA c7 1 U)) h0 V;exact⟨h,i,h3,E.aM m λk o t ht r=>sc k (Bm r P.row ht.2.2.2.2)<|Bm r f ht.2.2.2.2⟩
theorem AeG {c:Func}{a:Tmp}(h:c.results= #[.cell a 106]){tmps:Array jF}{w:jB}{b:Nat}{v0 v1:jF}(d:tmps.getD a undef=jP (Q<|jA b 0 U))
  (Rr:Ag w b #[v0,v1] 106):(results c tmps).run jZ w= .ok (.agg #[v0,v1]) w:=by
 rw[Array.getD_eq_getD_getElem?]at d;have g0:jI w (jA b 0 U)=Q v0:=Rr.cell 0;have g1:jI w (jA b 1 U)=Q v1:=Rr.cell 1;simp[results,h,d,go_sem,g0,g1]
theorem IZ {f:Int->Rs}(h:∀a,o= .ok a->inX (f a)):inX<|o.bind f:=by
 cases o with
 |error e=>intro a k;cases k
 |ok a=>exact h a rfl
theorem Qv {K:M8}(h:∀d∈K,1<=d.cS/\d.cS<=4):∀(e:Ex),inX (Bz K e)
 |.int ..,a,k=>Hm
 |.text ..,a,k=>Hm
 |.bool ..,a,k=>Hm
 |.set ..,a,k=>Hm
 |.name i s,a,k=>Qu (f:=(7,i)) (o:=(J8 K s).map Dc.cS) (λb e=>by
   cases j:J8 K s with
   |none=>rw[j]at e;cases e
   |some d=>rw[j]at e;cases e;exact h d (AgT j).1) a k
 |.attr _ n,a,k=>by cases k;exact Qw n
 |.lett i n,a,k=>Qu (f:=(7,i)) (o:=ltT K n) (λb e=>by
   unfold ltT at e;split at e
   .obtain⟨d,hd,rfl⟩:=Option.map_eq_some_iff.1 e;exact h d<|List.mem_of_mem_drop<|zn hd
   .cases e) a k
 |.un i op e,a,k=>IZ (λb _=>Qu<|Wt op b) a k
 |.bin i op e f,a,k=>IZ (λb _=>IZ λc _=>Qu<|Wu op b c) a k
 |.ite i e f g,a,k=>IZ (λb _=>IZ λc hc=>IZ λd _=>Qu<|Wv b c d<|Qv h f c hc) a k
def Ju:M8:= [⟨⟨#[99,108,105,101,110,116]⟩,jE,0,3⟩,⟨⟨#[117,115,101,114]⟩,jE,1,3⟩,⟨⟨#[108,101,118,101,108]⟩,jE,2,2⟩,⟨⟨#[110,111,119]⟩,jE,3,2⟩,⟨⟨#[97,115,107,101,100]⟩,jE,4,4⟩,⟨⟨#[97,103,114,101,101,100]⟩,jE,5,4⟩]
abbrev Cs:=M8×L2×L2
def Ad3 (D:M8) (ts tt:L2) (nm:K9) (i:Int) (ot:Rs) (ys:L2):Except (Int×Int) Cs:=match ot with
 |.ok t=>if (J8 D nm).isSome then .error (8,i)else .ok (D++[⟨nm,jD,T ts,t⟩],ts++[t],tt++ys)
 |.error f=> .error f
def JP (c:Int) (D:M8) (ts tt:L2) (i:Int) (ot:Rs) (ys:L2):Except (Int×Int) Cs:=match ot with
 |.ok t=>if t=c then .ok (D,ts,tt++ys)else .error (9,i)
 |.error f=> .error f
def FM (kd:Int) (nm:K9) (st:Cs) (i:Int) (ot:Rs) (ys:L2):Except (Int×Int) Cs:=
 if kd=1 then Ad3 st.1 st.2.1 st.2.2 nm i ot ys else JP 1 st.1 st.2.1 st.2.2 i ot ys
def OD (st:Cs) (x:Sx):Except (Int×Int) Cs:=match x.cond with
 |none=> .ok st
 |some e=>FM x.aC x.name st e.pos (Bz st.1 e)<|DE st.1 e
def IF (st:Cs) (x:Sx):Except (Int×Int) Cs:=match x.aG with
 |none=> .ok st
 |some e=>JP 4 st.1 st.2.1 st.2.2 e.pos (Bz st.1 e)<|DE st.1 e
def Aij (st:Cs) (x:Sx):Except (Int×Int) Cs:=(OD st x).bind λs=>IF s x
def Y4:Cs->M0->Except (Int×Int) Cs
 |st,[]=> .ok st
 |st,x ::S=>(Aij st x).bind λs=>Y4 s S
def Wst (st:Cs):Prop:=∀d∈st.1,1<=d.cS/\d.cS<=4
theorem UR {a:M8}{b:Rs}{c:Cs}(h:Ad3 a ts tt nm i b ys= .ok c):∃t,b= .ok t/\J8 a nm=U/\c=(a++[⟨nm,jD,T ts,t⟩],ts++[t],tt++ys):=by
 cases b with
 |error f=>cases h
 |ok t=>
   simp only[Ad3]at h;split at h
   all_goals simp_all
theorem I6 {c:Int}{b:M8}{i:Int}{a:Rs}{d:Cs}(h:JP c b ts tt i a ys= .ok d):a= .ok c/\d=(b,ts,tt++ys):=by cases a<;>grind [JP]
theorem AbW {st a:Cs}(h:OD st x= .ok a):T a.2.2=T st.2.2+BK x.cond/\T a.2.1<=T st.2.1+1/\(Wst st->Wst a):=by
 obtain⟨j,i,nm,f,k⟩:=x;cases f with
 |none=>cases h;exact⟨rfl,zU _,id⟩
 |some e=>
   simp only[OD,FM]at h;have b:=Ms st.1 e;split at h
   .obtain⟨t,g,_,rfl⟩:=UR h;refine⟨by simp[b,BK],Ox,λc d hd=>?_⟩;obtain hd|hd:=zO.1 hd
    .exact c d hd
    .simp at hd;subst hd;exact Qv c e t g
   .obtain⟨_,rfl⟩:=I6 h;exact⟨by simp[b,BK],zU _,id⟩
theorem Y5 {st a:Cs}(h:IF st x= .ok a):T a.2.2=T st.2.2+BK x.aG/\a.2.1=st.2.1/\a.1=st.1:=by
 obtain⟨j,c,nm,d,b⟩:=x;cases b with
 |none=>cases h;exact⟨rfl,rfl,rfl⟩
 |some e=>
   simp only[IF]at h;have f:=Ms st.1 e;obtain⟨_,rfl⟩:=I6 h
   grind [BK]
theorem Ww:∀{L:M0} {st a:Cs},Y4 st L= .ok a->T a.2.2=T st.2.2+Di L/\T a.2.1<=T st.2.1+T L/\(Wst st->Wst a)
 |[],st,a,h=>by cases h;exact⟨by simp[Di],Ox,id⟩
 |x ::L,st,a,h=>by
  rw[Y4,Aij]at h;cases b:OD st x with
  |error f=>rw[b]at h;cases h
  |ok s1=>
    rw[b]at h
    change ((IF s1 x).bind λa=>Y4 a L)= .ok a at h
    cases c:IF s1 x with
    |error f=>rw[c]at h;cases h
    |ok s2=>
      rw[c]at h;obtain⟨a1,a2,a3⟩:=AbW b;obtain⟨b1,b2,b3⟩:=Y5 c;obtain⟨c1,c2,c3⟩:=Ww<|show Y4 s2 L= .ok a from h
      grind [Wst,Ci]
def BU (Es:L8) (k:Int):M3:=if k= -1 then U else Es[k.toNat]?
def OE (Es:L8):Nat->L9->M0
 |_,[]=> []
 |i,s ::L=>⟨i,s.aC,s.name,BU Es s.cond,BU Es s.aG⟩ ::OE Es (i+1) L
theorem Aay (Es:L8):∀(L:L9) (i:Nat),T (OE Es i L)=T L:=by intro L;induction L<;>intros<;>grind [OE]
theorem Aaz (Es:L8)(k:Int):BK (BU Es k)=Bv Es k:=by
 unfold BU Bv;split
 .rfl
 .cases Es[k.toNat]?<;>rfl
theorem US (Es:L8):∀(L:L9) (i:Nat),Di (OE Es i L)=DJ Es L
 |[],i=>rfl
 |s ::L,i=>by
  rw[OE,Ci,US Es L<|i+1,Aaz,Aaz];simp[DJ]
theorem AgU  :∀{L:L9} {i:Nat} {x:Sx},x∈OE Es i L->∃s∈L,x.cond=BU Es s.cond/\x.aG=BU Es s.aG/\x.aC=s.aC/\x.name=s.name:=by intro L;induction L<;>intros<;>grind [OE]
set_option linter.unusedSimpArgs false
def GM (N:L6) (L:L9):Bool:=decide (T N<=4000)&&(decide (1<=T L/\T L<=600)&&EG L)&&N.all Bq&&GN N L
structure Aee (N:L6) (L:L9):Prop where
 n:T N<=4000
 m0: 1<=T L
 m:T L<=600
 bK:∀x∈N,Bq x=jD
 aD:∀(i:Nat) (x:Nd),N[i]? =Q x->∀k∈x.aD,0<=k/\k<(i:Int)
 dJ:∀s∈L,(s.cond= -1\/(0<=s.cond/\s.cond<T N))/\(s.aG= -1\/(0<=s.aG/\s.aG<T N))
 stm:∀s∈L,(s.aC=1/\s.name.size<=32/\0<=s.cond/\s.aG= -1)\/(s.aC=2/\0<=s.cond)\/(s.aC=3/\s.cond= -1)
 aL:∀(Es:L8),T Es=T N->(∀j,(h:j<T Es)->AZ N j Es[j])->∀s∈L,∀k,(k=s.cond\/k=s.aG)->0<=k->∀e,Es[k.toNat]? =Q e->e.aL<=4000
theorem QF {N:L6}{L:L9}(h:GM N L=jD):Aee N L:=by
 simp only[GM,zF,zG]at h;obtain⟨⟨⟨l,⟨o,h3⟩,v⟩,h5⟩,d⟩:=h;obtain⟨S,w,ht⟩:∃S,Fk (N.map Nd.aD) (T N) [] 0=Q S/\Au S=L.flatMap Ao:=by
  rw[GN]at d;cases hq:Fk (N.map Nd.aD) (T N) [] 0 with
  |none=>rw[hq]at d;cases d
  |some S=>rw[hq]at d;exact⟨S,rfl,K8 d⟩
 obtain⟨hF,_⟩:=CZ (T N) (.nil 0) (λp a=>(by cases a)) w;rw[zY]at hF;have r:∀s∈L,∀k∈Ao s,∃p∈S,k=(p.1:Int):=λs hs k b=>by
  have:k∈Au S:=by rw[ht];exact List.mem_flatMap.2 ⟨s,hs,b⟩
  rw[Au]at this;obtain⟨p,a,rfl⟩:=zc.1 this;exact⟨p,a,rfl⟩
 have f:∀s∈L,∀k∈Ao s,0<=k/\k<T N:=λs hs k b=>by
  obtain⟨p,a,rfl⟩:=r s hs k b;have:=(hF.lt p a).2;omega
 have ac:∀s∈L,s.aC≠3->s.cond∈Ao s:=λs _ h=>by rw[Ao,H8 h];simp
 have t:∀s∈L,s.aG≠-1->s.aG∈Ao s:=λs _ h=>by rw[Ao,H8 h];simp
 have y:=QR v;have stm:∀s∈L,(s.aC=1/\s.name.size<=32/\0<=s.cond/\s.aG= -1)\/(s.aC=2/\0<=s.cond)\/(s.aC=3/\s.cond= -1):=λs hs=>by
  have h:=y s hs;rw[Kh]at h;by_cases m:s.aC=1
  .rw[H8 m]at h;simp only[zF,zG]at h;exact .inl ⟨m,Ki h.1,(f s hs _<|ac s hs Oa).1,h.2⟩
  rw[H7 m]at h;by_cases u:s.aC=2
  .exact .inr (.inl ⟨u,(f s hs _<|ac s hs Oa).1⟩)
  rw[H7 u]at h;by_cases c:s.aC=3
  .rw[H8 c]at h;simp only[zF,zG]at h;exact .inr<|.inr ⟨c,h.2⟩
  .rw[H7 c]at h;cases h
 refine⟨l,o,h3,λx hx=>zq.1 h5 x hx,λi x hx k b=>?_,λs hs=>⟨?_,?_⟩,stm,λEs z A s hs k b h0 e he=>?_⟩
 .have hi:i<T N:=(zP.1 hx).1;obtain⟨B,e1,e2⟩:=OO hF i (zE _) hi;rw[zr,hx]at e1;have e3:x.aD=Au B:=K7 e1;rw[e3,Au]at b;obtain⟨p,a,rfl⟩:=zc.1 b;have:=e2 p a;omega
 .by_cases c:s.aC=3
  .obtain h|h|h:=stm s hs
   .omega
   .omega
   .exact .inl h.2
  .exact .inr (f s hs _<|ac s hs c)
 .by_cases g:s.aG= -1
  .exact .inl g
  .exact .inr (f s hs _<|t s hs g)
 .have C:k∈Ao s:=by
   obtain rfl|rfl:=b
   .apply ac s hs;intro c;obtain h|h|h:=stm s hs<;>omega
   .exact t s hs Oa
  obtain⟨p,a,rfl⟩:=r s hs k C;have n:∀q∈S,q.1<T Es:=λq hq=>by rw[z];exact(hF.lt q hq).2
  have D:=Jw hF (S.attach.map λq=>Es[q.1.1]'(n q.1 q.2)) Ox (λj l o=>by
   have:=A (S[j]).1<|n _<|zI l;simpa using this)
  rw[zS]at he;have hm:e∈S.attach.map (λq=>Es[q.1.1]'(n q.1 q.2)):=by
   refine zc.2 ⟨⟨p,a⟩,List.mem_attach _ _,?_⟩;exact(zP.1 he).2
  have:=Aep hm;omega
theorem J9 (Es:L8):∀(L:L9),(∀s∈L,Bv Es s.cond+Bv Es s.aG=((Ao s).map<|Bv Es).sum)->DJ Es L=((L.flatMap Ao).map<|Bv Es).sum:=by intro L;induction L<;>intros<;>simp_all[DJ,Bv]
set_option maxRecDepth 100000
set_option maxHeartbeats 3200000
def Jj (F:Int->Nat) (ks:L2):Nat:=ks.foldl (λd k=>max d<|F k) 0
theorem ZU (F:Int->Nat)(a:L2)(k:Int):Jj F (a++[k])=max (Jj F a) (F k):=by rw[Jj,List.foldl_append];rfl
theorem AfT {F:Int->Nat}{M:Nat}(h:∀k,F k<=M):∀(a:L2) (d:Nat),d<=M->a.foldl (λd k=>max d<|F k) d<=M:=by intro a;induction a<;>intros<;>grind
theorem Un (K:List L2):∀(n:Nat) (t:Int),Cn K n t<=n+1:=by intro n;induction n<;>intros<;>simp_all[Cn,AfT]
theorem Db (a:L3)(n c:Nat)(N:L6)(w0:jB)(C:IN w0 a n c N)(I:∀t,(h:t<T N)->∀y∈N[t].aD,0<=y/\y<(t:Int)):
  ∀(fuel t:Nat) (w:jB),fuel<=4001->t<n->t<fuel->Ai w0 w->
  Calls jZ 125 #[Y a n c,V X t] w λe w'=>e= .returned (V X<|Cn (N.map Nd.aD) fuel (t:Int))/\Ai w w':=by
 have J:=Ab C.len;have K:=Ab I;intro fuel
 induction fuel with
 |zero=>intro t w _ _ h;omega
 |succ fuel r=>
  intro t w ah L ai u;have v:t<T N:=by rw[Aa J];exact L
  have aj:(t:Int)<(n:Int):=Oa;have D:=Aa K t v;have M:=Ab (show Cn (N.map Nd.aD) (fuel+1) (t:Int)=Jj (Cn (N.map Nd.aD) fuel) N[t].aD+1 by
   rw[Cn];dsimp only;rw[zS,zj,zr,zM v];rfl)
  have E:=Ab<|Un (N.map Nd.aD) fuel;obtain⟨b,O,rfl,P,an,nn,cn,ak,g,al,c0,c1,c2,c3,c4,S,m⟩:=C.cells t v;have c4:=(u.cell (p:=⟨b,O+t*5+4,U⟩) P).trans c4;rw[Aa M];generalize N[t]=x at c4 S m D|-;generalize Cn (N.map Nd.aD) fuel=F at r E|-;have G:=Ab m.len;have ao:=m.aJ;have W:=Ab D;go_enter func125,ntmps125
  go_wp2_with fail
  go_loopw [5,15] (λd i wr=>∃j:Nat,j<=g/\i=V X j/\d=V X (Jj F<|x.aD.take j)/\Jj F (x.aD.take j)<=4001/\Ai w wr) (λ_ i _=>g-(intOf i).toNat)
  case atStart=>exact⟨0,Oa,rfl,rfl,by simp[Jj],BRN⟩
  case round=>
   obtain⟨j,ap,rfl,rfl,hd,f⟩:=hrel;have z:=u.trans<|f.mono u.size;by_cases H:j<g
   .have aq:(j:Int)<(g:Int):=Oa;have A:j<T x.aD:=by rw[Aa G];exact H
    obtain⟨ar,ok,rfl,au,aa⟩:=(m.below z NLN).cells j A;obtain⟨ab,ac⟩:=Aa W x.aD[j]<|zI A;have o:=Ab (show Jj F (x.aD.take<|j+1)=max (Jj F<|x.aD.take j) (F x.aD[j]) by rw[zT A,ZU]);have q:=Ab H;generalize x.aD[j]=y at aa ab ac o;obtain⟨s,rfl⟩:∃s:Nat,y=(s:Int):=⟨y.toNat,Oa⟩
    have hF:=Aa E (s:Int);generalize Jj F (x.aD.take j)=k at hd o;by_cases av:k<F (s:Int)
    .have ad:(k:Int)<(F (s:Int):Int):=Oa;have l:=Ab (show Jj F (x.aD.take<|j+1)=F (s:Int) by rw[Aa o];omega);go_wp2_with (go_at_call 125;refine(r s wr Oa Oa Oa z).mono ?_;rintro e w2 ⟨rfl,B⟩)
     go_roundw
     case rel=>exact⟨j+1,Aa q,O1,by rw[Aa l],by rw[Aa l];omega,f.trans<|B.mono f.size⟩
     case measure=>have:=Aa q;simp[intOf];omega
    .have ad: ¬ ((k:Int)<(F (s:Int):Int)):=Oa;have l:=Ab (show Jj F (x.aD.take<|j+1)=k by rw[Aa o];omega);go_wp2_with (go_at_call 125;refine(r s wr Oa Oa Oa z).mono ?_;rintro e w2 ⟨rfl,B⟩)
     go_roundw
     case rel=>exact⟨j+1,Aa q,O1,by rw[Aa l],by rw[Aa l];omega,f.trans<|B.mono f.size⟩
     case measure=>have:=Aa q;simp[intOf];omega
   .have e:j=g:=Oa;subst e;have ae:=Ab (show x.aD.take j=x.aD from zf<|by rw[Aa G];exact NLN);rw[Aa ae]at hd|-;generalize af:Jj F x.aD=k at hd|-;have ag:=Ab af;go_wp2
    go_ret
    exact⟨by rw[Aa ag,z9];rfl,f⟩
def So (L:L9) (j:Nat) (h:j<T L):Bool:=CS (decide (j+1=T L)) L[j]
theorem Mf:∀(L:L9),H6 L=jD↔∀j,(h:j<T L)->So L j h=jD
 |[]=>by simp[H6]
 |s ::r=>by
  rw[H6,zF,Mf r];have e:r.isEmpty=decide (0+1=T (s ::r)):=by cases r<;>simp
  constructor
  .rintro⟨b,c⟩ j a;cases j<;>simp_all[So]
  .intro h;refine⟨by rw[e];exact h 0 Ox,λj a=>?_⟩;have:=h (j+1) (by simpa using a)
   simp_all[So]
theorem Sp (L:L9)(k:Nat)(h:k<T L):(L.take<|k+1).flatMap Ax=(L.take k).flatMap Ax++Ax L[k]:=by grind [zT]
def Nl (K:List L2) (n:Nat) (rs:L2):L2:=rs.foldl (λo r=>Bc K n r o) []
theorem Yj (K:List L2)(n:Nat)(rs a:L2):Nl K n (rs++a)=a.foldl (λo r=>Bc K n r o) (Nl K n rs):=by rw[Nl,List.foldl_append,Nl]
theorem Av.aD {K:List L2}{a b:Nat}{d:List (Nat×Nat)}(h:Av K a d b):∀j,a<=j->j<b->∃c,K[j]? =Q (Au c)/\∀p∈c,p.1<j:=by
 induction h with
 |nil a=>omega
 |cons f ht i k i2=>
   rename_i a t b c d;intro j l m;obtain e|e|e:=Nat.lt_trichotomy j t
   .grind
   .subst e;exact⟨c,ht,λp g=>(f.lt p g).2⟩
   grind
theorem ZX {N:L6}{n:Nat}{rs:L2}(j:T N=n)(f:T (Nl (N.map Nd.aD) n rs)=n)(hg:FP<|Nl (N.map Nd.aD) n rs):
  (∀t,(h:t<T N)->∀y∈N[t].aD,0<=y/\y<(t:Int))/\∀r∈rs,0<=r/\r<(n:Int):=by
 obtain⟨g,e1,l⟩:=Md (K:=N.map Nd.aD) (n:=n) rs [] hg;have a:Av (N.map Nd.aD) 0 g n:=by
  have:T (rs.foldl (λo k=>Bc (N.map Nd.aD) n k o) [])=n:=f
  grind
 constructor
 .intro t h y hy;obtain⟨i,b,m⟩:=a.aD t (zE _) Oa;rw[zr,zM h]at b;have h3:N[t].aD=Au i:=by simpa using b
  rw[h3]at hy;obtain⟨p,c,rfl⟩:=zc.1 hy
  grind
 .intro r d;rw[<-e1]at d;obtain⟨p,c,rfl⟩:=zc.1 d;have:=a.lt p c;omega
structure NM (N:L6) (L:L9):Prop where
 n:T N<=4000
 m0: 1<=T L
 m:T L<=600
 bK:∀x∈N,Bf x=jD
 aD:∀(i:Nat) (x:Nd),N[i]? =Q x->∀k∈x.aD,0<=k/\k<(i:Int)
 dJ:∀s∈L,(s.cond= -1\/(0<=s.cond/\s.cond<T N))/\(s.aG= -1\/(0<=s.aG/\s.aG<T N))
 stm:∀s∈L,(s.aC=1/\s.name.size<=32/\0<=s.cond/\s.aG= -1)\/(s.aC=2/\0<=s.cond)\/(s.aC=3/\s.cond= -1)
 aL:∀(Es:L8),T Es=T N->(∀j,(h:j<T Es)->AZ N j Es[j])->∀s∈L,∀k,(k=s.cond\/k=s.aG)->0<=k->∀e,Es[k.toNat]? =Q e->e.aL<=4000
theorem BQ {N:L6}{L:L9}(h:CE N L=jD):NM N L:=by
 simp only[CE,zF,zG]at h;obtain⟨⟨⟨l,⟨o,h3⟩,v⟩,h5⟩,d⟩:=h;obtain⟨S,w,ht⟩:∃S,Fk (N.map Nd.aD) (T N) [] 0=Q S/\Au S=L.flatMap Ao:=by
  rw[GN]at d;cases hq:Fk (N.map Nd.aD) (T N) [] 0 with
  |none=>rw[hq]at d;cases d
  |some S=>rw[hq]at d;exact⟨S,rfl,K8 d⟩
 obtain⟨hF,_⟩:=CZ (T N) (.nil 0) (λp a=>(by cases a)) w;rw[zY]at hF;have r:∀s∈L,∀k∈Ao s,∃p∈S,k=(p.1:Int):=λs hs k b=>by
  have:k∈Au S:=by rw[ht];exact List.mem_flatMap.2 ⟨s,hs,b⟩
  rw[Au]at this;obtain⟨p,a,rfl⟩:=zc.1 this;exact⟨p,a,rfl⟩
 have f:∀s∈L,∀k∈Ao s,0<=k/\k<T N:=λs hs k b=>by
  obtain⟨p,a,rfl⟩:=r s hs k b;have:=(hF.lt p a).2;omega
 have ac:∀s∈L,s.aC≠3->s.cond∈Ao s:=λs _ h=>by rw[Ao,H8 h];simp
 have t:∀s∈L,s.aG≠-1->s.aG∈Ao s:=λs _ h=>by rw[Ao,H8 h];simp
 have y:=QR v;have stm:∀s∈L,(s.aC=1/\s.name.size<=32/\0<=s.cond/\s.aG= -1)\/(s.aC=2/\0<=s.cond)\/(s.aC=3/\s.cond= -1):=λs hs=>by
  have h:=y s hs;rw[Kh]at h;by_cases m:s.aC=1
  .rw[H8 m]at h;simp only[zF,zG]at h;exact .inl ⟨m,Ki h.1,(f s hs _<|ac s hs Oa).1,h.2⟩
  rw[H7 m]at h;by_cases u:s.aC=2
  .exact .inr (.inl ⟨u,(f s hs _<|ac s hs Oa).1⟩)
  rw[H7 u]at h;by_cases c:s.aC=3
  .rw[H8 c]at h;simp only[zF,zG]at h;exact .inr<|.inr ⟨c,h.2⟩
  .rw[H7 c]at h;cases h
 refine⟨l,o,h3,λx hx=>zq.1 h5 x hx,λi x hx k b=>?_,λs hs=>⟨?_,?_⟩,stm,λEs z A s hs k b h0 e he=>?_⟩
 .have hi:i<T N:=(zP.1 hx).1;obtain⟨B,e1,e2⟩:=OO hF i (zE _) hi;rw[zr,hx]at e1;have e3:x.aD=Au B:=K7 e1;rw[e3,Au]at b;obtain⟨p,a,rfl⟩:=zc.1 b;have:=e2 p a;omega
 .by_cases c:s.aC=3
  .obtain h|h|h:=stm s hs
   .omega
   .omega
   .exact .inl h.2
  .exact .inr (f s hs _<|ac s hs c)
 .by_cases g:s.aG= -1
  .exact .inl g
  .exact .inr (f s hs _<|t s hs g)
 .have C:k∈Ao s:=by
   obtain rfl|rfl:=b
   .apply ac s hs;intro c;obtain h|h|h:=stm s hs<;>omega
   .exact t s hs Oa
  obtain⟨p,a,rfl⟩:=r s hs k C;have n:∀q∈S,q.1<T Es:=λq hq=>by rw[z];exact(hF.lt q hq).2
  have D:=Jw hF (S.attach.map λq=>Es[q.1.1]'(n q.1 q.2)) Ox (λj l o=>by
   have:=A (S[j]).1<|n _<|zI l;simpa using this)
  rw[zS]at he;have hm:e∈S.attach.map (λq=>Es[q.1.1]'(n q.1 q.2)):=by
   refine zc.2 ⟨⟨p,a⟩,List.mem_attach _ _,?_⟩;exact(zP.1 he).2
  have:=Aep hm;omega
theorem Ag1 {N:L6}{i:Nat}{x:Nd}{nn cn:Nat}(hx:N[i]? =Q x)(b:Bf x=jD)(c:∀k∈x.aD,0<=k/\k<i)(d:T Es=i)
  (q:∀j,(h:j<T Es)->AZ N j Es[j])(H:∀e∈Es,e.cA):∃e,MkT Es i x an nn cn e/\AZ N i e/\e.cA:=by
 rw[Bf,zF,zG]at b;obtain⟨J,b⟩:=b;have y:∀n:Nat,BY x.op=n->T x.aD=n:=λn e=>Oa;have r:(1<=x.op/\x.op<=7)->x.aD=[]:=λh=>zd (y 0<|by rw[BY,H8 h];rfl);have s:∀{m:Nat} {e:Ex},Es[m]? =Q e->e.cA:=λh=>H _<|zn h;by_cases D:x.op=1
 .exact⟨_,.int D,.int hx D<|r Oa,trivial⟩
 by_cases E:x.op=2
 .exact⟨_,.text E,.text hx E<|r Oa,trivial⟩
 by_cases h3:x.op=3
 .exact⟨_,.bool h3,.bool hx h3<|r Oa,trivial⟩
 by_cases F:x.op=4
 .exact⟨_,.set F,.set hx F (r Oa) an nn cn,trivial⟩
 by_cases h5:x.op=5
 .grind [Jq]
 by_cases z:x.op=6
 .rw[Jq,H7 h5,H8 z]at b;simp only[zF,zG]at b;exact⟨_,.attr z,.attr hx z<|r Oa,b.1.1⟩
 by_cases G:x.op=7
 .exact⟨_,.lett G,.lett hx G<|r Oa,trivial⟩
 by_cases t: 8<=x.op/\x.op<=10
 .have u:=y 1 (by rw[BY,H7 Oa,H8 t];rfl)
  match a:x.aD,u with
  |[k],_=>
    obtain⟨m,e,rfl,hm,g1,g2⟩:=Ez d q (c k<|by rw[a];simp);exact⟨_,.un t a g1,.un hx t a hm g2,t,s g1⟩
 by_cases v: 11<=x.op/\x.op<=26
 .have u:=y 2 (by rw[BY,H7 Oa,H7 t,H8 v];rfl)
  match a:x.aD,u with
  |[k,l],_=>
    obtain⟨m,e,rfl,hm,g1,g2⟩:=Ez d q (c k<|by rw[a];simp);obtain⟨n,f,rfl,A,w,B⟩:=Ez d q (c l<|by rw[a];simp);exact⟨_,.bin v a g1 w,.bin hx v a ⟨hm,A⟩ g2 B,v,s g1,s w⟩
 by_cases C:x.op=27
 .have u:=y 3 (by rw[BY,H7 Oa,H7 t,H7 v,H8 C];rfl)
  match a:x.aD,u with
  |[k,l,o],_=>
    obtain⟨m,e,rfl,hm,g1,g2⟩:=Ez d q (c k<|by rw[a];simp);obtain⟨n,f,rfl,A,w,B⟩:=Ez d q (c l<|by rw[a];simp);obtain⟨p,g,rfl,I,q1,q2⟩:=Ez d q (c o<|by rw[a];simp);exact⟨_,.ite C a g1 w q1,.ite hx C a ⟨hm,A,I⟩ g2 B q2,s g1,s w,s q1⟩
 grind [BY]
theorem Aav {N:L6}{L:L9}(h:CE N L=jD)(l:T Es=T N)(m:∀j,(h:j<T Es)->AZ N j Es[j]):DJ Es L<=4000:=by
 have d:=BQ h;have v:=d.n;simp only[CE,zF,zG]at h;obtain⟨⟨⟨c,⟨f,h3⟩,w⟩,h5⟩,b⟩:=h;obtain⟨S,o,ht⟩:∃S,Fk (N.map Nd.aD) (T N) [] 0=Q S/\Au S=L.flatMap Ao:=by
  rw[GN]at b;cases hq:Fk (N.map Nd.aD) (T N) [] 0 with
  |none=>rw[hq]at b;cases b
  |some S=>rw[hq]at b;exact⟨S,rfl,K8 b⟩
 obtain⟨hF,_⟩:=CZ (T N) (.nil 0) (λp r=>(by cases r)) o;rw[zY]at hF;have e1:∀s∈L,Bv Es s.cond+Bv Es s.aG=((Ao s).map<|Bv Es).sum:=λs hs=>by
  have t:Bv Es s.aG=((if s.aG≠-1 then [s.aG]else []).map<|Bv Es).sum:=by
   by_cases g:s.aG= -1
   .rw[H7 λk=>k g,g];rfl
   .rw[H8 g];simp
  rw[Ao,zk,List.sum_append,<-t]
  congr 1
  by_cases i:s.aC=3
  .rw[H7 λk=>k i];obtain q|q|q:=d.stm s hs
   .omega
   .omega
   .rw[q.2];rfl
  .rw[H8 i];simp
 rw[J9 Es L e1,<-ht];have a:∀q∈S,q.1<T Es:=λq hq=>by rw[l];exact(hF.lt q hq).2
 have x:=Jw hF (S.attach.map λq=>Es[q.1.1]'(a q.1 q.2)) Ox (λj c f=>by
  have:=m (S[j]).1<|a _<|zI c;simpa using this)
 have e2:(Au S).map (Bv Es)=(S.attach.map λq=>Es[q.1.1]'(a q.1 q.2)).map Ex.aL:=by
  apply List.ext_getElem
  .simp[Au]
  .intro j c f;have u:j<T S:=by simpa[Au]using c
   have hq:=a S[j]<|zI u;simp only[Au,List.getElem_map,List.getElem_attach];exact Jx rfl (zM hq)
 rw[e2];have e3:((S.attach.map λq=>Es[q.1.1]'(a q.1 q.2)).map Ex.aL).sum=QS (S.attach.map λq=>Es[q.1.1]'(a q.1 q.2)):=rfl;rw[e3];omega
def Ld (N:L6) (L:L9) (T:L2) (b:Bool):Prop:=
 (CE N L=jE/\b=jE)\/(CE N L=jD/\∃Es:L8,ja Es=ja N/\(∀j,(h:j<ja Es)->AZ N j Es[j])/\b=(match CP Es (Bn,[],[]) L with
  |none=>jE
  |some st=>decide (st.2.2=T)))
theorem Ab9 (x:Nd):Jy jD x=Cp x:=by unfold Jy Cp;simp
theorem ST (x:Nd)(an:L3)(nn cn:Nat)(b:L3)(a c:Nat)(w:jB)(d:Aq w an nn cn x.aB)(f:a=T x.aD)(hs:x.text.size<=1048576)(g:a<=1048576):
  Calls jZ 122 #[ndV x.op x.num x.text an nn cn b a c,.bool jD] w λe w'=>e= .returned (.bool<|Cp x)/\Ai w w':=by grind [Ab9,MG]
end Go.Proofs.YtnjpihpohilnjaaGreatDoor

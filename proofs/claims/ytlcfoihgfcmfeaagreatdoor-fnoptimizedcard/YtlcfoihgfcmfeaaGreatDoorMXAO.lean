import Derived.Test.YtlcfoihgfcmfeaaGreatDoorMXAK
import Derived.Test.YtlcfoihgfcmfeaaGreatDoorMXAQ
import Derived.Test.YtlcfoihgfcmfeaaGreatDoorMXAT
open Option renaming none->V,none->jc,some->Z
open List renaming length->Y,length->je
open Array renaming size->R,size->jh
open Go renaming World->jD,Value->jF,Addr->jH
open Bool renaming true->jG,false->jI
namespace Go.Proofs.YtlcfoihgfcmfeaaGreatDoor
open Proofs.Tryz
open Value renaming int->T,int->ja,slice->X,string->jA,agg->jL,ownBlock->jO,pointer->jQ,tuple->jS
open IntKind renaming i64->U
open World renaming heap->Q,cell?->jE,alloc->jK,setCell->jM,ownsRow->jP,drew->jV
open Addr renaming mk->jB,block->jW
open Obj renaming cells->jC
open Ending renaming returned->jN
open Proofs.Tryz renaming prog->jZ
open Go.RowKit
set_option linter.unusedVariables false
set_option maxRecDepth 100000
set_option maxHeartbeats 6400000
variable{s:M1}{op v:Int}{ns:M6}{ts tt ys:M4}{a:M7}{r:N4}{B lb g n c top cl:Nat}{o:Obj}{t:TypeId}{nd lv i:jF}{w w':jD}
theorem QY{R i:Nat}{a:M3}{zs:M4}{p:Nat}{N:M7}{L:List (M1×Int)}{s:N4}{wild:Bool}(C:Tr w B R i a n c zs p N L nd lv r s wild)(aH:Y N+1<=1000000)(x:Nd)(hx:Wv x)(b:M3)(d:Nat)(f:M3)(g:Nat)(hu:jP w B 9 1 (X b (Y x.aE) d) (Y x.aE)<|x.aE.map Value.string)(D:jP w B 3 1 (X f (Y x.aC) g) (Y x.aC)<|Ap x.aC)(O:∀j,(ao:j<Y r)->∀q,jO r[j]=Z q->jO (Value.slice b (Y x.aE) d)≠Z q)(P:∀j,(ao:j<Y s)->∀q,jO s[j]=Z q->jO (Value.slice f (Y x.aC) g)≠Z q):Calls jZ 171 #[jQ<|Z<|jB i 0 V,jL #[T U x.op,T U x.num,jA x.text,X b (Y x.aE) d,X f (Y x.aC) g]] w λap w'=>ap=jN (T U (Y N:Int))/\∃S,Tr w' B R i a n c zs p (N++[x]) L S lv (r++[X b (Y x.aE) d]) (s++[X f (Y x.aC) g]) wild/\Gk B R i lv nd w S w':=by
 have aq:=C.row.lt;have W:B<=jh (Q w):=G7 C.aP.1.1;obtain⟨ar,au,av,aw,ax⟩:=info_parts Vz;have aa:=Ab<|L7 O P;have ay:=Ab hx;have t:=Ar w<|CW x.op x.num x.text b (Y x.aE) d f (Y x.aC) g;have z:=Ah.new w #[T U x.op,T U x.num,jA x.text,X b (Y x.aE) d,X f (Y x.aC) g] 112;have l:=C.below t;have E:Gk B R i lv nd w nd<|jK w<|CW x.op x.num x.text b (Y x.aE) d f (Y x.aC) g:=Gk.aU t W;have F:=Ac (w':=jK w<|CW x.op x.num x.text b (Y x.aE) d f (Y x.aC) g) hu λq hq=>t.block q (hu.lt q hq).2;have G:=Ac (w':=jK w<|CW x.op x.num x.text b (Y x.aE) d f (Y x.aC) g) D λq hq=>t.block q (D.lt q hq).2;have ab:jh (Q w)<jh (Q<|jK w<|CW x.op x.num x.text b (Y x.aE) d f (Y x.aC) g):=Oz;clear O P hu D t hx;go_enter func171,ntmps171;go_wp2_with fail;generalize jK w (CW x.op x.num x.text b (Y x.aE) d f (Y x.aC) g)=h at l E F G z ab|-;generalize jh (Q w)=v at z ab aq W|-;obtain⟨y,cn,m,-⟩:=Af l.aK.bG;have H:=Ab m;have m:=Aa H;obtain⟨ac,e1,e2,e3,e4⟩:=FG z;have I:jE h (jB i 1 V)=Z (nd):=l.row.cell 1;rw[m]at I;have ad:=l.row.frozen 1;have ae:=K9<|Lz h<|CW x.op x.num x.text b (Y x.aE) d f (Y x.aC) g;have az:jE (jV h) (jB i 1 V)=Z (X y (Y<|N) cn)/\World.frozen? (jV h) (jB i 1 V)=jI:=⟨I,ad⟩;have d1:jE (jV h) (jB v 0 V)=Z (T U x.op):=ac;have d2:jE (jV h) (jB v 1 V)=Z (T U x.num):=e1;have d3:jE (jV h) (jB v 2 V)=Z (jA x.text):=e2;have d4:jE (jV h) (jB v 3 V)=Z (X b (Y x.aE) d):=e3;have d5:jE (jV h) (jB v 4 V)=Z (X f (Y x.aC) g):=e4;have af:jP (jV<|jK h<|CW x.op x.num x.text b (Y x.aE) d f (Y x.aC) g) B 112 5 (X y (Y<|N) cn) (Y<|N)<|Fy (N) (r)<|s:=by have:=l.aK.bG;rw[m]at this;exact(K7 this _).drew
 have A:Ah (jV<|jK h<|CW x.op x.num x.text b (Y x.aE) d f (Y x.aC) g) i #[jQ<|Z<|jB R 0 V,nd,lv,.bool wild] 151:=⟨(l.row.alloc<|CW x.op x.num x.text b (Y x.aE) d f (Y x.aC) g).out⟩;have aA:jE (jV<|jK h<|CW x.op x.num x.text b (Y x.aE) d f (Y x.aC) g) (jB i 1 V)=Z (X y (Y<|N) cn):=by have:=A.cell 1;rw[m]at this;exact this
 have ag:jO (Value.slice y (Y<|N) cn)≠Z i:=by rw[<-m];exact Ad l.row l.aK.bG Ob
 have aB:B<=jh (Q h):=by have:=l.row.lt;have:=l.aP.1.1;omega
 clear ac e1 e2 e3 e4 I ad m;go_region_law (refine step_append_lies _ rfl _ _ 23 rfl B 112 ar (jL #[T U 0,T U 0,jA ByteArray.empty,X V 0 0,X V 0 0]) 5 80 underlying23 au av aw ax rfl Ob (X y (Y<|N) cn) (Y<|N) (Fy (N) (r)<|s) rfl af ⟨jh<|Q h,0,V⟩ 1 1 [T U x.op,T U x.num,jA x.text,X b (Y x.aE) d,X f (Y x.aC) g] rfl rfl ae (by intro u hu;simp at hu;obtain rfl|rfl|rfl|rfl|rfl:=hu<;>rfl) Ob O3 Oa Od _ rfl ?_;intro g7 c7 J ah o hat aD;have K:Ah J i #[jQ (Z (jB R 0 V)),nd,lv,.bool wild] 151:=⟨(o.block i A.lt λe=>ag e.symm).trans A.out⟩;have ai:=K.cell 1;have aF:=K.frozen 1);all_goals
  have aj:(jK h<|CW x.op x.num x.text b (Y x.aE) d f (Y x.aC) g).grownBy J<|jO<|nd:=by rw[Aa H];exact⟨o.os,o.tape,o.output,o.size,o.block⟩
  obtain⟨M,ak⟩:=l.cS (g7:=g7) (c7:=c7) (x:=x) (u:=X b (Y x.aE) d) (k:=X f (Y x.aC) g) _ aB F G (Aa aa).1 (Aa aa).2 (Aa ay) aj ah (by rw[Aa H];exact hat.imp id λe=>by rw[e];show jh (Q<|jK h _)=_;simp);have al:=E.trans ak;clear ah o hat aD K A aA az d1 d2 d3 d4 d5 ae af aj ak;clear ai aF;generalize jM J (jB i 1 V) (X (Z (jB g7 0 V)) (Y (N)+1) c7)=aG at M al|-;clear ag z l E F G;have ai:jE aG (jB i 1 V)=Z (X (Z<|jB g7 0 V) (Y (N)+1) c7):=M.row.cell 1;go_wp2;go_ret;exact⟨Oz,_,M,al⟩
def IR(B R gb:Nat)(a:M3)(n c:Nat)(zs:M4)(wild:Bool)(p:Nat)(N:M7)(L:List<|M1×Int)(nd lt:jF)(w:jD):Prop:=∃nv kv,Tr w B R gb a n c zs p N L nd lt nv kv wild
def GnA(B R gb:Nat)(a:M3)(n c:Nat)(zs:M4)(wild:Bool)(N:M7)(top:Nat)(X:Nat->M7->Prop)(L:List<|M1×Int)(nd lt:jF)(w:jD)(r:Ending)(w':jD):Prop:=∃q N' nd',r=jN (T U<|Dn N')/\Hid (X q N')/\Y N<=Y N'/\Y N'<=Y N+top/\IR B R gb a n c zs wild q N' L nd' lt w'/\Gk B R gb lt nd w nd' w'
theorem GnA.to{R b:Nat}{a:M3}{zs:M4}{wild:Bool}{N:M7}{d:Nat}{X Y:Nat->M7->Prop}{L:List (M1×Int)}{f:jD}{g:Ending}{w':jD}(h:GnA B R b a n c zs wild N top X L nd lv f g w')(K:Gk B R b lv nd w nd f)(i:∀q M,X q M->Y q M)(ht:top<=d):GnA B R b a n c zs wild N d Y L nd lv w g w':=by obtain⟨q,M,j,h1,h2,h3,h4,h5,h6⟩:=h;exact⟨q,M,j,h1,Ab<|i q M<|Aa h2,h3,Oa,h5,K.trans h6⟩
theorem IR.below{B R b:Nat}{a:M3}{n c:Nat}{zs:M4}{wild:Bool}{p:Nat}{N:M7}{L:List (M1×Int)}{nd lt:jF}{w:jD}{w':jD}(h:IR B R b a n c zs wild p N L nd lt w)(d:Ak w w'):IR B R b a n c zs wild p N L nd lt w':=by obtain⟨f,g,C⟩:=h;exact⟨f,g,C.below d⟩
theorem IR.bM{B R b:Nat}{a:M3}{n c:Nat}{zs:M4}{wild:Bool}{p:Nat}{N:M7}{L:List (M1×Int)}{nd lt:jF}{w:jD}{w':jD}{q:Nat}(h:IR B R b a n c zs wild p N L nd lt w)(t:AJ R (R+1) w w')(d:JF w' R a n c zs q):IR B R b a n c zs wild q N L nd lt w':=by obtain⟨f,g,C⟩:=h;exact⟨f,g,C.bM t d⟩
theorem IR.lt{B R b:Nat}{a:M3}{n c:Nat}{zs:M4}{wild:Bool}{p:Nat}{N:M7}{L:List (M1×Int)}{nd lt:jF}{w:jD}(h:IR B R b a n c zs wild p N L nd lt w):(B<=jh (Q w)/\b<jh (Q w)/\R<jh (Q w))/\(B<=b/\B<=R)/\JF w R a n c zs p:=by obtain⟨d,f,C⟩:=h;have h1:=C.row.lt;have h2:=C.rd.lt;have h3:=C.aP.1;grind[Tr.rd]
theorem IR.cells{R b:Nat}{a:M3}{zs:M4}{wild:Bool}{p:Nat}{N:M7}{L:List (M1×Int)}(h:IR B R b a n c zs wild p N L nd lv w):∃d cn f cl,nd=X d (Y N) cn/\lv=X f (Y L) cl/\jE w (jB b 0 V)=Z (jQ<|Z<|jB R 0 V)/\jE w (jB b 1 V)=Z nd/\jE w (jB b 2 V)=Z lv/\jE w (jB b 3 V)=Z (.bool wild):=by obtain⟨g,i,C⟩:=h;obtain⟨d,cn,h1,-⟩:=Af C.aK.bG;obtain⟨f,cl,h2,-⟩:=Af C.aQ;exact⟨d,cn,f,cl,h1,h2,C.row.cell 0,C.row.cell 1,C.row.cell 2,C.row.cell 3⟩
theorem QZ(N:M7)(x:Nd):Dn (N++[x])=(Y N:Int):=by simp[Dn]
def Snc(p:Nat)(N:M7)(x:Nd)(q:Nat)(M:M7):Prop:=q=p/\M=N++[x]
theorem DT{R d:Nat}{a:M3}{zs:M4}{wild:Bool}{p:Nat}{N:M7}{L:List (M1×Int)}(h:IR B R d a n c zs wild p N L nd lv w)(hm:Y N+1<=1000000)(op num:Int)(b:M1)(f:num<=9223372036854775807)(g:b.size<=1000000):Calls jZ 171 #[jQ<|Z<|jB d 0 V,jL #[T U op,T U num,jA b,X V 0 0,X V 0 0]] w (GnA B R d a n c zs wild N 1 (Snc p N ⟨op,num,b,[],[]⟩) L nd lv w):=by obtain⟨o,r,C⟩:=h;refine(QY C Oa ⟨op,num,b,[],[]⟩ ⟨⟨Oz,Oz,λs hs=>by cases hs⟩,g,f,Oz,λs hs=>(by cases hs),Oz⟩ V 0 V 0 G8 G8 (λj i q hq e=>by cases e) λj i q hq e=>by cases e).mono ?_;rintro t w' ⟨rfl,k,l,m⟩;exact⟨p,_,k,by rw[QZ],Ab ⟨rfl,rfl⟩,Oz,Oz,⟨_,_,l⟩,m⟩
theorem Agd{R:Nat}{a:M3}{zs:M4}{wild:Bool}{p q:Nat}{N:M7}{L:List (M1×Int)}{b w:jD}(h0:IR B R g a n c zs wild p N L nd lv b)(T:AJ R (R+1) b w)(k:JF w R a n c zs q)(hm:Y N+1<=1000000)(K:M6)(x:M3)(h:Nat)(d:AY w (jh<|Q b) x K h)(l:Y K<=64):Calls jZ 171 #[jQ<|Z<|jB g 0 V,jL #[ja U 4,ja U 0,jA ⟨#[]⟩,X x (Y K) h,X V 0 0]] w (GnA B R g a n c zs wild N 1 (Snc q N ⟨4,0,⟨#[]⟩,K,[]⟩) L nd lv w):=by
 obtain⟨t,u,f⟩:=h0;have C:=f.bM T k;have hB:B<=jh (Q b):=by have:=f.row.lt;have:=f.aP.1.1;omega
 refine(QY C Oa ⟨4,0,⟨#[]⟩,K,[]⟩ ⟨⟨(Oa:Y K<=1048576),Oz,λs hs=>by have:=d.aH s hs;unfold maxLen;omega⟩,by show(⟨#[]⟩:M1).size<=1000000;decide,by show(0:Int)<=9223372036854775807;decide,l,d.aH,Oz⟩ x h V 0 (Gf d.bG hB) G8 (λj i q hq e=>?_) λj i q hq e=>by cases e).mono ?_
 .have h1:=(f.aK.cF.2.1 j i q hq).2;have h2:=(d.bG.lt q e).1;omega
 rintro v w' ⟨rfl,m,o,r⟩;exact⟨q,_,m,by rw[QZ],Ab ⟨rfl,rfl⟩,Oz,Oz,⟨_,_,o⟩,r⟩
theorem Oi(w:jD)(ks:M4)(vs:Array jF)(n:Nat)(a:vs.toList=Ap ks)(h:vs.size=n)(hm:n<=maxLen):jP (jK w<|jC vs 3) (R<|Q w) 3 1 (X (Z ⟨R<|Q w,0,V⟩) n n) n<|Ap ks:=by refine⟨by rw[<-a];simp[h],.inr ⟨R<|Q w,n,vs,rfl,NLN,Lz w _,NLN,hm,Oa,?_⟩⟩;grind[zh]
theorem AdX{R:Nat}{a:M3}{zs:M4}{wild:Bool}{p:Nat}{N:M7}{L:List (M1×Int)}(h:IR B R g a n c zs wild p N L nd lv w)(hm:Y N+1<=1000000)(ks:M4)(vs:Array jF)(j:Nat)(i:vs.toList=Ap ks)(b:vs.size=j)(h3:j<=3)(op:Int)(d:jD)(k:Below (jh<|Q<|jK w<|jC vs 3) (jK w<|jC vs 3) d):Calls jZ 171 #[jQ<|Z<|jB g 0 V,jL #[T U op,T U 0,jA ⟨#[]⟩,X V 0 0,X (Z ⟨jh<|Q w,0,V⟩) j j]] d (GnA B R g a n c zs wild N 1 (Snc p N<|opN op ks) L nd lv d):=by
 obtain⟨v,x,f⟩:=h;have l:=Ar w<|jC vs 3;have C:=(f.below l).below k;have hB:B<=jh (Q w):=by have:=f.row.lt;have:=f.aP.1.1;omega
 have m:Y ks=j:=by have:=congrArg Y i;grind[Ap]
 subst m;have ok:=Oi w ks vs (Y ks) i b O3;have o:=Ac (w':=d) ok λq hq=>k.block q (ok.lt q hq).2;refine(QY C Oa ⟨op,0,⟨#[]⟩,[],ks⟩ ⟨⟨Oz,(Oa:Y ks<=1048576),λs hs=>by cases hs⟩,by show(⟨#[]⟩:M1).size<=1000000;decide,by show(0:Int)<=9223372036854775807;decide,Oz,λs hs=>(by cases hs),(Oa:Y ks<=3)⟩ V 0 (Z ⟨jh<|Q w,0,V⟩) (Y ks) G8 (Gf o hB) (λj b q hq e=>by cases e) λj b q hq e=>?_).mono ?_
 .have h1:jh (Q w)=q:=by simpa[jO]using e
  have:=(f.aK.cF.2.2 j b q hq).2;omega
 rintro y w' ⟨rfl,r,t,u⟩;exact⟨p,_,r,by rw[QZ],Ab ⟨rfl,rfl⟩,Oz,Oz,⟨_,_,t⟩,u⟩
section
open Go.RowKit Go.ChangeShapes
def Anb(R:Nat)(a:M3)(n c:Nat)(zs:M4)(p:Nat)(w:jD)(e:Ending)(w':jD):Prop:=∃ (r:Int) (q:Nat),e=jN (T U r)/\Hid (AdU zs p=(r,q))/\(-9223372036854775808<=r/\r<=9223372036854775807)/\JF w' R a n c zs q/\AJ R (R+1) w w'
theorem Ai0(R:Nat)(a:M3)(n c:Nat)(zs:M4)(p:Nat)(w:jD)(h:JF w R a n c zs p):Calls jZ 172 #[jQ<|Z<|jB R 0 V] w λe w'=>Anb R a n c zs p w e w':=by
 go_enter func172,ntmps172;go_wp2_with fail;refine(Cq R a n c zs p w h).mono ?_;rintro e D ⟨x,p1,rfl,X1,K,L,h1,d⟩;clear h;have f:=Ab (show AdU zs p=To zs x p1 by rw[AdU,Aa X1]);rcases(Oa:x%8=0\/x%8=1\/x%8=2\/x%8=3\/x%8=4\/x%8=5\/x%8=6\/x%8=7)with e8|e8|e8|e8|e8|e8|e8|e8
 .have b:=Ab e8;have q0:(x%8==0)=jG:=zD.2 e8;clear e8;go_wp2;go_ret;exact⟨_,p1,rfl,Ab D6,⟨Oa,Oa⟩,h1,d⟩
 .have b:=Ab e8;have q0:(x%8==0)=jI:=zA.2 Oa;have g:(x%8==1)=jG:=zD.2 e8;clear e8;go_wp2;go_ret;exact⟨_,p1,rfl,Ab D6,⟨Oa,Oa⟩,h1,d⟩
 .have b:=Ab e8;have q0:(x%8==0)=jI:=zA.2 Oa;have g:(x%8==1)=jI:=zA.2 Oa;have j:(x%8==2)=jG:=zD.2 e8;clear e8;go_wp2;go_ret;exact⟨_,p1,rfl,Ab D6,⟨Oa,Oa⟩,h1,d⟩
 .have b:=Ab e8;have q0:(x%8==0)=jI:=zA.2 Oa;have g:(x%8==1)=jI:=zA.2 Oa;have j:(x%8==2)=jI:=zA.2 Oa;have l:(x%8==3)=jG:=zD.2 e8;clear e8;go_wp2;go_ret;exact⟨_,p1,rfl,Ab D6,⟨Oa,Oa⟩,h1,d⟩
 .have b:=Ab e8;have q0:(x%8==0)=jI:=zA.2 Oa;have g:(x%8==1)=jI:=zA.2 Oa;have j:(x%8==2)=jI:=zA.2 Oa;have l:(x%8==3)=jI:=zA.2 Oa;have s:(x%8==4)=jG:=zD.2 e8;clear e8;go_wp2_with fail;refine(Cq R a n c zs p1 D h1).mono ?_;rintro e w2 ⟨y,o,rfl,X2,E,F,h2,r⟩;go_wp2_with fail;refine(Cq R a n c zs o w2 h2).mono ?_;rintro e G ⟨z,t,rfl,u,M,z1,h3,A⟩;go_wp2;go_ret;exact⟨_,t,rfl,Ab<|by rw[Aa f,To];simp only[Aa X2,Aa u,Aa b];simp,⟨Oa,Oa⟩,h3,(d.trans r).trans A⟩
 .have b:=Ab e8;have q0:(x%8==0)=jI:=zA.2 Oa;have g:(x%8==1)=jI:=zA.2 Oa;have j:(x%8==2)=jI:=zA.2 Oa;have l:(x%8==3)=jI:=zA.2 Oa;have s:(x%8==4)=jI:=zA.2 Oa;have B:(x%8==5)=jG:=zD.2 e8;clear e8;go_wp2_with fail;go_loopw[5,6] (λv i wr=>∃ (k:Nat) (m:Int) (q:Nat),k<=8/\i=T U k/\v=T U m/\Hid (Agb zs 8 p1 0=Agb zs (8-k) q m)/\(-9223372036854775808<=m/\m<=9223372036854775807)/\JF wr R a n c zs q/\AJ R (R+1) w wr) (λ_ i _=>8-(intOf i).toNat);case atStart=>exact⟨0,0,p1,Oa,rfl,rfl,Ab rfl,⟨Oa,Oa⟩,h1,d⟩
  obtain⟨k,m,o,N,rfl,rfl,C,hm,h2,r⟩:=hrel;by_cases O:k<8
  .have H:(k:Int)<8:=Oa;go_wp2_with (go_at_call 37;refine(Cq R a n c zs o _ h2).mono ?_;rintro e G ⟨y,t,rfl,u,E,F,h3,A⟩);go_roundw;case rel=>exact⟨k+1,_,t,Oa,O0,rfl,Ab<|by rw[Aa C,(Oa:8-k=(8-(k+1))+1),Agb,Aa u],bounds_i64<|wf_bits _ _ _ _,h3,r.trans A⟩
   simp[intOf];omega
  have H:¬ (k:Int)<8:=Oa;have I:=Ab (Oa:k=8);go_wp2;go_ret;exact⟨_,o,rfl,Ab<|by rw[Aa f,To];simp only[Aa b];simp only[Aa C,Aa I];rfl,hm,h2,r⟩
 .have b:=Ab e8;have q0:(x%8==0)=jI:=zA.2 Oa;have g:(x%8==1)=jI:=zA.2 Oa;have j:(x%8==2)=jI:=zA.2 Oa;have l:(x%8==3)=jI:=zA.2 Oa;have s:(x%8==4)=jI:=zA.2 Oa;have B:(x%8==5)=jI:=zA.2 Oa;have J:(x%8==6)=jG:=zD.2 e8;clear e8;go_wp2;go_ret;exact⟨_,p1,rfl,Ab D6,⟨Oa,Oa⟩,h1,d⟩
 have b:=Ab e8;have q0:(x%8==0)=jI:=zA.2 Oa;have g:(x%8==1)=jI:=zA.2 Oa;have j:(x%8==2)=jI:=zA.2 Oa;have l:(x%8==3)=jI:=zA.2 Oa;have s:(x%8==4)=jI:=zA.2 Oa;have B:(x%8==5)=jI:=zA.2 Oa;have J:(x%8==6)=jI:=zA.2 Oa;clear e8;go_wp2;go_ret;exact⟨_,p1,rfl,Ab D6,⟨Oa,Oa⟩,h1,d⟩
theorem Q0(w:jD)(k:Nat)(a:k<6):(Lh k).size<=10/\jE (jK w<|jC #[jA ⟨#[108,101,118,101,108]⟩,jA ⟨#[110,111,119]⟩,jA ⟨#[99,108,105,101,110,116]⟩,jA ⟨#[117,115,101,114]⟩,jA ⟨#[97,115,107,101,100]⟩,jA ⟨#[97,103,114,101,101,100]⟩] 9) ⟨R<|Q w,k,V⟩=Z (jA<|Lh k):=by have h:=(Ah.new w #[jA ⟨#[108,101,118,101,108]⟩,jA ⟨#[110,111,119]⟩,jA ⟨#[99,108,105,101,110,116]⟩,jA ⟨#[117,115,101,114]⟩,jA ⟨#[97,115,107,101,100]⟩,jA ⟨#[97,103,114,101,101,100]⟩] 9).cell k;match k,a with|0,_=>exact⟨Ob,h⟩|1,_=>exact⟨Ob,h⟩|2,_=>exact⟨Ob,h⟩|3,_=>exact⟨Ob,h⟩|4,_=>exact⟨Ob,h⟩|5,_=>exact⟨Ob,h⟩
def LtI(L:List<|M1×Int)(ty x:Int)(w1:jD)(vi:jF)(wr:jD):Prop:=∃i:Int,-1<=i/\i<(Y L:Int)/\vi=T U i/\Hid (FP L ty x (Y L)=FP L ty x (i+1).toNat)/\Ak w1 wr
theorem IR.let_at{R d:Nat}{a:M3}{zs:M4}{wild:Bool}{p:Nat}{N:M7}{L:List (M1×Int)}{b:M3}(h:IR B R d a n c zs wild p N L nd (X b (Y L) cl) w)(j:Nat)(f:j<Y L):∃g,b=Z (jB g 0 V)/\jE w ⟨g,j*2,V⟩=Z (jA L[j].1)/\jE w ⟨g,j*2+1,V⟩=Z (T U L[j].2)/\L[j].1.size<=1000:=by obtain⟨i,k,C⟩:=h;obtain⟨l,m,h1,h2⟩:=Af C.aQ;grind[Acp,Tr.bP]
theorem AdY{L:List (M1×Int)}{ty x:Int}{j:Nat}(a:j<Y L):FP L ty x (j+1)=if L[j].2=ty/\((j:Int)+x)%2=0 then Z L[j].1 else FP L ty x j:=by grind[FP]
section
variable{zs:M4}{L:List (M1×Int)}{ty x:Int}{p p1 q0:Nat}{N:M7}{y:Nd}
theorem lfx(X:Hid<|nx zs p=(x,p1)){q:Nat}{M:M7}(hs:Snc q0 N y q M)(h:Pj zs L ty x p1 y q0):CN zs L ty p N q M:=by obtain⟨rfl,rfl⟩:=hs;exact⟨y,by rw[Aa X];exact h,rfl⟩
theorem Ak3(e:x%3=2)(h:FP L ty x (Y L)=Z s):Pj zs L ty x p ⟨5,0,s,[],[]⟩ p:=by grind[Pj]
theorem VG(e:x%3=1)(ht:ty≠1):Pj zs L ty x p ⟨5,0,Lh ((ty-2)*2+x/3%2).toNat,[],[]⟩ p:=by grind[Pj]
theorem Acr(h0:¬(x%3=2/\(FP L 1 x<|Y L).isSome=jG)):Pj zs L 1 x p ⟨3,x/3%2,⟨#[]⟩,[],[]⟩ p:=by grind[Pj]
theorem AmE(h0:¬(x%3=2/\(FP L 3 x<|Y L).isSome=jG))(h1:¬ x%3=1)(c:250<x):Pj zs L 3 x p ⟨2,0,⟨#[]⟩,[],[]⟩ p:=by grind[Pj]
theorem AmF{q:Nat}(h0:¬(x%3=2/\(FP L 3 x<|Y L).isSome=jG))(h1:¬ x%3=1)(c:¬ 250<x)(h:Hid<|GW zs p=(s,q)):Pj zs L 3 x p ⟨2,0,s,[],[]⟩ q:=by grind[Pj,Aa]
theorem Ak4{K:M6}{q:Nat}(h0:¬(x%3=2/\(FP L 4 x<|Y L).isSome=jG))(h1:¬ x%3=1)(h:Hid<|XQ zs p K q):Pj zs L 4 x p ⟨4,0,⟨#[]⟩,K,[]⟩ q:=by grind[Pj,Aa]
theorem AkB{a:Int}{q:Nat}(h0:¬(x%3=2/\(FP L 2 x<|Y L).isSome=jG))(h1:¬ x%3=1)(c:220<x)(h:Hid<|AdU zs p=(a,q))(b:AiZ a=v):Pj zs L 2 x p ⟨1,v,⟨#[]⟩,[],[]⟩ q:=by grind[Pj,Aa]
theorem AmG(h0:¬(x%3=2/\(FP L 2 x<|Y L).isSome=jG))(h1:¬ x%3=1)(c:¬ 220<x):Pj zs L 2 x p ⟨1,x/3%6,⟨#[]⟩,[],[]⟩ p:=by grind[Pj]
end
theorem J8{R J:Nat}{a:M3}{zs:M4}{wild:Bool}{p:Nat}{N:M7}{L:List (M1×Int)}(h:IR B R J a n c zs wild p N L nd lv w)(hm:je N+1<=1000000)(aG:je L<=100)(ty:Int)(ab:ty=1\/ty=2\/ty=3\/ty=4):Calls jZ 131 #[jQ<|Z<|jB J 0 V,T U ty] w (GnA B R J a n c zs wild N 1 (CN zs L ty p N) L nd lv w):=by
 obtain⟨aH,cn,au,cl,aI,av,c0,c1,c2,c3⟩:=h.cells;subst av;go_enter func131,ntmps131;go_wp2_with fail;refine(Cq R a n c zs p w h.lt.2.2).mono ?_;rintro e l ⟨x,p1,rfl,X1,aJ,aK,hr1,ac⟩;have C:=h.bM ac hr1;have K:Gk B R J (X au (je L) cl) nd w nd l:=Gk.bV ac h.lt.2.1.2 h.lt.1.2.2;obtain⟨aL,aM,aN,aO,aP,aQ,c0,c1,c2,c3⟩:=C.cells;rcases(Oa:x%3=2\/x%3=1\/x%3=0)with e3|e3|e3;case inr.inl=>
  have ad:(x%3==2)=jI:=zA.2 Oa;have ae:(x%3==1)=jG:=zD.2 e3;have F:=Ab e3;have m:=Ab (show ¬ (x%3=2/\(FP L ty x<|je L).isSome=jG)from λh=>by omega);obtain rfl|rfl|rfl|rfl:=ab
  .go_wp2_with fail;refine(DT C hm 3 (x/3%2) ⟨#[]⟩ Oa Ob).mono ?_;intro k r b;have f:=Ab<|b.to K (Y:=CN zs L 1 p N) (λq M hs=>lfx X1 hs<|Acr<|Aa m) NLN;obtain⟨t,u,v,rfl,-⟩:=b;go_wp2;go_ret;exact Aa f
  case' inr.inl=>obtain⟨hs,hc⟩:=Q0 l (x/3%2).toNat Oa;have D:=Ab (show Pj zs L 2 x p1 ⟨5,0,Lh (x/3%2).toNat,[],[]⟩ p1 by have:=VG (zs:=zs) (L:=L) (p:=p1) (ty:=2) (Aa F) Ob;rw[(Oa:((2:Int)-2)*2+x/3%2=(x/3%2))]at this;exact this);generalize Lh (x/3%2).toNat=s at hs hc D
  case' inr.inr.inl=>obtain⟨hs,hc⟩:=Q0 l (2+x/3%2).toNat Oa;have D:=Ab (show Pj zs L 3 x p1 ⟨5,0,Lh (2+x/3%2).toNat,[],[]⟩ p1 by have:=VG (zs:=zs) (L:=L) (p:=p1) (ty:=3) (Aa F) Ob;rw[(Oa:((3:Int)-2)*2+x/3%2=(2+x/3%2))]at this;exact this);generalize Lh (2+x/3%2).toNat=s at hs hc D
  case' inr.inr.inr=>obtain⟨hs,hc⟩:=Q0 l (4+x/3%2).toNat Oa;have D:=Ab (show Pj zs L 4 x p1 ⟨5,0,Lh (4+x/3%2).toNat,[],[]⟩ p1 by have:=VG (zs:=zs) (L:=L) (p:=p1) (ty:=4) (Aa F) Ob;rw[(Oa:((4:Int)-2)*2+x/3%2=(4+x/3%2))]at this;exact this);generalize Lh (4+x/3%2).toNat=s at hs hc D
  all_goals have d:=C.below<|Ar l<|jC #[jA ⟨#[108,101,118,101,108]⟩,jA ⟨#[110,111,119]⟩,jA ⟨#[99,108,105,101,110,116]⟩,jA ⟨#[117,115,101,114]⟩,jA ⟨#[97,115,107,101,100]⟩,jA ⟨#[97,103,114,101,101,100]⟩] 9;have o:=K.trans<|Gk.aU (nd:=nd) (Ar l<|jC #[jA ⟨#[108,101,118,101,108]⟩,jA ⟨#[110,111,119]⟩,jA ⟨#[99,108,105,101,110,116]⟩,jA ⟨#[117,115,101,114]⟩,jA ⟨#[97,115,107,101,100]⟩,jA ⟨#[97,103,114,101,101,100]⟩] 9) C.lt.1.1;go_wp2_with fail;refine(DT d hm 5 0 s Oa Oa).mono ?_;intro k r b;have f:=Ab<|b.to o (Y:=CN zs L _ p N) (λq M hs=>lfx X1 hs<|Aa D) NLN;obtain⟨t,u,v,rfl,-⟩:=b;go_wp2;go_ret;exact Aa f
 case' inl=>
  have ad:(x%3==2)=jG:=zD.2 e3;have ae:(x%3==1)=jI:=zA.2 Oa;have F:=Ab e3;have A:=Ab (Oa:¬ x%3=1);have aw:=Ab<|show LtI L ty x l (T U<|(je L:Int)-1) l from⟨(je L:Int)-1,Oa,Oa,rfl,Ab<|by rw[(Oa:((je L:Int)-1+1).toNat=je L)],BRN⟩;have af:=Ab C;have ax:=Ab K;go_wp2_with fail;go_loopw[6] (λP wr=>LtI L ty x l P wr) (λP _=>(intOf P+1).toNat);case atStart=>exact Aa aw
  case' round=>
   obtain⟨i,aR,aS,rfl,ag,S⟩:=hrel;have d:=(Aa af).below S;have o:=(Aa ax).trans<|Gk.aU (nd:=nd) S (Aa af).lt.1.1;obtain⟨aT,aV,aW,aX,aY,aZ,c0,c1,c2,c3⟩:=d.cells;by_cases hi:0<=i;case pos=>
    obtain⟨j,rfl⟩:=Int.eq_ofNat_of_zero_le hi;have ah:j<je L:=Oa;obtain⟨g,rfl,ay,d1,az⟩:=d.let_at j ah;have G:=Ab (show FP L ty x (je L)=if L[j].2=ty/\((j:Int)+x)%2=0 then Z L[j].1 else FP L ty x j by rw[Aa ag,(Oa:((j:Int)+1).toNat=j+1),AdY ah]);have ai:=Ab (show(intOf (T U<|(j:Int)-1)+1).toNat<(intOf (T U (j:Int))+1).toNat by simp[intOf]);have aj:=Ab<|show FP L ty x (je L)=FP L ty x j->LtI L ty x l (T U<|(j:Int)-1) wr from λaA=>⟨(j:Int)-1,Oa,Oa,rfl,Ab<|by rw[aA,(Oa:((j:Int)-1+1).toNat=j)],S⟩;generalize L[j].1=ls at ay az G;generalize L[j].2=aB at d1 G;cases ak:(aB==ty)
    .have H:=Ab (Aa aj<|by rw[Aa G,K0 λh=>zA.1 ak h.1]);go_wp2_with fail;exact⟨Aa H,Aa ai⟩
    cases al:(((j:Int)+x)%2==0)
    .have H:=Ab (Aa aj<|by rw[Aa G,K0 λh=>zA.1 al h.2]);go_wp2_with fail;exact⟨Aa H,Aa ai⟩
    have H:=Ab (show FP L ty x (je L)=Z ls by rw[Aa G,K1 ⟨zD.1 ak,zD.1 al⟩]);go_wp2_with fail;refine(DT d hm 5 0 ls Oa Oa).mono ?_;intro k r b;have f:=Ab<|b.to o (Y:=CN zs L ty p N) (λq M hs=>lfx X1 hs<|Ak3 (Aa F)<|Aa H) NLN;obtain⟨t,u,v,rfl,-⟩:=b;go_wp2;go_ret;exact Aa f
   case' neg=>have a0:¬ ((0:Int)<=i):=hi;have m:=Ab (show ¬ (x%3=2/\(FP L ty x<|je L).isSome=jG)by rw[Aa ag,(Oa:(i+1).toNat=0)];simp[FP])
 case' inr.inr=>have ad:(x%3==2)=jI:=zA.2 Oa;have ae:(x%3==1)=jI:=zA.2 Oa;have A:=Ab (Oa:¬ x%3=1);have m:=Ab (show ¬ (x%3=2/\(FP L ty x<|je L).isSome=jG)from λh=>by omega);have d:=C;have o:=K
 all_goals
  obtain rfl|rfl|rfl|rfl:=ab
  .go_wp2_with fail;refine(DT d hm 3 (x/3%2) ⟨#[]⟩ Oa Ob).mono ?_;intro k r b;have f:=Ab<|b.to o (Y:=CN zs L 1 p N) (λq M hs=>lfx X1 hs<|Acr<|Aa m) NLN;obtain⟨t,u,v,rfl,-⟩:=b;go_wp2;go_ret;exact Aa f
  .by_cases ao:220<x
   .have O:=Ab ao;go_wp2_with fail;refine(Ai0 R a n c zs p1 _ d.lt.2.2).mono ?_;rintro k ap ⟨y,aq,rfl,E,⟨a1,a2⟩,I,z⟩;have S5:=d.bM z I;have K5:=o.trans<|Gk.bV z d.lt.2.1.2 d.lt.1.2.2;by_cases hy:y<0
    .have W:=Ab hy;go_wp2_with fail;refine(DT S5 hm 1 (-(y+1)) ⟨#[]⟩ Oa Ob).mono ?_;intro k r b;have f:=Ab<|b.to K5 (Y:=CN zs L 2 p N) (λq M hs=>lfx X1 hs<|AkB (Aa m) (Aa A) D8 E<|by rw[AiZ,K1<|G7<|Aa W]) NLN;obtain⟨t,u,v,rfl,-⟩:=b;go_wp2;go_ret;exact Aa f
    have W:=Ab hy;go_wp2_with fail;refine(DT S5 hm 1 y ⟨#[]⟩ Oa Ob).mono ?_;intro k r b;have f:=Ab<|b.to K5 (Y:=CN zs L 2 p N) (λq M hs=>lfx X1 hs<|AkB (Aa m) (Aa A) D8 E<|by rw[AiZ,K0<|G7<|Aa W]) NLN;obtain⟨t,u,v,rfl,-⟩:=b;go_wp2;go_ret;exact Aa f
   have O:=Ab ao;go_wp2_with fail;refine(DT d hm 1 (x/3%6) ⟨#[]⟩ Oa Ob).mono ?_;intro k r b;have f:=Ab<|b.to o (Y:=CN zs L 2 p N) (λq M hs=>lfx X1 hs<|AmG (Aa m) (Aa A) D8) NLN;obtain⟨t,u,v,rfl,-⟩:=b;go_wp2;go_ret;exact Aa f
  .by_cases ar:250<x
   .have aa:=Ab ar;go_wp2_with fail;refine(DT d hm 2 0 ⟨#[]⟩ Oa Ob).mono ?_;intro k r b;have f:=Ab<|b.to o (Y:=CN zs L 3 p N) (λq M hs=>lfx X1 hs<|AmE (Aa m) (Aa A)<|G7<|Aa aa) NLN;obtain⟨t,u,v,rfl,-⟩:=b;go_wp2;go_ret;exact Aa f
   have aa:=Ab ar;go_wp2_with fail;refine(MJ R a n c zs p1 _ d.lt.2.2).mono ?_;rintro k ap ⟨s,aq,rfl,E,a3,I,z⟩;go_wp2_with fail;refine(DT (d.bM z I) hm 2 0 s Oa Oa).mono ?_;intro k r b;have f:=Ab<|b.to (o.trans<|Gk.bV z d.lt.2.1.2 d.lt.1.2.2) (Y:=CN zs L 3 p N) (λq M hs=>lfx X1 hs<|AmF (Aa m) (Aa A) (G7<|Aa aa) E) NLN;obtain⟨t,u,v,rfl,-⟩:=b;go_wp2;go_ret;exact Aa f
  go_wp2_with fail;refine(VA R a n c zs p1 _ d.lt.2.2).mono ?_;rintro k ap ⟨aC,c5,aD,aq,rfl,E,aE,aF,I,z⟩;go_wp2_with fail;refine(Agd d z I hm aD aC c5 aF aE).mono ?_;intro k r b;have f:=Ab<|b.to (o.trans<|Gk.bV z d.lt.2.1.2 d.lt.1.2.2) (Y:=CN zs L 4 p N) (λq M hs=>lfx X1 hs<|Ak4 (Aa m) (Aa A) E) NLN;obtain⟨t,u,v,rfl,-⟩:=b;go_wp2;go_ret;exact Aa f
end
theorem Age(R:Nat)(a:M3)(n c:Nat)(zs:M4)(p:Nat)(w:jD)(h:JF w R a n c zs p):Calls jZ 133 #[jQ<|Z<|jB R 0 V] w λe w'=>∃b:Int,e=jN (T U b)/\Hid (b=(Y zs:Int)-p)/\0<=b/\b<=1048576/\Ak w w':=by have c0:=h.row.cell 0;have c1:=h.row.cell 1;have h1:=h.le;have h2:=h.aH;have d:=Ab h.len;go_enter func133,ntmps133;go_wp2_with fail;go_quiet (fail);go_wp2;go_ret;exact⟨_,rfl,Ab<|by rw[Aa d],Oa,Oa,⟨rfl,rfl,rfl,NLN,λ_ _=>rfl⟩⟩
theorem PM{R b:Nat}{a:M3}{zs:M4}{wild:Bool}{p:Nat}{N:M7}{L:List (M1×Int)}(h:IR B R b a n c zs wild p N L nd lv w)(hm:Y N+1<=1000000)(ks:M4)(vs:Array jF)(j:Nat)(f:vs.toList=Ap ks)(g:vs.size=j)(h3:j<=3)(op:Int):Calls jZ 132 #[jQ<|Z<|jB b 0 V,T U op,X (Z ⟨jh<|Q w,0,V⟩) j j] (jK w<|jC vs 3) (GnA B R b a n c zs wild N 1 (Snc p N<|opN op ks) L nd lv w):=by have i:=Ar w<|jC vs 3;have k:Gk B R b lv nd w nd<|jK w<|jC vs 3:=Gk.aU i h.lt.1.1;go_enter func132,ntmps132;go_wp2_with fail;refine(AdX h hm ks vs j f g h3 op _ BRN).mono ?_;intro m o d;have l:=Ab<|d.to k (λ_ _ h=>h) NLN;obtain⟨q,r,s,rfl,-⟩:=d;dsimp only;go_wp2;go_ret;exact Aa l
def tpN:Nat->Nat|0=>1|d+1=>3*tpN d+1
def ExD(B R gb:Nat)(a:M3)(n c:Nat)(zs:M4)(wild:Bool)(L:List<|M1×Int)(lt:jF)(d:Nat):Prop:=∀(ty:Int) (p:Nat) (N:M7) (nd:jF) (w:jD),(ty=1\/ty=2\/ty=3\/ty=4)->Y N+tpN d<=1000000->IR B R gb a n c zs wild p N L nd lt w->Calls jZ 134 #[jQ<|Z<|jB gb 0 V,T U ty,T U (d:Int)] w (GnA B R gb a n c zs wild N (tpN d) (NL zs L wild d ty p N) L nd lt w)
def TwX(E:Drw)(op t1 t2:Int)(p:Nat)(N:M7)(q:Nat)(M:M7):Prop:=∃q1 N1 N2,E t1 p N q1 N1/\E t2 q1 N1 q N2/\M=N2++[opN op [Dn N1,Dn N2]]
theorem Ai1{R:Nat}{a:M3}{d:Nat}{zs:M4}{wild:Bool}{p:Nat}{N:M7}{L:List (M1×Int)}(r:ExD B R g a n c zs wild L lv d)(h:IR B R g a n c zs wild p N L nd lv w)(hm:Y N+2*tpN d+1<=1000000)(op b f:Int)(h1:b=1\/b=2\/b=3\/b=4)(h2:f=1\/f=2\/f=3\/f=4):Calls jZ 173 #[jQ<|Z<|jB g 0 V,T U op,T U b,T U f,T U (d:Int)] w (GnA B R g a n c zs wild N (2*tpN d+1) (TwX (NL zs L wild d) op b f p N) L nd lv w):=by have i:=Ab r;unfold ExD at i;generalize tpN d=s at hm i|-;generalize NL zs L wild d=E at i|-;go_enter func173,ntmps173;go_wp2_with fail;refine(Aa i b p N nd w h1 Oa h).mono ?_;rintro k t ⟨l,j,u,rfl,X1,a1,a2,v,x⟩;go_wp2_with fail;refine(Aa i f l j u t h2 Oa v).mono ?_;rintro k w2 ⟨I,m,J,rfl,X2,a3,a4,y,z⟩;go_wp2_with fail;refine(PM y Oa [Dn j,Dn m] _ 2 rfl rfl Oa op).mono ?_;rintro k A ⟨C,o,D,rfl,q,a5,K,F,G⟩;have H:=Ab<|show GnA B R g a n c zs wild N (2*s+1) (TwX E op b f p N) L nd lv w (jN<|T U<|Dn o) A from⟨C,o,D,rfl,Ab ⟨l,j,m,Aa X1,by rw[(Aa q).1];exact Aa X2,(Aa q).2⟩,Oa,Oa,F,(x.trans z).trans G⟩;go_wp2;go_ret;exact Aa H
section
variable{zs:M4}{L:List (M1×Int)}{wild:Bool}{d:Nat}{ty ty' x:Int}{p p1 q:Nat}{N M:M7}{Lf E:Drw}
theorem Agf(h:Y zs<=p\/300<Y N)(a:CN zs L ty p N q M):NL zs L wild (d+1) ty p N q M:=by grind[NL]
theorem Agg(h:¬(Y zs<=p\/300<Y N))(X:Hid<|nx zs p=(x,p1))(ht:(if wild=jG/\x=201 then 1+ty%4 else ty)=ty')(hy:Uv (CN zs L) (NL zs L wild d) ty' x p1 N q M):NL zs L wild (d+1) ty p N q M:=by grind[NL,Aa]
theorem Agh(h:x%8<2)(a:Lf ty p N q M):Uv Lf E ty x p N q M:=by grind[Uv]
theorem Agi(h7:¬ x%8=7)(h2:¬ x%8<2)(hs:Li ty x=V)(a:Lf ty p N q M):Uv Lf E ty x p N q M:=by grind[Uv]
theorem Ai2{a b:Int}(h7:¬ x%8=7)(h2:¬ x%8<2)(hs:Li ty x=Z (op,a,Z b))(c:TwX E op a b p N q M):Uv Lf E ty x p N q M:=by unfold Uv;rw[K0 h7,K0 h2,hs];exact c
theorem Ai3{b:Int}{c:Nat}(h7:¬ x%8=7)(h2:¬ x%8<2)(hs:Li ty x=Z (op,b,V))(h1:E b p N c a)(d:Snc c a (opN op [Dn a]) q M):Uv Lf E ty x p N q M:=by unfold Uv;rw[K0 h7,K0 h2,hs];obtain⟨rfl,rfl⟩:=d;exact⟨a,h1,rfl⟩
theorem Ak5{d f:Nat}{b c:M7}(h7:x%8=7)(h1:E 1 p N d a)(h2:E ty d a f b)(h3:E ty f b g c)(h:Snc g c (opN 27 [Dn a,Dn b,Dn c]) q M):Uv Lf E ty x p N q M:=by unfold Uv;rw[K1 h7];obtain⟨rfl,rfl⟩:=h;exact⟨d,a,f,b,c,h1,h2,h3,rfl⟩
end
theorem AfI(op a:Int)(h:8<=op/\op<=10):Ec op [a]=Ba op [a]:=by have:op=8\/op=9\/op=10:=Oa;obtain rfl|rfl|rfl:=this;all_goals grind[Ba,Jo,Fu,Ec]
theorem Adz(op a b:Int)(h:11<=op/\op<=26)(c:a≠0):Ec op [a,b]=Ba op [a,b]:=by have:op=11\/op=12\/op=13\/op=14\/op=15\/op=16\/op=17\/op=18\/op=19\/op=20\/op=21\/op=22\/op=23\/op=24\/op=25\/op=26:=Oa;obtain rfl|rfl|rfl|rfl|rfl|rfl|rfl|rfl|rfl|rfl|rfl|rfl|rfl|rfl|rfl|rfl:=this;all_goals grind[Ba,Jo,Fu,Ec]
theorem AdA(a b c:Int)(d:b≠0):Ec 27 [a,b,c]=Ba 27 [a,b,c]:=by grind[Ba,Jo,Fu,Ec]
def Px(x:Nd):Bool:=if x.op=5 then jI else if x.op=6 then decide (0<=x.num/\x.num<6)&&decide (x.text.size=0)&&decide (Y x.aE=0)else if x.op=7\/x.op=1 then decide (x.text.size=0)&&decide (Y x.aE=0)else wfB x
def AR(x:Nd):Bool:=decide ((Y x.aC:Int)=Ci x.op)&&Px x
def Bu(x:Nd):Bool:=decide ((Y x.aC:Int)=Ci x.op)&&(if x.op=1 then decide (x.text.size=0)&&decide (Y x.aE=0)else if x.op=2 then BM x.text&&decide (x.num=0)&&decide (Y x.aE=0)else if x.op=3 then decide (x.num=0\/x.num=1)&&decide (x.text.size=0)&&decide (Y x.aE=0)else if x.op=4 then Ax x.aE&&decide (x.num=0)&&decide (x.text.size=0)else if x.op=5 then jI else if x.op=6 then decide (0<=x.num/\x.num<=5)&&decide (x.text.size=0)&&decide (Y x.aE=0)else if x.op=7 then decide (0<=x.num/\x.num<600)&&decide (x.text.size=0)&&decide (Y x.aE=0)else decide (x.num=0)&&decide (x.text.size=0)&&decide (Y x.aE=0))
theorem JX(x:Nd):Bu x=jG↔AR x=jG/\(x.op=7->0<=x.num/\x.num<600):=by unfold Bu AR Px wfB;grind
set_option maxRecDepth 100000
set_option maxHeartbeats 3200000
abbrev Rc:=Except Int Int
abbrev W0:=List Rc
def GK:W0->Except Int M4|[]=>.ok []|.error c::_=>.error c|.ok t::r=>(GK r).map (t::·)
theorem Ud{t:Int}{b:W0}{K:M4}(h:GK (.ok t::b)=.ok K):∃a,GK b=.ok a/\K=t::a:=by rw[GK]at h;cases d:GK b with|error c=>rw[d]at h;cases h|ok a=>rw[d]at h;cases h;exact⟨a,rfl,rfl⟩
theorem Qu:∀{os:W0}{K:M4},GK os=.ok K->Y K=Y os|[],K,h=>by cases h;rfl|.error c::_,K,h=>O6|.ok t::r,K,h=>by obtain⟨a,h1,rfl⟩:=Ud h;rw[List.length_cons,List.length_cons,Qu h1]
theorem Ue(o:Rc):∀(os:W0)(K:M4),GK os=.ok K->GK (os++[o])=o.map (λt=>K++[t])|[],K,h=>by cases h;cases o<;>rfl|.error c::_,K,h=>O6|.ok t::r,K,h=>by obtain⟨a,h1,rfl⟩:=Ud h;rw[List.cons_append,GK,Ue o r a h1];cases o<;>rfl
theorem Qv:∀(os:W0)(k:Nat){c:Int},GK (os.take k)=.error c->GK os=.error c|[],k,c,h=>P4|.error d::_,0,c,h=>O6|.error d::_,k+1,c,h=>by grind[GK]|.ok t::r,0,c,h=>O6|.ok t::r,k+1,c,h=>by rw[List.take_succ_cons,GK]at h;cases a:GK (r.take k)with|ok K=>rw[a]at h;cases h|error d=>rw[a]at h;cases h;rw[GK,Qv r k a];rfl
def NdC(o:Rc)(w:jD)(r:Ending)(w':jD):Prop:=(∃ty code,r=jN (jS #[T U ty,T U code])/\((code=0/\o=.ok ty)\/(code≠0/\o=.error code)))/\Ak w w'
def ofC(c:Int):N8->Rc|some t=>.ok t|none=>.error c
def NU(op:Int)(os:W0):Rc:=match GK os with|.error c=>.error c|.ok K=>ofC 9<|nz<|Ec op K
theorem MC(a:M3)(n c:Nat)(N:M7)(lb:Nat)(w:jD)(O:GN w a n c N)(i:Nat)(x:Nd)(hx:N[i]?=Z x)(k:Jw x.op)(P:Y (Fu x.op).1<=Y x.aC)(os:W0)(S:Y os=Y x.aC)(V:∀j,(h:j<Y x.aC)->(h2:j<Y os)->∀E,Ak w E->Calls jZ 109 #[X a n c,T U x.aC[j],jQ<|Z<|jB lb 0 jc] E (NdC os[j] E)):Calls jZ 109 #[X a n c,T U i,jQ<|Z<|jB lb 0 jc] w (NdC (NU x.op os) w):=by
 obtain⟨al,ao,ap,aq,ar⟩:=info_parts GS;have au:=O.len;have hi:i<Y N:=(zL.1 hx).1;have W:N[i]=x:=(zL.1 hx).2;have aP:(i:Int)<(n:Int):=Oa;obtain⟨b,aQ,rfl,aR,an,nn,cn,p,d,r,c0,c1,c2,c3,c4,av,s⟩:=O.cells i hi;rw[W]at c0 c1 c2 s;have aa:=Ab s.len;have aS:=s.aH;have F:=Ab S;have aw:=Ab V;have ax:=Ab P;have ay:=Ab λK h=>(show NU x.op os=ofC 9 (nz<|Ec x.op K)by rw[NU,(show GK os=.ok K from h)]);have az:=Ab (show ∀c,GK os=.error c->NU x.op os=.error c from λc h=>by rw[NU,h]);have aT:(x.op==5)=jI:=zA.2 (by unfold Jw at k;omega);have aU:(x.op==6)=jI:=zA.2 (by unfold Jw at k;omega);have aV:(x.op==7)=jI:=zA.2 (by unfold Jw at k;omega);have aA:=Ab k;clear av;clear au hx W hi P S V k;have ab:=Ah.new w #[T U x.op,T U x.num,jA x.text,X an nn cn,X p d r] 112;have f:=Ar w<|CW x.op x.num x.text an nn cn p d r;have ac:R (Q w)<R (Q<|jK w<|CW x.op x.num x.text an nn cn p d r):=Oz;go_enter func109,ntmps109;go_wp2_with fail;generalize jK w (CW x.op x.num x.text an nn cn p d r)=G at ab f ac|-;go_loopw[11,71] (λv i wr=>∃ (j:Nat) (K:M4),j<=d/\i=T U j/\jP wr (R<|Q G) 3 1 v (Y K) (Ap K)/\Hid (GK (os.take j)=.ok K)/\Ak G wr) (λ_ i _=>d-(intOf i).toNat);case atStart=>exact⟨0,[],Oa,rfl,G8,Ab rfl,BRN⟩
 obtain⟨j,K,aW,rfl,z,H,l⟩:=hrel;have ad:=f.trans<|l.mono f.size;have ae:=l.size;have aX:Y K<=d:=by have:=Qu<|Aa H;rw[zv]at this;omega
 by_cases I:j<d
 .have aY:(j:Int)<(d:Int):=Oa;have A:j<Y x.aC:=by rw[Aa aa];exact I
  have J:j<Y os:=by rw[Aa F];exact A
  obtain⟨aZ,ok,rfl,a0,aB⟩:=(s.below ad NLN).cells j A;have m:=Ab<|Aa aw j A J _ ad;have o:=Ab (show GK (os.take<|j+1)=os[j].map (λt=>K++[t])by rw[zY J];exact Ue _ _ _<|Aa H);have B:=Ab (show ∀c,os[j]=.error c->NU x.op os=.error c from λc e=>Aa az c<|Qv os (j+1)<|by rw[Aa o,e];rfl);have af:=Ab I;generalize x.aC[j]=y at aB m;generalize os[j]=a1 at m o B;obtain⟨aD,aE,rfl,_⟩:=Af z;clear A J I;go_wp2_with fail;refine(Aa m).mono ?_;rintro aF w2 ⟨⟨ty,L,rfl,aG⟩,ag⟩;have C:=l.trans<|ag.mono ae;have ah:=Ai z ag NLN;obtain⟨rfl,rfl⟩|⟨hc,rfl⟩:=aG
  .have aI:=Ab<|show GK (os.take<|j+1)=.ok (K++[ty])from Aa o;have a2:=C.size;clear o B m;go_wp2_with (at_builtin;refine J7 _ rfl _ _ 25 rfl (R<|Q G) 3 al (T U 0) 1 8 underlying25 ao ap aq ar rfl Ob _ _ _ rfl (K7 ah _) ⟨R<|Q w2,0,jc⟩ 1 1 [T U ty] rfl rfl ?d1 ?d2 ?d3 ?d4 ?d5 ?_);case d1=>exact A6 _ _ _ _ Oz
   case d2=>intro u hu;simp at hu;subst hu;rfl
   case d3=>unfold maxLen;omega
   case d4=>omega
   case d5=>simp;omega
   intro v' a3 aJ ai _;have aK:=(C.alloc C.size<|jC #[T U ty] 3).grown ai Od λq hq=>(ah.lt q hq).1;clear ai;go_wp2;go_roundw;case rel=>exact⟨j+1,K++[ty],Aa af,O0,EZ aJ,aI,aK⟩
   have:=Aa af;simp[intOf];omega
  have ec:(L !=0)=jG:=zW.2 hc;have g:=Ab<|Aa B L rfl;have aL:=Ab hc;clear hc o B m;go_wp2;exact K8 (v:=jS #[T U 0,T U L]) P2 rfl ⟨⟨_,_,rfl,.inr ⟨Aa aL,Aa g⟩⟩,f.trans<|C.mono f.size⟩
 have e:j=d:=Oa;subst e;have aj:=Ab (show GK os=.ok K by rw[<-Aa H,zh<|by rw[Aa F,Aa aa];exact NLN]);have g:=Ab<|Aa ay K<|Aa aj;have aM:=Qu<|Aa aj;have aN:=Ab (show Y (Fu x.op).1<=Y K by have:=Aa ax;have:=Aa F;omega);obtain⟨aD,aE,rfl,_⟩:=Af z;have a4:jE wr ⟨R<|Q w,0,jc⟩=Z (T U x.op):=(ab.below l ac).cell 0;clear aM;go_wp2_with fail;refine(Aap x.op (Aa aA) _ _ _ K _ (Dd z Oa)<|Aa aN).mono ?_;rintro aF a5 ⟨rfl,aO⟩;have ak:=l.trans<|aO.mono ae;by_cases ht:Ec x.op K=0
 .have M:(Ec x.op K==0)=jG:=zD.2 ht;have D:=Ab (show NU x.op os=.error 9 by rw[Aa g,nz,K1 ht];rfl);clear ht g;generalize Ec x.op K=tt at M;go_wp2;exact K8 (v:=jS #[T U 0,T U 9]) P2 rfl ⟨⟨_,_,rfl,.inr ⟨Ob,Aa D⟩⟩,f.trans<|ak.mono f.size⟩
 have M:(Ec x.op K==0)=jI:=zA.2 ht;have D:=Ab (show NU x.op os=.ok (Ec x.op K)by rw[Aa g,nz,K0 ht];rfl);clear ht g;generalize Ec x.op K=tt at M D;go_wp2;exact K8 (v:=jS #[T U tt,T U 0]) P2 rfl ⟨⟨_,_,rfl,.inl ⟨rfl,Aa D⟩⟩,f.trans<|ak.mono f.size⟩
set_option maxHeartbeats 1600000
theorem XE(a:M3)(n c:Nat)(N:M7)(lb:Nat)(w:jD)(d:GN w a n c N)(i:Nat)(x:Nd)(hx:N[i]?=Z x)(g:x.op=6):Calls jZ 109 #[X a n c,T U i,jQ<|Z<|jB lb 0 V] w (NdC (.ok<|Bc x.num) w):=by have p:=d.len;have hi:i<Y N:=(zL.1 hx).1;have h:N[i]=x:=(zL.1 hx).2;have q:(i:Int)<(n:Int):=Oa;obtain⟨b,r,rfl,s,an,nn,cn,j,k,l,c0,c1,c2,c3,c4,t,m⟩:=d.cells i hi;rw[h]at c0 c1 c2 m;rw[g]at c0;have o:=Ar w<|CW 6 x.num x.text an nn cn j k l;generalize x.num=f at*;generalize x.text=u at*;go_enter func109,ntmps109;go_wp2_with fail;refine(JT f _).mono ?_;rintro y w2 ⟨rfl,rfl⟩;go_wp2;exact K8 (v:=jS #[T U<|Bc f,T U 0]) P2 rfl ⟨⟨_,_,rfl,.inl ⟨rfl,rfl⟩⟩,o⟩
theorem XF(a:M3)(n c:Nat)(N:M7)(lb:Nat)(w:jD)(h:GN w a n c N)(i:Nat)(x:Nd)(hx:N[i]?=Z x)(q:x.op=7)(h0:0<=x.num)(j:M3)(f k:Nat)(ts:M4)(r:jE w (jB lb 1 V)=Z (X j f k))(s:lb<R (Q w))(l:BN w j f k ts):Calls jZ 109 #[X a n c,T U i,jQ<|Z<|jB lb 0 V] w (NdC (ofC 7 ts[x.num.toNat]?) w):=by
 have H:=h.len;have hi:i<Y N:=(zL.1 hx).1;have u:N[i]=x:=(zL.1 hx).2;have I:(i:Int)<(n:Int):=Oa;obtain⟨b,J,rfl,K,an,nn,cn,y,z,A,c0,c1,c2,c3,c4,L,B⟩:=h.cells i hi;rw[u]at c0 c1 c2 B;rw[q]at c0;have M:=l.len;generalize x.text=C at*;obtain⟨d,D⟩:∃d:Nat,x.num=d:=⟨x.num.toNat,Oa⟩;rw[D]at c1|-;rw[zP];have g:=Ar w<|CW 7 d C an nn cn y z A;have O:=(g.cell (p:=(jB lb 1 V)) s).trans r;have E:=l.below g NLN;by_cases P:f<=d
 .have F:(f:Int)<=(d:Int):=Oa;go_enter func109,ntmps109;go_wp2_with fail;go_region;all_goals go_wp2;exact K8 (v:=jS #[T U 0,T U 7]) P2 rfl ⟨⟨_,_,rfl,.inr ⟨Ob,Aa<|Ab<|show ofC 7 ts[d]?=.error 7 by rw[zw Oa];rfl⟩⟩,g.drew⟩
 have F:¬ ((f:Int)<=(d:Int)):=Oa;have S:(d:Int)<(f:Int):=Oa;have m:d<Y ts:=Oa;obtain⟨W,aa,rfl,ab,G⟩:=E.cells d m;have o:=Ab (show ofC 7 ts[d]?=.ok ts[d]by rw[zE m];rfl);generalize ts[d]=t at G o;go_enter func109,ntmps109;go_wp2_with fail;go_region;all_goals go_wp2_with fail;go_region;all_goals go_wp2;exact K8 (v:=jS #[T U t,T U 0]) P2 rfl ⟨⟨_,_,rfl,.inl ⟨rfl,Aa o⟩⟩,g.drew.drew⟩
def FdX(x:Nd):Prop:=(Y x.aC:Int)=Ci x.op/\(x.op=7->0<=x.num)
theorem fdB{x:Nd}(h:By x=jG):FdX x:=by rw[By,zF,zO]at h;refine⟨h.1,λe=>?_⟩;grind
theorem fdU{x:Nd}(h:Bu x=jG):FdX x:=by have h2:=((JX x).1 h).2;rw[Bu,zF,zO]at h;exact⟨h.1,λe=>(h2 e).1⟩
theorem XC{x:Nd}(h:Jw x.op)(a:(Y x.aC:Int)=Ci x.op):Y (Fu x.op).1<=Y x.aC:=by
 unfold Jw at h;generalize x.op=op at*;generalize Y x.aC=m at*;by_cases h1:1<=op/\op<=7
 .have:op=1\/op=2\/op=3\/op=4:=Oa;grind[Fu]
 by_cases h2:8<=op/\op<=10
 .rw[Ci,K0 h1,K1 h2]at a;have:op=8\/op=9\/op=10:=Oa;grind[Fu]
 by_cases h3:11<=op/\op<=26
 .rw[Ci,K0 h1,K0 h2,K1 h3]at a;have:op=11\/op=12\/op=13\/op=14\/op=15\/op=16\/op=17\/op=18\/op=19\/op=20\/op=21\/op=22\/op=23\/op=24\/op=25\/op=26:=Oa;obtain rfl|rfl|rfl|rfl|rfl|rfl|rfl|rfl|rfl|rfl|rfl|rfl|rfl|rfl|rfl|rfl:=this<;>simp[Fu]<;>omega
 have h4:op=27:=Oa;rw[Ci,K0 h1,K0 h2,K0 h3,K1 h4]at a;subst h4;simp[Fu];omega
def Dy(N:M7)(L:Nz):Bool:=match CD (N.map Nd.aC) (Y N) [] 0 with|none=>jI|some S=>decide (Al S=L.flatMap Aj)
theorem Ca{b:Nat}{a c:jF}(R:Ah w b #[a,c] t):jE w (jB b 0 V)=Z a/\jE w (jB b 1 V)=Z c:=⟨R.cell 0,R.cell 1⟩
theorem XU{K:List M4}:∀{k:Nat}{S:List (Nat×Nat)},CD K k [] 0=Z S->Y S<=k/\k<=Y K\/k=0/\S=[]|0,S,h=>by right;rw[CD]at h;cases h;exact⟨rfl,rfl⟩|k+1,S,h=>by left;rw[IN K k 1 [] 0]at h;cases h1:CD K k [] 0 with|none=>rw[h1]at h;cases h|some a=>rw[h1]at h;change CD K 1 a (0+k)=Z S at h;rw[zT,CD]at h;cases h2:K[k]?with|none=>rw[h2]at h;cases h|some ks=>rw[h2]at h;dsimp only at h;cases h3:Eg a k ks with|none=>rw[h3]at h;cases h|some c=>
     rw[h3]at h;change Z c=Z S at h;cases h;have f:=(zL.1 h2).1;obtain⟨A,B,e1,_,_,e2⟩:=SF h3;have d:=XU h1;rw[e2,zC,yF];obtain⟨b,i2⟩|⟨b,i2⟩:=d
     .rw[e1,zC]at b;omega
     rw[e1]at i2;have:=List.append_eq_nil_iff.1 i2;rw[this.1];simp;omega
theorem BN.aV{v v':jF}{a:M3}{n c:Nat}{L:M4}(h:BN w a n c L)(k:Gm w v w' v')(g:∀x,a=Z x->Z (jW x)≠jO v):BN w' a n c L:=⟨h.len,h.aH,λj i=>by obtain⟨b,l,d,f,c0⟩:=h.cells j i;exact⟨b,l,d,zG f k.2.2,(L0 (w:=w)<|k.1 b f<|g _ d).trans c0⟩⟩
structure Lm(B lb:Nat)(ns:M6)(ts tt:M4)(nv lv tv:jF)(w:jD):Prop where
 row:Ah w lb #[nv,lv] 118
 aE:jP w B 9 1 nv (Y ns)<|ns.map Value.string
 aQ:jP w B 3 1 lv (Y ts)<|Ap ts
 types:jP w B 3 1 tv (Y tt)<|Ap tt
 aP:lb<B
 bH:∀q,jO lv=Z q->jO tv≠Z q
theorem Lm.below{b c:jF}(h:Lm B lb ns ts tt b lv c w)(a:Ak w w'):Lm B lb ns ts tt b lv c w':=⟨h.row.aB a NLN,Ai h.aE a NLN,Ai h.aQ a NLN,Ai h.types a NLN,h.aP,h.bH⟩
theorem Lm.dN{b c a:jF}(h:Lm B lb ns ts tt b lv c w)(O:jP w' B 3 1 a (Y<|tt++ys)<|Ap<|tt++ys)(K:Gm w c w' a)(d:Below B w w'):Lm B lb ns ts (tt++ys) b lv a w':=by
 refine⟨h.row.below d h.aP,Ac h.aE λq hq=>K.1 q (h.aE.lt q hq).2 λe=>Ao h.aE h.types Ob q hq e.symm,Ac h.aQ λq hq=>K.1 q (h.aQ.lt q hq).2 λe=>h.bH q hq e.symm,O,h.aP,λq hq e=>?_⟩;obtain e2|e2:=K.2.1 q e
 .exact h.bH q hq e2
 have:=(h.aQ.lt q hq).2;omega
theorem Lm.set{a b:jF}(h:Lm B lb ns ts tt a lv b w)(p:jH)(u:jF)(h1:jW p<B)(h2:jW p≠lb):Lm B lb ns ts tt a lv b<|jM w p u:=⟨h.row.aJ (λe=>h2 e.symm) u,Ag h.aE p u λq hq=>G7<|(h.aE.lt q hq).1,Ag h.aQ p u λq hq=>G7<|(h.aQ.lt q hq).1,Ag h.types p u λq hq=>G7<|(h.types.lt q hq).1,h.aP,h.bH⟩
theorem Lm.cS{b:jF}{a:jD}{nm:M1}{cap:Nat}(h:Lm B lb ns ts tt b lv i w)(hB:B<=R (Q w))(j:jP a B 9 1 (X (Z<|jB g 0 V) (Y ns+1) cap) (Y ns+1)<|ns.map Value.string++[jA nm])(c:(jK w o).grownBy a<|jO b)(hat:jO b=Z g\/g=R (Q w)+1):Ah a lb #[b,lv] 118/\Lm B lb (ns++[nm]) ts tt (X (Z<|jB g 0 V) (Y ns+1) cap) lv i (jM a (jB lb 0 V)<|X (Z<|jB g 0 V) (Y ns+1) cap)/\(∀k,k<R (Q w)->k≠lb->Z k≠jO b->(Q<|jM a (jB lb 0 V)<|X (Z<|jB g 0 V) (Y ns+1) cap)[k]?=(Q w)[k]?)/\R (Q w)<=R (Q a):=by have l:=Ad h.row h.aE Ob;have n2:=Ad h.row h.aQ Ob;have n3:=Ad h.row h.types Ob;have d:=(h.row.alloc o).grown c λe=>l e.symm;have m:=Ad d j Ob;have r:g≠lb:=λe=>m G1;have n:R (Q<|jK w o)=R (Q w)+1:=Oz;have f:∀k,k<R (Q w)->k≠lb->Z k≠jO b->(Q<|jM a (jB lb 0 V)<|X (Z<|jB g 0 V) (Y ns+1) cap)[k]?=(Q w)[k]?:=λk h1 h2 h3=>(L2 a (jB lb 0 V) k _ h2).trans ((c.block k (by rw[n];omega) h3).trans<|Below.heap_alloc w o k h1);have p:R (Q w)<=R (Q a):=G7 c.size;refine⟨d,⟨d.set 0<|X (Z<|jB g 0 V) (Y ns+1) cap,?_,Ac h.aQ λq hq=>f q (h.aQ.lt q hq).2 (λe=>n2<|e ▸ hq) λe=>Ao h.aE h.aQ Ob q e.symm hq,Ac h.types λq hq=>f q (h.types.lt q hq).2 (λe=>n3<|e ▸ hq) λe=>Ao h.aE h.types Ob q e.symm hq,h.aP,h.bH⟩,f,p⟩;grind[Ag]
theorem Lm.cU{b:jF}{a:jD}{t:Int}{cap:Nat}(h:Lm B lb ns ts tt b lv i w)(hB:B<=R (Q w))(j:jP a B 3 1 (X (Z<|jB g 0 V) (Y ts+1) cap) (Y ts+1)<|Ap ts++[T U t])(c:(jK w o).grownBy a<|jO lv)(hat:jO lv=Z g\/g=R (Q w)+1):Ah a lb #[b,lv] 118/\Lm B lb ns (ts++[t]) tt b (X (Z<|jB g 0 V) (Y ts+1) cap) i (jM a (jB lb 1 V)<|X (Z<|jB g 0 V) (Y ts+1) cap)/\(∀k,k<R (Q w)->k≠lb->Z k≠jO lv->(Q<|jM a (jB lb 1 V)<|X (Z<|jB g 0 V) (Y ts+1) cap)[k]?=(Q w)[k]?)/\R (Q w)<=R (Q a):=by
 have l:=Ad h.row h.aE Ob;have n2:=Ad h.row h.aQ Ob;have n3:=Ad h.row h.types Ob;have d:=(h.row.alloc o).grown c λe=>n2 e.symm;have m:=Ad d j Ob;have r:g≠lb:=λe=>m G1;have n:R (Q<|jK w o)=R (Q w)+1:=Oz;have f:∀k,k<R (Q w)->k≠lb->Z k≠jO lv->(Q<|jM a (jB lb 1 V)<|X (Z<|jB g 0 V) (Y ts+1) cap)[k]?=(Q w)[k]?:=λk h1 h2 h3=>(L2 a (jB lb 1 V) k _ h2).trans ((c.block k (by rw[n];omega) h3).trans<|Below.heap_alloc w o k h1);have p:R (Q w)<=R (Q a):=G7 c.size;refine⟨d,⟨d.set 1<|X (Z<|jB g 0 V) (Y ts+1) cap,Ac h.aE λq hq=>f q (h.aE.lt q hq).2 (λe=>l<|e ▸ hq) λe=>Ao h.aE h.aQ Ob q hq e.symm,?_,Ac h.types λq hq=>f q (h.types.lt q hq).2 (λe=>n3<|e ▸ hq) λe=>h.bH q e.symm hq,h.aP,λq hq e=>?_⟩,f,p⟩
 .grind[Ap,Ag]
 have:g=q:=P1;subst this;obtain hat|hat:=hat
 .grind[Lm.bH]
 have:=(h.types.lt g e).2;omega
structure Ls(B rb lb fb sb:Nat)(ns:M6)(ts tt:M4)(nv lv tv:jF)(S:Array jF)(fc fa:Int)(w0 w:jD):Prop where
 M:Lm B lb ns ts tt nv lv tv w
 F:Ah w fb #[T U fc,T U fa] 51
 Rr:Ah w rb #[T U 0,T U 0] 51
 S:Ah w sb S 97
 aP:Below rb w0 w
 dC:rb<lb/\lb<fb/\fb<B/\B<=sb
theorem Ls.below{B b lb c d:Nat}{ns:M6}{ts tt:M4}{f lv g:jF}{S:Array jF}{i j:Int}{k w w':jD}(h:Ls B b lb c d ns ts tt f lv g S i j k w)(a:Ak w w'):Ls B b lb c d ns ts tt f lv g S i j k w':=⟨h.M.below a,h.F.aB a NLN,h.Rr.aB a NLN,h.S.aB a NLN,h.aP.trans<|a.mono<|G7 h.Rr.lt,h.dC⟩
theorem Ls.dN{B d lb f b:Nat}{ns:M6}{ts tt ys:M4}{g lv i c:jF}{S:Array jF}{j k:Int}{l w w':jD}(h:Ls B d lb f b ns ts tt g lv i S j k l w)(O:jP w' B 3 1 c (Y<|tt++ys)<|Ap<|tt++ys)(K:Gm w i w' c)(a:Below B w w'):Ls B d lb f b ns ts (tt++ys) g lv c S j k l w':=⟨h.M.dN O K a,h.F.below a h.dC.2.2.1,h.Rr.below a<|G7 h.dC,⟨(K.1 b h.S.lt λe=>Ad h.S h.M.types Ob e.symm).trans h.S.out⟩,h.aP.trans<|a.mono<|G7 h.dC,h.dC⟩
theorem Ls.fault{d lb b f:Nat}{g:jF}{S:Array jF}{k l:Int}{j w:jD}(h:Ls B d lb b f ns ts tt g lv i S k l j w)(c a:Int):Ls B d lb b f ns ts tt g lv i S c a j<|jM (jM w (jB b 0 V)<|T U c) (jB b 1 V)<|T U a:=by have o:=h.dC;refine⟨(h.M.set (jB b 0 V) _ o.2.2.1 (Oa:b≠lb)).set (jB b 1 V) _ o.2.2.1 (Oa:b≠lb),(h.F.set 0 _).set 1 _,(h.Rr.aJ (Oa:d≠b) _).aJ (Oa:d≠b) _,(h.S.aJ (Oa:f≠b) _).aJ (Oa:f≠b) _,?_,o⟩;grind[Go.RowKit.Below.setCell,Ls.aP]
theorem Ls.dU{a lb b:Nat}{g:M6}{ts':M4}{s d i j:jF}{S:Array jF}{l m:Int}{p w w':jD}{e:TypeId}{size n:Nat}{r:jF}{t:N4}(h:Ls B a lb b c ns ts tt s lv d S l m p w)(hx:jP w B e size r n t)(h1:51≠e)(h2:97≠e)(M:Lm B lb g ts' tt i j d w')(f:∀k,k<R (Q w)->k≠lb->Z k≠jO r->(Q w')[k]?=(Q w)[k]?)(u:Below a w w'):Ls B a lb b c g ts' tt i j d S l m p w':=by have o:=h.dC;exact⟨M,⟨(f b h.F.lt Oa λq=>Ad h.F hx h1 q.symm).trans h.F.out⟩,⟨(f a h.Rr.lt Oa λq=>Ad h.Rr hx h1 q.symm).trans h.Rr.out⟩,⟨(f c h.S.lt Oa λq=>Ad h.S hx h2 q.symm).trans h.S.out⟩,h.aP.trans u,o⟩
set_option maxHeartbeats 3200000
def fB(F:Int->Nat)(ks:M4):Nat:=ks.foldl (λd k=>max d<|F k) 0
theorem AbG(F:Int->Nat)(ks:M4)(k:Int):fB F (ks++[k])=max (fB F ks) (F k):=by rw[fB,List.foldl_append];rfl
theorem AhZ{F:Int->Nat}{M:Nat}(h:∀k,F k<=M):∀(ks:M4)(d:Nat),d<=M->ks.foldl (λd k=>max d<|F k) d<=M:=by intro ks;induction ks<;>intros<;>grind
theorem Vd(K:List M4):∀(n:Nat)(t:Int),Ct K n t<=n+1:=by intro n;induction n<;>intros<;>simp_all[Ct,AhZ]
theorem Dg(a:M3)(n c:Nat)(N:M7)(C:jD)(D:GN C a n c N)(J:∀t,(h:t<Y N)->∀y∈N[t].aC,0<=y/\y<(t:Int)):∀(fuel t:Nat)(w:jD),fuel<=4001->t<n->t<fuel->Ak C w->Calls jZ 57 #[X a n c,T U t] w λe w'=>e=jN (T U<|Ct (N.map Nd.aC) fuel (t:Int))/\Ak w w':=by have K:=Ab D.len;have L:=Ab J;intro fuel;induction fuel with|zero=>intro t w _ _ h;omega|succ fuel r=>
  intro t w ai M aj u;have v:t<Y N:=by rw[Aa K];exact M
  have ak:(t:Int)<(n:Int):=Oa;have E:=Aa L t v;have O:=Ab (show Ct (N.map Nd.aC) (fuel+1) (t:Int)=fB (Ct (N.map Nd.aC) fuel) N[t].aC+1 by rw[Ct];dsimp only;rw[zP,zf,zi,zE v];rfl);have G:=Ab<|Vd (N.map Nd.aC) fuel;obtain⟨b,P,rfl,S,an,nn,cn,al,g,ao,c0,c1,c2,c3,c4,W,m⟩:=D.cells t v;have c4:=(u.cell (p:=⟨b,P+t*5+4,V⟩) S).trans c4;rw[Aa O];generalize N[t]=x at c4 W m E|-;generalize Ct (N.map Nd.aC) fuel=F at r G|-;have H:=Ab m.len;have ap:=m.aH;have aa:=Ab E;go_enter func57,ntmps57;go_wp2_with fail;go_loopw[5,15] (λd i wr=>∃j:Nat,j<=g/\i=T U j/\d=T U (fB F<|x.aC.take j)/\fB F (x.aC.take j)<=4001/\Ak w wr) (λ_ i _=>g-(intOf i).toNat);case atStart=>exact⟨0,Oa,rfl,rfl,by simp[fB],BRN⟩
  obtain⟨j,aq,rfl,rfl,hd,f⟩:=hrel;have z:=u.trans<|f.mono u.size;by_cases I:j<g
  .have ar:(j:Int)<(g:Int):=Oa;have A:j<Y x.aC:=by rw[Aa H];exact I
   obtain⟨au,ok,rfl,av,ab⟩:=(m.below z NLN).cells j A;obtain⟨ac,ad⟩:=Aa aa x.aC[j]<|zI A;have o:=Ab (show fB F (x.aC.take<|j+1)=max (fB F<|x.aC.take j) (F x.aC[j])by rw[zY A,AbG]);have q:=Ab I;generalize x.aC[j]=y at ab ac ad o;obtain⟨s,rfl⟩:∃s:Nat,y=(s:Int):=⟨y.toNat,Oa⟩;have aw:=Aa G (s:Int);generalize fB F (x.aC.take j)=k at hd o;by_cases ax:k<F (s:Int)
   .have ae:(k:Int)<(F (s:Int):Int):=Oa;have l:=Ab (show fB F (x.aC.take<|j+1)=F (s:Int)by rw[Aa o];omega);go_wp2_with (go_at_call 57;refine(r s wr Oa Oa Oa z).mono ?_;rintro e w2 ⟨rfl,B⟩);go_roundw;case rel=>exact⟨j+1,Aa q,O0,by rw[Aa l],by rw[Aa l];omega,f.trans<|B.mono f.size⟩
    have:=Aa q;simp[intOf];omega
   have ae:¬ ((k:Int)<(F (s:Int):Int)):=Oa;have l:=Ab (show fB F (x.aC.take<|j+1)=k by rw[Aa o];omega);go_wp2_with (go_at_call 57;refine(r s wr Oa Oa Oa z).mono ?_;rintro e w2 ⟨rfl,B⟩);go_roundw;case rel=>exact⟨j+1,Aa q,O0,by rw[Aa l],by rw[Aa l];omega,f.trans<|B.mono f.size⟩
   have:=Aa q;simp[intOf];omega
  have e:j=g:=Oa;subst e;have af:=Ab (show x.aC.take j=x.aC from zh<|by rw[Aa H];exact NLN);rw[Aa af]at hd|-;generalize ag:fB F x.aC=k at hd|-;have ah:=Ab ag;go_wp2;go_ret;exact⟨by rw[Aa ah,Int.natCast_add];rfl,f⟩
def SK(L:Nz)(j:Nat)(h:j<Y L):Bool:=CU (decide (j+1=Y L)) L[j]
theorem Mi:∀(L:Nz),GF L=jG↔∀j,(h:j<Y L)->SK L j h=jG
 |[]=>by simp[GF]|s::r=>by
  rw[GF,zF,Mi r];have e:r.isEmpty=decide (0+1=Y (s::r)):=by cases r<;>simp
  constructor
  .rintro⟨h1,h2⟩j a;cases j<;>simp_all[SK]
  intro h;refine⟨by rw[e];exact h 0 Oz,λj a=>?_⟩;have:=h (j+1) (by simpa using a);simp_all[SK]
theorem SL(L:Nz)(k:Nat)(h:k<Y L):(L.take<|k+1).flatMap Av=(L.take k).flatMap Av++Av L[k]:=by grind[zY]
def NJ(K:List M4)(n:Nat)(rs:M4):M4:=rs.foldl (λo r=>Bf K n r o) []
theorem Zr(K:List M4)(n:Nat)(rs a:M4):NJ K n (rs++a)=a.foldl (λo b=>Bf K n b o) (NJ K n rs):=by rw[NJ,List.foldl_append,NJ]
theorem As.aC{K:List M4}{a b:Nat}{c:List (Nat×Nat)}(h:As K a c b):∀j,a<=j->j<b->∃ks,K[j]?=Z (Al ks)/\∀p∈ks,p.1<j:=by induction h with|nil a=>omega|cons d ht hf g i2=>
   rename_i a t b ks c;intro j h1 h2;obtain e|e|e:=Nat.lt_trichotomy j t
   .grind
   .subst e;exact⟨ks,ht,λp f=>(d.lt p f).2⟩
   grind
theorem AbJ{N:M7}{n:Nat}{rs:M4}(g:Y N=n)(d:Y (NJ (N.map Nd.aC) n rs)=n)(hg:GM<|NJ (N.map Nd.aC) n rs):(∀t,(h:t<Y N)->∀y∈N[t].aC,0<=y/\y<(t:Int))/\∀a∈rs,0<=a/\a<(n:Int):=by
 obtain⟨f,e1,hf⟩:=Mg (K:=N.map Nd.aC) (n:=n) rs [] hg;have hf':As (N.map Nd.aC) 0 f n:=by have:Y (rs.foldl (λo k=>Bf (N.map Nd.aC) n k o) [])=n:=d;grind
 constructor
 .intro t h y hy;obtain⟨ks,h1,h2⟩:=hf'.aC t (zH _) Oa;rw[zi,zE h]at h1;have h3:N[t].aC=Al ks:=by simpa using h1
  rw[h3]at hy;obtain⟨p,b,rfl⟩:=zU.1 hy;grind
 intro a c;rw[<-e1]at c;obtain⟨p,b,rfl⟩:=zU.1 c;have:=hf'.lt p b;omega
set_option maxHeartbeats 800000
theorem Ads(a:M3)(n c:Nat)(ss:M6)(j:M3)(k l:Nat)(tt:M6)(w:jD)(h:Am w a n c ss)(i:Am w j k l tt):Calls jZ 165 #[X a n c,X j k l] w λe w'=>MY w ss tt e w':=by
 cases b:Ax ss
 .have d:=Ab (show Bq ss tt=[]by simp[Bq,b]);go_enter func165,ntmps165;go_wp2_with fail;refine(Ay _ _ _ _ _ h).mono ?_;rintro e f ⟨rfl,rfl⟩;rw[b];go_wp2;go_ret;exact Hr (Aa d) BRN
 cases g:Ax tt
 .have d:=Ab (show Bq ss tt=[]by simp[Bq,g]);go_enter func165,ntmps165;go_wp2_with fail;refine(Ay _ _ _ _ _ h).mono ?_;rintro e f ⟨rfl,rfl⟩;rw[b];go_wp2_with fail;refine(Ay _ _ _ _ _ i).mono ?_;rintro e f ⟨rfl,rfl⟩;rw[g];go_wp2;go_ret;exact Hr (Aa d) BRN
 have q:=(CF b).1;have d:=Ab (show Bq ss tt=CX ss tt jG by simp[Bq,b,g]);go_enter func165,ntmps165;go_wp2_with fail;refine(Ay _ _ _ _ _ h).mono ?_;rintro e f ⟨rfl,rfl⟩;rw[b];go_wp2_with fail;refine(Ay _ _ _ _ _ i).mono ?_;rintro e f ⟨rfl,rfl⟩;rw[g];go_wp2_with fail;refine(LJ _ _ _ _ _ _ _ _ _ _ h i Q5).mono ?_;rintro e f ⟨x,m,rfl,o,p⟩;go_wp2;go_ret;unfold MY;rw[Aa d];exact⟨x,m,rfl,o,p⟩
theorem ZY(a:M3)(n c:Nat)(ss:M6)(j:M3)(k l:Nat)(tt:M6)(w:jD)(h:Am w a n c ss)(i:Am w j k l tt):Calls jZ 166 #[X a n c,X j k l] w λe w'=>Ka w ss tt e w':=by
 cases b:Ax ss
 .have d:=Ab (show AP ss tt=[]by simp[AP,b]);go_enter func166,ntmps166;go_wp2_with fail;refine(Ay _ _ _ _ _ h).mono ?_;rintro e f ⟨rfl,rfl⟩;rw[b];go_wp2;go_ret;exact FQ (Aa d) BRN
 cases g:Ax tt
 .have d:=Ab (show AP ss tt=[]by simp[AP,g]);go_enter func166,ntmps166;go_wp2_with fail;refine(Ay _ _ _ _ _ h).mono ?_;rintro e f ⟨rfl,rfl⟩;rw[b];go_wp2_with fail;refine(Ay _ _ _ _ _ i).mono ?_;rintro e f ⟨rfl,rfl⟩;rw[g];go_wp2;go_ret;exact FQ (Aa d) BRN
 have q:=(CF b).1;have d:=Ab (show AP ss tt=CX ss tt jI by simp[AP,b,g]);go_enter func166,ntmps166;go_wp2_with fail;refine(Ay _ _ _ _ _ h).mono ?_;rintro e f ⟨rfl,rfl⟩;rw[b];go_wp2_with fail;refine(Ay _ _ _ _ _ i).mono ?_;rintro e f ⟨rfl,rfl⟩;rw[g];go_wp2_with fail;refine(LJ _ _ _ _ _ _ _ _ _ _ h i Q5).mono ?_;rintro e f ⟨x,m,rfl,o,p⟩;go_wp2;go_ret;unfold Ka;rw[Aa d];exact⟨x,m,rfl,o,p⟩
set_option maxHeartbeats 3200000
theorem Jq(x:Nd)(an:M3)(nn cn:Nat)(h:M3)(i j:Nat)(w:jD)(n:Am w an nn cn x.aE)(hs:x.text.size<=1048576):Calls jZ 23 #[ndV x.op x.num x.text an nn cn h i j] w λe w'=>e=jN (.bool<|Px x)/\Ak w w':=by
 have r:=n.len;have c:=Ab λu v=>ML x an nn cn h i j u (n.below v NLN) hs;have a:=Ab<|show Px x=(if x.op=5 then jI else if x.op=6 then decide (0<=x.num/\x.num<6)&&decide (x.text.size=0)&&decide (Y x.aE=0)else if x.op=7\/x.op=1 then decide (x.text.size=0)&&decide (Y x.aE=0)else wfB x)from rfl;rw[<-r]at a;generalize Px x=z at a|-;generalize wfB x=A at a c;obtain⟨op,num,text,B,C⟩:=x;unfold ndV at c|-;simp only at a c hs|-;have k:=Ah.new w #[T U op,T U num,jA text,X an nn cn,X h i j] 112;have b:=Ar w<|CW op num text an nn cn h i j;obtain⟨c0,c1,c2,c3,c4,o⟩:=Cp k;have g:text.toList.isEmpty=decide (text.size=0):=O5;have d:=Ab g;have f:=Ab<|Ds text;clear n r g;by_cases l:op=5
 .subst l;have a:=Ab ((Aa a).trans<|by rw[K1 rfl]);clear c;go_enter func23,ntmps23;go_wp2;all_goals go_ret;exact⟨Ae (Aa a).symm,b⟩
 by_cases m:op=6
 .subst m;have a:=Ab ((Aa a).trans<|by rw[K0 Oa,K1 rfl]);clear c;go_enter func23,ntmps23;go_wp2;all_goals go_ret;refine⟨Ae ?_,b⟩;rw[Aa a];have g:=Aa d;have s:=Aa f;have t:((nn:Int)==0)=decide (nn=0):=P7;clear a k b c0 c1 c2 c3 c4 o d f;simp_all;try omega
 by_cases p:op=7
 .subst p;have a:=Ab ((Aa a).trans<|by rw[K0 Oa,K0 Oa,K1<|.inl rfl]);clear c;go_enter func23,ntmps23;go_wp2;all_goals go_ret;refine⟨Ae ?_,b⟩;rw[Aa a];have g:=Aa d;have s:=Aa f;have t:((nn:Int)==0)=decide (nn=0):=P7;clear a k b c0 c1 c2 c3 c4 o d f;simp_all
 by_cases q:op=1
 .subst q;have a:=Ab ((Aa a).trans<|by rw[K0 Oa,K0 Oa,K1<|.inr rfl]);clear c;go_enter func23,ntmps23;go_wp2;all_goals go_ret;refine⟨Ae ?_,b⟩;rw[Aa a];have g:=Aa d;have s:=Aa f;have t:((nn:Int)==0)=decide (nn=0):=P7;clear a k b c0 c1 c2 c3 c4 o d f;simp_all
 have a:=Ab ((Aa a).trans<|by rw[K0 l,K0 m,K0 Oa]);have D:=zA.2 q;have E:=zA.2 l;have F:=zA.2 m;have G:=zA.2 p;clear q l m p;go_enter func23,ntmps23;go_wp2_with (go_at_call 65;refine(Aa c _ b).mono ?_;rintro e w2 ⟨rfl,y⟩);all_goals go_ret;exact⟨Ae (Aa a).symm,b.trans<|y.mono b.size⟩
theorem UM(h:s.size=0):s=⟨#[]⟩:=by cases s with|mk d=>have:d.size=0:=h;grind
end Go.Proofs.YtlcfoihgfcmfeaaGreatDoor

import Derived.Test.YtnjpihpohilnjaaGreatDoorMXAY
open List renaming length->T
open Option renaming none->U,some->Q
open Array renaming size->R
open Go renaming World->jB,Value->jF,Addr->jG,TypeId->jV
open Bool renaming true->jD,false->jE
namespace Go.Proofs.YtnjpihpohilnjaaGreatDoor
open Proofs.Tryz
open Value renaming int->V,slice->Y,string->jC,ownBlock->jL,pointer->jP,tuple->jQ,iface->jU,nilIface->jX
open IntKind renaming i64->X
open World renaming heap->Z,cell?->jI,alloc->jK,ownsRow->jO
open Addr renaming mk->jA,block->jT
open Obj renaming cells->jH
open Ending renaming returned->jN
open Proofs.Tryz renaming prog->jZ
open Go.RowKit
set_option linter.unusedVariables false
set_option maxRecDepth 100000
set_option maxHeartbeats 3200000
variable{i:Be}{op t b:Int}{ss tt K:L4}{ts:L2}{a:L7}{P:M1}{lo M at_ c:Nat}{x:L3}{v:jF}{s:Vs}{w w':jB}
def vl4 (x:Vl) (u:jF):L7:= [V X x.aC,V X x.num,jC x.text,u]
def JX:M1->L7->L7
 |x ::P,u ::nv=>vl4 x u++JX P nv
 |_,_=> []
theorem PY:∀(P:M1) (a:L7) (x:Vl) (u:jF),T a=T P->JX (P++[x]) (a++[u])=JX P a++vl4 x u
 |[],[],x,u,_=>by simp[JX]
 |[],_ ::_,x,u,h=>Hr
 |y ::P,[],x,u,h=>Hr
 |y ::P,z ::a,x,u,h=>by
  have:=PY P a x u Q6
  grind [JX]
theorem UD:∀(P:M1) (a:L7) (j:Nat) (h:j<T P) (b:j<T a),(JX P a)[j*4]? =Q (V X P[j].aC)/\(JX P a)[j*4+1]? =Q (V X P[j].num)/\(JX P a)[j*4+2]? =Q (jC P[j].text)/\(JX P a)[j*4+3]? =Q a[j]
 |x ::P,u ::a,0,_,_=>by simp[JX,vl4]
 |x ::P,u ::a,j+1,h,b=>by
  have c:=UD P a j Q6 (by simpa using b)
  grind [vl4,JX]
 |[],_,_,h,_=>H9 h Ox
 |_ ::_,[],_,_,h=>H9 h Ox
structure Dz (w:jB) (lo:Nat) (v:jF) (P:M1) (nv:L7):Prop where
 len:T nv=T P
 aN:jO w lo 77 4 v (T P)<|JX P nv
 aB:∀j,(h:j<T P)->(h':j<T nv)->jO w lo 9 1 nv[j] (T P[j].aB) (P[j].aB.map Value.string)
 bA:∀i j,(hij:i<j)->(h:j<T nv)->∀q,jL (nv[i]' Oa)=Q q->jL nv[j]≠Q q
 bF:∀j,(h:j<T nv)->∀q,jL nv[j]=Q q->jL v≠Q q
theorem Dz.nil (w:jB)(lo:Nat):Dz w lo (Y U 0 0) [] []:=
 ⟨rfl,H3,λj h=>H9 h Ox,λi j _ h=>H9 h Ox,λj h=>H9 h Ox⟩
theorem Dz.bW (h:Dz w lo v P a):(∀q,jL v=Q q->lo<=q/\q<R (Z w))/\∀j,(b:j<T a)->∀q,jL a[j]=Q q->lo<=q/\q<R (Z w):=
 ⟨λq hq=>h.aN.lt q hq,λj b q hq=>(h.aB j (by rw[<-h.len];exact b) b).lt q hq⟩
theorem Dz.bM {b:L7}(h:Dz w lo v P b)(hd:∀k,lo<=k->k<R (Z w)->(Z w')[k]? =(Z w)[k]?):Dz w' lo v P b:=
 ⟨h.len,Ad h.aN λq hq=>hd q (h.bW.1 q hq).1 (h.bW.1 q hq).2,λj c a=>Ad (h.aB j c a) λq hq=>hd q (h.bW.2 j a q hq).1 (h.bW.2 j a q hq).2,h.bA,h.bF⟩
theorem Dz.aR {a:Nat}{b:L7}(h:Dz w lo v P b)(T:AU M a w w')(hd:a<=lo):Dz w' lo v P b:=by grind [Dz.bM,AU.block]
theorem Dz.set (h:Dz w lo v P a)(p:jG)(u:jF)(b:jT p<lo):Dz (World.setCell w p u) lo v P a:=by grind [Go.heap_setCell_other,Dz.bM]
theorem Dz.low {lo':Nat}(h:Dz w lo v P a)(b:lo'<=lo):Dz w lo' v P a:=
 ⟨h.len,Az h.aN b,λj c d=>Az (h.aB j c d) b,h.bA,h.bF⟩
theorem Dz.grown {row:N8}(h:Dz w lo v P a)(hg:w.grownBy w' row)(c:∀q,row=Q q->jL v≠Q q/\∀j,(d:j<T a)->jL a[j]≠Q q):Dz w' lo v P a:=
 ⟨h.len,Ad h.aN λq hq=>hg.block q (h.bW.1 q hq).2 λe=>(c q e.symm).1 hq,λj d b=>Ad (h.aB j d b) λq hq=>hg.block q (h.bW.2 j b q hq).2 λe=>(c q e.symm).2 j b hq,h.bA,h.bF⟩
theorem Dz.bN {b w2:jB}{v' u:jF}{x:Vl}(h:Dz b lo v P a)
  (hu:jO b lo 9 1 u (T x.aB)<|x.aB.map Value.string)(k:∀j,(c:j<T a)->∀q,jL a[j]=Q q->jL u≠Q q)(l:∀q,jL u=Q q->jL v≠Q q)
  (g:jO w2 lo 77 4 v' (T P+1)<|JX P a++vl4 x u)(hg:b.grownBy w2<|jL v)(hv:∀q,jL v'=Q q->jL v=Q q\/R (Z b)<=q):Dz w2 lo v' (P++[x])<|a++[u]:=by
 have d:=h.len;have m:∀j,(c:j<T (a++[u]))->∀q,jL (a++[u])[j]=Q q->q<R (Z b)/\jL v≠Q q:=λj c q hq=>by grind [Go.World.ownsRow.lt,zx,Dz.bF,Dz.bW]
 refine⟨by simp[d],by rw[zC,z1,PY _ _ _ _ d];exact g,λj c n=>?_,λi j o c q hq=>?_,λj c q hq=>?_⟩
 .by_cases f:j<T a
  .have a1:(a++[u])[j]=a[j]:=zx f;have a2:(P++[x])[j]=P[j]' Oa:=zx Oa;rw[a1,a2];refine Ad (h.aB j Oa f) (λq hq=>?_)
   grind [Go.World.grownBy.block]
  grind [Go.World.grownBy.block,Ad]
 all_goals grind [Dz.bA]
def Tu (x:Vl):Prop:=x.text.size<=255/\T x.aB<=255/\∀s∈x.aB,s.size<=255
theorem Dz.vls {n c:Nat}{a:L3}{d:L7}(h:Dz w lo (Y a n c) P d)(l:T P=n)(p:n<=65535)(ok:∀x∈P,Tu x):SC w a n c P:=by
 refine⟨l,Oa,λx hx=>H2<|(ok x hx).1,λj b=>?_⟩;have k:j<T d:=by rw[h.len];exact b
 obtain⟨c0,c1,c2,c3⟩:=UD P d j b k;obtain⟨g,o⟩:∃g,a=Q (jA g 0 U):=by
  obtain⟨_,h0⟩|⟨g,cap,q,hv,_⟩:=h.aN.2
  all_goals grind
 subst o;subst l;have f:∀i,i<4->jI w ⟨g,0+j*4+i,U⟩=(JX P d)[j*4+i]? :=λi hi=>by rw[zY];exact h.aN.cellAt (g:=g) (n:=T P) (j*4+i) Oa
 obtain⟨an,cn,hu⟩:=AA<|h.aB j b k;have m:=h.aB j b k;rw[hu]at c3 m;refine⟨g,0,rfl,(h.aN.lt g rfl).2,an,_,cn,(f 0 Oa).trans c0,(f 1 Oa).trans c1,(f 2 Oa).trans c2,(f 3 Oa).trans c3,Aq.bG m ?_⟩;intro i hi;have hm:=(ok P[j]<|zI b).2.2 _<|zI hi;rw[Dd _ i hi];unfold maxLen;omega
def Ex.pos:Ex->Int
 |.int i _| .text i _| .bool i _| .set i ..| .name i _| .attr i _| .lett i _| .un i ..| .bin i ..| .ite i .. =>i
theorem Aq.news {b a n:Nat}(hq:Aq w (Q<|jA b a U) n c ss):∀j u,(ss.map Value.string)[j]? =Q u->jI w (((jA b a U):jG).add j)=Q u:=λj u hu=>by
 rw[zr,Option.map_eq_some_iff]at hu;obtain⟨s,hs,rfl⟩:=hu;have d:j<T ss:=(zP.1 hs).1;obtain⟨b1,h,f,_,hc⟩:=hq.cells j<|H2 hq.len;simp only[Option.some.injEq,Addr.mk.injEq,and_true]at f;obtain⟨rfl,rfl⟩:=f;have g:((jA b a U):jG).add j=⟨b,a+j,U⟩:=Qx;rw[g,hc,Dd _ j d];rw[zM d]at hs;cases hs;rfl
inductive MkT (Es:L8) (i:Nat) (x:Nd) (an:Option jG) (nn cn:Nat):Ex->Prop
 |int (ho:x.op=1):MkT Es i x an nn cn<|.int i x.num
 |text (ho:x.op=2):MkT Es i x an nn cn<|.text i x.text
 |bool (ho:x.op=3):MkT Es i x an nn cn<|.bool i<|decide (x.num=1)
 |set (ho:x.op=4):MkT Es i x an nn cn<|.set i an nn cn x.aB
 |name (ho:x.op=5):MkT Es i x an nn cn<|.name i x.text
 |attr (ho:x.op=6):MkT Es i x an nn cn<|.attr i x.num
 |lett (ho:x.op=7):MkT Es i x an nn cn<|.lett i x.num
 |un {k:Nat} {e:Ex} (ho: 8<=x.op/\x.op<=10) (hk:x.aD=[(k:Int)]) (h1:Es[k]? =Q e):MkT Es i x an nn cn<|.un i x.op e
 |bin {k l:Nat} {e f:Ex} (ho: 11<=x.op/\x.op<=26) (hk:x.aD=[(k:Int),(l:Int)]) (h1:Es[k]? =Q e) (h2:Es[l]? =Q f):MkT Es i x an nn cn<|.bin i x.op e f
 |ite {k l m:Nat} {e f g:Ex} (ho:x.op=27) (hk:x.aD=[(k:Int),(l:Int),(m:Int)]) (h1:Es[k]? =Q e) (h2:Es[l]? =Q f) (h3:Es[m]? =Q g):MkT Es i x an nn cn<|.ite i e f g
def Ag2 (o:N7):Prop:=∀a,o=Q a->1<=a/\a<=4
theorem Wt (op a:Int):Ag2<|nz<|By op [a]:=λt h=>by
 obtain⟨b,c⟩:=Ih h;rw[By]at b
 repeat' split at b
 all_goals omega
theorem Wu (op a b:Int):Ag2<|nz<|By op [a,b]:=λt h=>by
 obtain⟨c,d⟩:=Ih h;rw[By]at c;clear h
 repeat' split at c
 all_goals
  subst c
  first
   |decide
   |exact H9 rfl d
theorem Wv (a b c:Int)(f: 1<=b/\b<=4):Ag2<|nz<|By 27 [a,b,c]:=λt h=>by
 obtain⟨d,g⟩:=Ih h;rw[By]at d
 repeat' split at d
 all_goals omega
theorem AiS (ts:L2)(i op:Int)(k:Ex):AX ts (.un i op k)=(AX ts k).bind λa1=>nz<|By op [a1]:=by grind [AX]
theorem Ag3 (ts:L2)(i op:Int)(k l:Ex):AX ts (.bin i op k l)=(AX ts k).bind λa1=>(AX ts l).bind λa2=>nz<|By op [a1,a2]:=by grind [AX]
theorem Ag4 (ts:L2)(i:Int)(k l m:Ex):AX ts (.ite i k l m)=(AX ts k).bind λa1=>(AX ts l).bind λa2=>(AX ts m).bind λa3=>nz<|By 27 [a1,a2,a3]:=by grind [AX]
theorem Aeo {ts:L2}(h:∀t∈ts,1<=t/\t<=4):∀(e:Ex),Ag2 (AX ts e)
 |.int ..,a,k=>Hm
 |.text ..,a,k=>Hm
 |.bool ..,a,k=>Hm
 |.set ..,a,k=>Hm
 |.name ..,a,k=>by cases k
 |.attr _ n,a,k=>by cases k;exact Qw n
 |.lett _ n,a,k=>by
  rw[AX]at k;split at k
  .exact h a (zn k)
  .cases k
 |.un i op e,a,k=>by
  rw[AiS]at k;cases he:AX ts e with
  |none=>grind
  |some b=>rw[he]at k;exact Wt op b a k
 |.bin i op e f,a,k=>by
  rw[Ag3]at k;cases he:AX ts e with
  |none=>grind
  |some b=>
    rw[he]at k;cases j:AX ts f with
    |none=>grind
    |some c=>rw[j]at k;exact Wu op b c a k
 |.ite i e f g,a,k=>by
  rw[Ag4]at k;cases he:AX ts e with
  |none=>grind
  |some b=>
    rw[he]at k;cases j:AX ts f with
    |none=>grind
    |some c=>
      rw[j]at k;cases hg:AX ts g with
      |none=>grind
      |some d=>rw[hg]at k;exact Wv b c d (Aeo h f c j) a k
def Bn:L4:= [⟨#[99,108,105,101,110,116]⟩,⟨#[117,115,101,114]⟩,⟨#[108,101,118,101,108]⟩,⟨#[110,111,119]⟩,⟨#[97,115,107,101,100]⟩,⟨#[97,103,114,101,101,100]⟩]
open Classical in
noncomputable def AH (s:K9):L4->Int->Int
 |[],_=>-1
 |x ::r,k=>if x=s then k else AH s r (k+1)
theorem EM (s:K9):∀(L:L4) (k:Int),0<=k->(0<=AH s L k↔s∈L):=by intro L;induction L<;>intros<;>grind [AH]
theorem Yr {s:K9}{L:L4}{k:Nat}(h:k<T L):AH s (L.drop k) k=if L[k]=s then (k:Int)else AH s (L.drop<|k+1) ((k+1 :Nat):Int):=by
 rw[z4 h,AH];rfl
theorem IX (x s:K9):(x.toList==s.toList)=jD↔x=s:=by
 rw[zD];constructor
 .intro h;rw[z7,z7]at h;cases x;cases s
  simp_all
 grind
def Nms (w:jB) (a:L3) (L:L4):Prop:=∀j,(h:j<T L)->∃b off,a=Q (jA b off U)/\b<R (Z w)/\jI w ⟨b,off+j,U⟩=Q (jC L[j])
theorem Nms.below {B:Nat}{a:L3}{L:L4}(h:Nms w a L)(c:Below B w w')(k:R (Z w)<=B):Nms w' a L:=λj f=>by
 obtain⟨b,d,g,i,c0⟩:=h j f;exact⟨b,d,g,zL i c.size,(c.cell (p:=⟨b,d+j,U⟩) (Oa:b<B)).trans c0⟩
theorem Aid (w:jB)(t:jV)(L:L4):Nms (jK w<|jH (L.map Value.string).toArray t) (Q ⟨R<|Z w,0,U⟩) L:=λj a=>by
 refine⟨R<|Z w,0,rfl,Ox,?_⟩;rw[zY,(Ag.new w (L.map Value.string).toArray t).cell j];simp[a]
theorem GK (s:K9)(w:jB):
  Calls jZ 95 #[jC s] w λr w'=>r=jN (V X<|AH s Bn 0)/\Ai w w':=by
 have d:=AE w<|jH (Bn.map Value.string).toArray 9;have f:=Aid w 9 Bn;have g:=Ab<|show T Bn=6 from rfl;have p:=Ab<|show jK w (jH (Bn.map Value.string).toArray 9)=jK w (jH #[jC ⟨#[99,108,105,101,110,116]⟩,jC ⟨#[117,115,101,114]⟩,jC ⟨#[108,101,118,101,108]⟩,jC ⟨#[110,111,119]⟩,jC ⟨#[97,115,107,101,100]⟩,jC ⟨#[97,103,114,101,101,100]⟩] 9)from rfl;go_enter func95,ntmps95
 go_wp2_with fail
 rw[<-Aa p];generalize jK w (jH (Bn.map Value.string).toArray 9)=q at d f|-;go_loopw [7] (λi wr=>∃k:Nat,k<=6/\i=V X k/\Ai w wr/\Ai q wr/\Hid (AH s Bn 0=AH s ((Bn:L4).drop k) k)) (λi _=>6-(intOf i).toNat)
 case atStart=>exact⟨0,Oa,rfl,d,BRN,Ab rfl⟩
 case round=>
  obtain⟨k,y,rfl,a,j,l⟩:=hrel;by_cases m:k<6
  .have z:(k:Int)<(6 :Int):=Oa;have n:k<T (Bn:L4):=by rw[Aa g];exact m
   obtain⟨b1,t,v,A,c0⟩:=(f.below j NLN) k n;obtain⟨rfl,rfl⟩:b1=R (Z w)/\t=0:=by simpa[eq_comm]using v
   simp only[zY]at c0;have b:=Ab<|(Aa l).trans<|Yr n;have o:=Ab m;generalize (Bn:L4)[k]=u at c0 b;by_cases hu:u=s
   .have x:(u.toList==s.toList)=jD:=(IX u s).2 hu;go_wp2
    go_ret
    exact⟨by rw[Aa<|Ab<|(Aa b).trans<|H8 hu];rfl,a⟩
   .have x:(u.toList==s.toList)=jE:=by rw[Bool.eq_false_iff];exact λh=>hu ((IX u s).1 h)
    have c:=Ab<|(Aa b).trans<|H7 hu;go_wp2
    go_roundw
    case rel=>exact⟨k+1,Aa o,O1,a,j,c⟩
    case measure=>have:=Aa o;simp[intOf];omega
  .have e:k=6:=Oa;subst e;have c:=Ab (show AH s Bn 0= -1 by rw[Aa l,List.drop_of_length_le<|by rw[Aa g];omega];rfl);go_wp2
   go_ret
   exact⟨by rw[Aa c];rfl,a⟩
theorem My (d:Nat)(a:L3)(n c:Nat)(L:L4)(s:K9)(w:jB)(h0:jI w (jA d 0 U)=Q (Y a n c))(D:d<R (Z w))(x:T L=n)(E:n<=1048576)(y:Nms w a L):
  Calls jZ 96 #[jP<|Q<|jA d 0 U,jC s] w λr w'=>r=jN (V X<|AH s L 0)/\Ai w w':=by
 have m:=Ab x;obtain⟨b,f⟩:∃b,b=w:=⟨_,rfl⟩
 have z:Ai w b:=by rw[f];exact BRN
 have A:Nms b a L:=by rw[f];exact y
 go_enter func96,ntmps96
 go_wp2_with fail
 rw[<-Aa<|Ab f];go_loopw [12] (λi wr=>∃k:Nat,k<=n/\i=V X k/\Ai w wr/\Ai b wr/\Hid (AH s L 0=AH s ((L:L4).drop k) k)) (λi _=>n-(intOf i).toNat)
 case atStart=>exact⟨0,Oa,rfl,z,BRN,Ab rfl⟩
 case round=>
  obtain⟨k,F,rfl,g,o,p⟩:=hrel;by_cases q:k<n
  .have G:(k:Int)<(n:Int):=Oa;have t:k<T (L:L4):=by rw[Aa m];exact q
   obtain⟨b1,H,B,I,c0⟩:=(A.below o NLN) k t;subst B;have j:=Ab<|(Aa p).trans<|Yr t;have v:=Ab q;generalize (L:L4)[k]=u at c0 j;by_cases hu:u=s
   .have C:(u.toList==s.toList)=jD:=(IX u s).2 hu;go_wp2
    go_ret
    exact⟨by rw[Aa<|Ab<|(Aa j).trans<|H8 hu];rfl,g⟩
   .have C:(u.toList==s.toList)=jE:=by rw[Bool.eq_false_iff];exact λh=>hu ((IX u s).1 h)
    have l:=Ab<|(Aa j).trans<|H7 hu;go_wp2
    go_roundw
    case rel=>exact⟨k+1,Aa v,O1,g,o,l⟩
    case measure=>have:=Aa v;simp[intOf];omega
  .have e:k=n:=Oa;subst e;have l:=Ab (show AH s L 0= -1 by rw[Aa p,List.drop_of_length_le<|by rw[Aa m];omega];rfl);go_wp2
   go_ret
   exact⟨by rw[Aa l];rfl,g⟩
section
structure AB (ss tt K:L4) (code:Int):Prop where
 bad:(Ay ss&&Ay tt)=jE->K=[]/\code=4
 bL:(Ay ss&&Ay tt)=jD->∃M,Ba (ss++tt) M/\(64<T M->K=[]/\code=3)/\(T M<=64->K=M/\code=0)
theorem AB.aP {ss tt K a:L4}{c c':Int}(h:AB ss tt K c)(b:AB ss tt a c'):K=a/\c=c':=by grind [Ba.aP,AB.bad,AB.bL,Ay]
theorem AB.code {c:Int}(h:AB ss tt K c): 0<=c/\c<=4:=by grind [AB.bad,AB.bL,Ay]
theorem AB.len {c:Int}(h:AB ss tt K c):T K<=64:=by grind [AB.bad,AB.bL,Ay]
theorem ZN {j:Nat}(h:j<T (ss++tt)):AG (ss++tt) j=if j<T ss then AG ss j else AG tt (j-T ss):=by grind [Dd]
theorem TA (h:∀j,j<T ss->(AG ss j).size<=maxLen)(a:∀j,j<T tt->(AG tt j).size<=maxLen):∀j,j<T (ss++tt)->(AG (ss++tt) j).size<=maxLen:=by grind [ZN]
theorem AB.bC {c:Int}(h:AB ss tt K c)(hs:∀j,j<T ss->(AG ss j).size<=maxLen)(ht:∀j,j<T tt->(AG tt j).size<=maxLen):∀j,j<T K->(AG K j).size<=maxLen:=by grind [AB.bad,AB.bL,Ay,TA,Vo]
theorem KA.sorted (h:KA ss tt (T ss) (T tt) K):Ba (ss++tt) K:=
 ⟨h.cU,λx=>by rw[h.mem,z2,z2,zO]⟩
theorem Mr (h:Ay ss=jD):T ss<=64/\BM ss=jD:=by grind [Ay]
def Tz (w:jB) (ss tt:L4) (e:Ending) (w':jB):Prop:=
 ∃x cx K c,e=jN (jQ #[Y x (T K) cx,V X c])/\jO w' (R<|Z w) 9 1 (Y x (T K) cx) (T K) (K.map Value.string)/\Ai w w'/\AB ss tt K c
theorem Tz.nil {c:Int}(h:AB ss tt [] c)(a:Ai w w'):Tz w ss tt (jN<|jQ #[Y U 0 0,V X c]) w':=
 ⟨U,0,[],c,rfl,H3,a,h⟩
theorem AB.dA (h:(Ay ss&&Ay tt)=jE):AB ss tt [] 4:=⟨λ_=>⟨rfl,rfl⟩,λk=>by rw[h]at k;cases k⟩
theorem AB.dK {M:L4}(h:(Ay ss&&Ay tt)=jD)(a:Ba (ss++tt) M)(b: 64<T M):AB ss tt [] 3:=
 ⟨λk=>(by rw[h]at k;cases k),λ_=>⟨M,a,λ_=>⟨rfl,rfl⟩,λk=>Oa⟩⟩
theorem AB.dN {M:L4}(h:(Ay ss&&Ay tt)=jD)(a:Ba (ss++tt) M)(b:T M<=64):AB ss tt M 0:=
 ⟨λk=>(by rw[h]at k;cases k),λ_=>⟨M,a,λk=>Oa,λ_=>⟨rfl,rfl⟩⟩⟩
variable{aS aO aZ aW:jG}
def Ji (aS aO aZ aW:jG) (w:jB) (ss tt:L4) (e:Ending) (w':jB):Prop:=
 ∃x cx K c,e=jN (jQ #[Y x (T K) cx,Ny aS aO aZ aW c])/\jO w' (R<|Z w) 9 1 (Y x (T K) cx) (T K) (K.map Value.string)/\Ai w w'/\AB ss tt K c
theorem Ji.nil {c:Int}(h:AB ss tt [] c)(a:Ai w w'):Ji aS aO aZ aW w ss tt (jN<|jQ #[Y U 0 0,Ny aS aO aZ aW c]) w':=
 ⟨U,0,[],c,rfl,H3,a,h⟩
theorem AbQ (a:L3)(n c:Nat)(ss:L4)(m:L3)(n' c':Nat)(tt:L4)(w:jB)(hs:FV w aS aO aZ aW)(h:Aq w a n c ss)(i:Aq w m n' c' tt):
  Calls jZ 168 #[Y a n c,Y m n' c'] w λe w'=>Ji aS aO aZ aW w ss tt e w':=by
 cases f:Ay ss
 .have j:=Ab (AB.dA (ss:=ss) (tt:=tt)<|by rw[f];rfl);go_enter func168,ntmps168
  go_wp2_with fail
  refine(AD _ _ _ _ _ h).mono ?_;rintro e o ⟨rfl,b⟩;rw[f];have hg:=(hs.below b NLN).g0;go_wp2
  go_quiet (fail)
  go_wp2
  go_ret2
  exact Ji.nil (Aa j)<|below_drewN b _
 .cases g:Ay tt
  .have j:=Ab (AB.dA (ss:=ss) (tt:=tt)<|by rw[f,g];rfl);go_enter func168,ntmps168
   go_wp2_with fail
   refine(AD _ _ _ _ _ h).mono ?_;rintro e o ⟨rfl,b⟩;rw[f];go_wp2_with fail
   refine(AD _ _ _ _ _<|i.below b NLN).mono ?_;rintro e w2 ⟨rfl,k⟩;rw[g];have d:=b.trans<|k.mono b.size;have hg:=(hs.below d NLN).g0;go_wp2
   go_quiet (fail)
   go_wp2
   go_ret2
   exact Ji.nil (Aa j)<|below_drewN d _
  .obtain⟨z,r⟩:=Mr f;obtain⟨A,s⟩:=Mr g;have p:=Ab (show(Ay ss&&Ay tt)=jD by rw[f,g];rfl);go_enter func168,ntmps168
   go_wp2_with fail
   refine(AD _ _ _ _ _ h).mono ?_;rintro e o ⟨rfl,b⟩;rw[f];go_wp2_with fail
   refine(AD _ _ _ _ _<|i.below b NLN).mono ?_;rintro e w2 ⟨rfl,k⟩;rw[g];have d:=b.trans<|k.mono b.size;go_wp2_with fail
   refine(AeI _ _ _ _ _ _ _ _ _ (h.below d NLN) (i.below d NLN) (Aa<|Ab r) (Aa<|Ab s) Q2<|H2 i.len).mono ?_;rintro e B ⟨x,cx,K,rfl,t,hb3,u⟩;have q:=Ab u.sorted;have l:=d.trans<|hb3.mono d.size;by_cases v: 64<T K
   .have y:(64 :Int)<(T K:Int):=Oa;have hg:=(hs.below l NLN).g3;go_wp2
    go_quiet (fail)
    go_wp2
    go_ret2
    exact Ji.nil (AB.dK (Aa p) (Aa q) v)<|below_drewN l _
   .have y:(T K:Int)<=64:=Oa;go_wp2
    go_ret2
    exact⟨x,cx,K,0,rfl,CF t d.size,l,AB.dN (Aa p) (Aa q) Oa⟩
end
inductive Vv where
 |bool (b:Bool)
 |int (n:Int)
 |text (s:ByteArray)
 |set (ss:List ByteArray)
abbrev M4:=List Vv
abbrev M7:=L0 Vv
def Vv.ty:Vv->Int
 |.bool _=>1
 |.int _=>2
 |.text _=>3
 |.set _=>4
inductive Ev where
 |ok (v:Vv)
 |err (c:Int)
structure Rq where
 cl:K9
 us:K9
 lv:Int
 nw:Int
 s1:L4
 s2:L4
open Classical in
noncomputable def IE (ss tt:L4):L4×Int:=if h:∃p:L4×Int,AB ss tt p.1 p.2 then Classical.choose h else ([],4)
theorem IW {c:Int}(h:AB ss tt K c):IE ss tt=(K,c):=by
 have hx:∃p:L4×Int,AB ss tt p.1 p.2:=⟨(K,c),h⟩
 grind [IE,AB.aP]
def CG (p:Int×Int):Ev:=if p.2=0 then .ok (.int p.1)else .err p.2
def Fa (p:L4×Int):Ev:=if p.2=0 then .ok (.set p.1)else .err p.2
def GI (op:Int) (v:Vv):Ev:=match v with
 |.int n=>if op=8 then CG (AV 2 0 n)else .err 4
 |.bool b=>if op=9 then .ok (.bool<|!b)else .err 4
 |.set ss=>if op=10 then .ok (.int<|T ss)else .err 4
 |.text _=> .err 4
open Classical in
noncomputable def FK (v u:Vv):Bool:=decide (v=u)
open Classical in
noncomputable def Cc (op:Int) (v u:Vv):Ev:=
 if op=19 then .ok (.bool<|FK v u)else if op=20 then .ok (.bool<|!FK v u)
 else match v,u with
  |.text s,.set ss=>if op=23 then .ok (.bool<|decide (s∈ss))else .err 4
  |.set ss,.set tt=>if op=16 then Fa (IE ss tt)else if op=17 then .ok (.set<|Cl ss tt)else if op=18 then .ok (.set<|Bj ss tt)else if op=24 then .ok (.bool<|Ey ss tt)else .err 4
  |.int a,.int b=>if op=21 then .ok (.bool<|decide (a<b))else if op=22 then .ok (.bool<|decide (a<=b))else if 11<=op/\op<=15 then CG (AV (op-10) a b)else .err 4
  |_,_=> .err 4
def UN (op:Int) (v:Vv):Bool:=match v with
 |.bool b=>if op=25 then !b else if op=26 then b else jE
 |_=>jE
def IV (R:Rq) (n:Int):Vv:=if n<2 then (if n=1 then .text R.us else .text R.cl)else if n<4 then (if n=3 then .int R.nw else .int R.lv)else if n=4 then .set R.s1 else .set R.s2
theorem AdX (R:Rq)(n:Int):(IV R n).ty=BI n:=by
 unfold IV BI
 repeat' split<;>try rfl
theorem EJ {a t:Int}(h:nz (By op [a])=Q t):(op=8/\a=2/\t=2)\/(op=9/\a=1/\t=1)\/(op=10/\a=4/\t=2):=by grind [By,Ih]
theorem Ch {a t:Int}(h:nz (By op [a,b])=Q t):((11<=op/\op<=15)/\a=2/\b=2/\t=2)\/((16<=op/\op<=18)/\a=4/\b=4/\t=4)\/((op=19\/op=20)/\a=b/\t=1)\/((op=21\/op=22)/\a=2/\b=2/\t=1)\/(op=23/\a=3/\b=4/\t=1)\/(op=24/\a=4/\b=4/\t=1)\/((op=25\/op=26)/\a=1/\b=1/\t=1):=by
 obtain⟨c,h0⟩:=Ih h;simp only[By]at c;by_cases c1:(11<=op/\op<=15)/\a=2/\b=2
 .grind
 rw[H7 c1]at c;by_cases c2:(16<=op/\op<=18)/\a=4/\b=4
 .grind
 rw[H7 c2]at c;by_cases c3:(op=19\/op=20)/\a=b
 .grind
 rw[H7 c3]at c;by_cases c4:(op=21\/op=22)/\a=2/\b=2
 .grind
 rw[H7 c4]at c;by_cases c5:op=23/\a=3/\b=4
 all_goals grind
theorem Vv.bU {v:Vv}(h:v.ty=1):∃b,v= .bool b:=by cases v<;>first|exact⟨_,rfl⟩|(simp[Vv.ty]at h)
theorem Vv.bI {v:Vv}(h:v.ty=2):∃b,v= .int b:=by cases v<;>first|exact⟨_,rfl⟩|(simp[Vv.ty]at h)
theorem Vv.cL {v:Vv}(h:v.ty=3):∃b,v= .text b:=by cases v<;>first|exact⟨_,rfl⟩|(simp[Vv.ty]at h)
theorem Vv.bB {v:Vv}(h:v.ty=4):∃b,v= .set b:=by cases v<;>first|exact⟨_,rfl⟩|(simp[Vv.ty]at h)
theorem NB {a:Int}(h: 11<=op/\op<=15):Cc op (.int a) (.int b)=CG (AV (op-10) a b):=by grind [Cc]
theorem J7 (a b:L4):Cc 16 (.set a) (.set b)=Fa (IE a b):=rfl
theorem Qo (a b:L4):Cc 17 (.set a) (.set b)= .ok (.set<|Cl a b):=rfl
theorem OA (a b:L4):Cc 18 (.set a) (.set b)= .ok (.set<|Bj a b):=rfl
theorem UP (a b:L4):Cc 24 (.set a) (.set b)= .ok (.bool<|Ey a b):=rfl
theorem Wg (v u:Vv):Cc 19 v u= .ok (.bool<|FK v u):=rfl
theorem Wh (v u:Vv):Cc 20 v u= .ok (.bool<|!FK v u):=rfl
open Classical in
theorem AdY (s:K9) (b:L4):Cc 23 (.text s) (.set b)= .ok (.bool<|decide (s∈b)):=rfl
theorem Tx {p:Int×Int}{u:Vv}(h:CG p= .ok u):u.ty=2:=by
 unfold CG at h;split at h
 .cases h;rfl
 .cases h
theorem YW {p:L4×Int}{u:Vv}(h:Fa p= .ok u):u.ty=4:=by
 unfold Fa at h;split at h
 .cases h;rfl
 .cases h
theorem UO {v:Vv}(h:nz (By op [v.ty])=Q t):∀u,GI op v= .ok u->u.ty=t:=by
 intro u hu;obtain⟨rfl,hv,rfl⟩|⟨rfl,hv,rfl⟩|⟨rfl,hv,rfl⟩:=EJ h
 .obtain⟨n,rfl⟩:=Vv.bI hv;exact Tx hu
 .obtain⟨n,rfl⟩:=Vv.bU hv;cases hu;rfl
 .obtain⟨n,rfl⟩:=Vv.bB hv;cases hu;rfl
theorem Qn {v w:Vv}(h:nz (By op [v.ty,w.ty])=Q t)(hc:op≠25/\op≠26):∀u,Cc op v w= .ok u->u.ty=t:=by
 intro u hu;obtain⟨d,hv,c,rfl⟩|⟨d,hv,c,rfl⟩|⟨d,hv,rfl⟩|⟨d,hv,c,rfl⟩|⟨rfl,hv,c,rfl⟩|⟨rfl,hv,c,rfl⟩|⟨d,hv,c,rfl⟩:=Ch h
 .grind [NB,Vv.bI,Tx]
 .obtain⟨a,rfl⟩:=Vv.bB hv;obtain⟨b,rfl⟩:=Vv.bB c;rcases(Oa:op=16\/op=17\/op=18)with rfl|rfl|rfl
  .exact YW hu
  .cases hu;rfl
  .cases hu;rfl
 .obtain rfl|rfl:=d
  .cases hu;rfl
  .cases hu;rfl
 .obtain⟨a,rfl⟩:=Vv.bI hv;obtain⟨b,rfl⟩:=Vv.bI c;obtain rfl|rfl:=d
  .cases hu;rfl
  .cases hu;rfl
 .obtain⟨a,rfl⟩:=Vv.cL hv;obtain⟨b,rfl⟩:=Vv.bB c;cases hu;rfl
 .obtain⟨a,rfl⟩:=Vv.bB hv;obtain⟨b,rfl⟩:=Vv.bB c;cases hu;rfl
 .omega
section
variable{aS aO aZ aW:jG}{G:Nat->Prop}
def JO (G:Nat->Prop) (w:jB) (x:jF):Vv->Prop
 |.bool b=>x=jU 157 (.bool b)
 |.int n=>x=jU 192 (V X n)/\Cu n
 |.text s=>x=jU 193 (jC s)
 |.set ss=>∃a n c,x=jU 194 (Y a n c)/\Aq w a n c ss/\T ss<=1048576/\∀ad,a=Q ad->0<n->G (jT ad)
theorem JO.below {w w':jB}{B:Nat}{x:jF}{v:Vv}(h:JO G w x v)(f:Below B w w')(g:R (Z w)<=B):JO G w' x v:=by
 cases v with
 |bool b=>exact h
 |int n=>exact h
 |text s=>exact h
 |set ss=>
   obtain⟨a,n,c,i,d⟩:=h;exact⟨a,n,c,i,d.1.below f g,d.2⟩
theorem JO.bE {x:jF}{v:Vv}(h:JO G w x v):∃t u,x=jU t u:=by
 cases v with
 |bool b=>exact⟨_,_,h⟩
 |int n=>exact⟨_,_,h.1⟩
 |text s=>exact⟨_,_,h⟩
 |set ss=>obtain⟨_,_,_,h,_⟩:=h;exact⟨_,_,h⟩
theorem Aax (a:jV)(v:jF)(w:jB):(Instr.typeAssert (jU 157 v) a 157 jE).run jZ w= .ok v w:=by simp[Instr.typeAssert,run_underlying underlying157]
theorem AgM (a:jV)(v:jF)(w:jB):(Instr.typeAssert (jU 157 v) a 157 jD).run jZ w= .ok (jQ #[v,.bool jD]) w:=by simp[Instr.typeAssert,run_underlying underlying157]
theorem AdZ (a:jV)(v:jF)(w:jB):(Instr.typeAssert (jU 192 v) a 192 jE).run jZ w= .ok v w:=by simp[Instr.typeAssert,run_underlying underlying192]
theorem AiJ (a:jV)(v:jF)(w:jB):(Instr.typeAssert (jU 192 v) a 192 jD).run jZ w= .ok (jQ #[v,.bool jD]) w:=by simp[Instr.typeAssert,run_underlying underlying192]
theorem AgN (a:jV)(v:jF)(w:jB):(Instr.typeAssert (jU 193 v) a 193 jE).run jZ w= .ok v w:=by simp[Instr.typeAssert,run_underlying underlying193]
theorem AgO (a:jV)(v:jF)(w:jB):(Instr.typeAssert (jU 193 v) a 193 jD).run jZ w= .ok (jQ #[v,.bool jD]) w:=by simp[Instr.typeAssert,run_underlying underlying193]
theorem YX (a:jV)(v:jF)(w:jB):(Instr.typeAssert (jU 194 v) a 194 jE).run jZ w= .ok v w:=by simp[Instr.typeAssert,run_underlying underlying194]
theorem AiK (a:jV)(v:jF)(w:jB):(Instr.typeAssert (jU 194 v) a 194 jD).run jZ w= .ok (jQ #[v,.bool jD]) w:=by simp[Instr.typeAssert,run_underlying underlying194]
theorem Gv {c:Int}(h: 1<=c/\c<=4):∃a,Ny aS aO aZ aW c=jU 273 (jP<|Q a):=by
 rcases(Oa:c=1\/c=2\/c=3\/c=4)with rfl|rfl|rfl|rfl
 .exact⟨_,rfl⟩
 .exact⟨_,rfl⟩
 .exact⟨_,rfl⟩
 .exact⟨_,rfl⟩
def Pp (G:Nat->Prop) (aS aO aZ aW:jG) (o:Ev) (w:jB) (r:Ending) (w':jB):Prop:=
 (match o with
  |.ok v=>∃x,r=jN (jQ #[x,jX])/\JO G w' x v
  |.err c=>∃x,r=jN (jQ #[x,Ny aS aO aZ aW c])/\1<=c/\c<=4)/\Ai w w'
theorem AgP (v:Int):Cu (JV v).1:=by
 unfold JV;split
 .rename_i h;exact⟨h.1,h.2⟩
 .exact⟨Ob,Ob⟩
theorem KH (op a b:Int):Cu (AV op a b).1:=by
 unfold AV UL SI
 repeat' split
 all_goals first|exact AgP _|exact⟨Ob,Ob⟩
theorem AbP (v:Int): 0<=(JV v).2/\(JV v).2<=4:=by grind [JV]
theorem OB (op a b:Int): 0<=(AV op a b).2/\(AV op a b).2<=4:=by
 unfold AV UL SI
 repeat' split
 all_goals simp_all[AbP]
theorem SL (cl us:K9)(lv nw:Int)(a1:L3)(n1 c1:Nat)(s1:L4)(a2:L3)(n2 c2:Nat)(s2:L4)(w:jB)(c:Cu lv)(d:Cu nw)(f:Aq w a1 n1 c1 s1)(g:Aq w a2 n2 c2 s2)(l1:T s1<=1048576)(i:T s2<=1048576)(g1:∀b,a1=Q b->0<n1->G (jT b))(g2:∀b,a2=Q b->0<n2->G (jT b))(num:Int)(h: 0<=num/\num<6):
  Calls jZ 84 #[.agg #[jC cl,jC us,V X lv,V X nw,Y a1 n1 c1,Y a2 n2 c2],V X num] w λr w'=>(∃x,r=jN x/\JO G w' x (IV ⟨cl,us,lv,nw,s1,s2⟩ num))/\Ai w w':=by
 have a:=AE w<|jH #[jC cl,jC us,V X lv,V X nw,Y a1 n1 c1,Y a2 n2 c2] 32;have j:=f.below a NLN;have k:=g.below a NLN;rcases(Oa:num=0\/num=1\/num=2\/num=3\/num=4\/num=5)with rfl|rfl|rfl|rfl|rfl|rfl
 .go_enter func84,ntmps84
  go_wp2
  go_ret
  exact⟨⟨_,rfl,rfl⟩,a⟩
 .go_enter func84,ntmps84
  go_wp2
  go_ret
  exact⟨⟨_,rfl,rfl⟩,a⟩
 .go_enter func84,ntmps84
  go_wp2
  go_ret
  exact⟨⟨_,rfl,rfl,c⟩,a⟩
 .go_enter func84,ntmps84
  go_wp2
  go_ret
  exact⟨⟨_,rfl,rfl,d⟩,a⟩
 .go_enter func84,ntmps84
  go_wp2
  go_ret
  exact⟨⟨_,rfl,_,_,_,rfl,j,l1,g1⟩,a⟩
 .go_enter func84,ntmps84
  go_wp2
  go_ret
  exact⟨⟨_,rfl,_,_,_,rfl,k,i,g2⟩,a⟩
theorem AgQ (op:Int)(x:jF)(v:Vv)(t:Int)(w:jB)(hs:FV w aS aO aZ aW)(hx:JO G w x v)(ht:nz (By op [v.ty])=Q t):
  Calls jZ 136 #[V X op,x] w (Pp G aS aO aZ aW (GI op v) w):=by
 have y:=Aax;have z:=AdZ;have A:=YX;obtain⟨rfl,hv,_⟩|⟨rfl,hv,_⟩|⟨rfl,hv,_⟩:=EJ ht
 .obtain⟨n,rfl⟩:=Vv.bI hv;obtain⟨rfl,q⟩:x=jU 192 (V X n)/\Cu n:=hx;have d:=Ab<|Lr 2 0 n w hs ⟨Ob,Ob⟩ q;have f:=OB 2 0 n;have j:=KH 2 0 n;have g:=Ab<|show GI 8 (.int n)=CG (AV 2 0 n)from rfl;generalize AV 2 0 n=p at d f j g;obtain⟨k,l⟩:=p;by_cases h0:l=0
  .subst h0;go_enter func136,ntmps136
   go_wp2_with fail
   refine(Aa d).mono ?_;rintro r s ⟨rfl,h⟩;dsimp only[EZ,Ny,if_true];go_wp2_with fail
   refine G2 (v:= jQ #[jU 192<|V X k,jX]) Df rfl ?_;rw[Aa g];exact⟨⟨_,rfl,rfl,j⟩,h⟩
  .obtain⟨a,m⟩:=Gv (aS:=aS) (aO:=aO) (aZ:=aZ) (aW:=aW) (c:=l) (by dsimp only at f;omega);have o:=Ab h0;go_enter func136,ntmps136
   go_wp2_with fail
   refine(Aa d).mono ?_;rintro r s ⟨rfl,h⟩;dsimp only[EZ];rw[m];go_wp2_with fail
   refine G2 (v:= jQ #[jU 192<|V X k,jU 273<|jP<|Q a]) Df rfl ?_;rw[Aa g,CG,H7<|Aa o];have:=Aa<|Ab f;have:=Aa o;exact⟨⟨_,by rw[m],by dsimp only at*;omega,by dsimp only at*;omega⟩,h⟩
 .obtain⟨b,rfl⟩:=Vv.bU hv;have e:x=jU 157 (.bool b):=hx;subst e;go_enter func136,ntmps136
  go_wp2_with fail
  refine G2 (v:= jQ #[jU 157<|.bool<|!b,jX]) Df rfl ?_;exact⟨⟨_,rfl,rfl⟩,BRN⟩
 .obtain⟨ss,rfl⟩:=Vv.bB hv;obtain⟨a,n,c,rfl,i,_⟩:=hx;have u:=i.len;have hc:n<=maxLen:=zB i.cap i.aJ;have hi:Cu (n:Int):=⟨Oa,by unfold maxLen at hc;omega⟩
  subst u;go_enter func136,ntmps136
  go_wp2_with fail
  refine G2 (v:= jQ #[jU 192<|V X<|T ss,jX]) Df rfl ?_;exact⟨⟨_,rfl,rfl,hi⟩,BRN⟩
end
theorem UQ {j:Nat}(h:j<T ss):AG ss j=ss[j]:=by simp[AG,h]
theorem Qp {A B:L4}(a:T A=T B):A=B↔∀j,j<T A->AG A j=AG B j:=by grind [List.ext_getElem,UQ]
open Classical in
theorem YY (a b:L3) (n c m d:Nat) (A B:L4) (w:jB) (h1:Aq w a n c A) (h2:Aq w b m d B):
  Calls jZ 200 #[Y a n c,Y b m d] w λe w'=>e=jN (.bool<|decide (A=B))/\Ai w w':=by
 have s1:n<=9223372036854775807:=by have:=h1.cap;have:=h1.aJ;unfold maxLen at this;omega
 have HA:=Ab h1.len;by_cases hnm:n=m
 .have enm:((n:Int)!=(m:Int))=jE:=by rw[hnm];simp
  have HE:=Ab (Qp (A:=A) (B:=B)<|by rw[<-h1.len,<-h2.len,hnm]);have Hnm:=Ab hnm;go_enter func200,ntmps200
  go_wp2_with fail
  go_loopw [13] (λi wr=>∃k:Nat,k<=n/\i=V X k/\Ai w wr/\Hid (∀j,j<k->AG A j=AG B j)) (λi _=>n-(intOf i).toNat)
  case atStart=>exact⟨0,Oa,rfl,BRN,Ab λj h=>H9 h Oa⟩
  case round=>
   obtain⟨k,hk,rfl,B1,Ha⟩:=hrel;by_cases hlt:k<n
   .have ilt:(k:Int)<(n:Int):=Oa;have ilm:(k:Int)<(m:Int):=H2<|Aa Hnm;obtain⟨b1,o1,rfl,hl1,c1⟩:=(h1.below B1 NLN).cells k hlt;obtain⟨b2,o2,rfl,hl2,c2⟩:=(h2.below B1 NLN).cells k<|H2<|Aa Hnm;have Hno:=Ab (show AG A k≠AG B k->decide (A=B)=jE from λe=>zH λe'=>e<|(Aa HE).1 e' k<|by rw[<-Aa HA];exact hlt);have HN:=Ab (show AG A k=AG B k->∀j,j<k+1->AG A j=AG B j from λe j h'=>by
     by_cases ej:j=k
     .subst ej;exact e
     .exact Aa Ha j Oa)
    have Hlt:=Ab hlt;have BD:=B1.drew;generalize AG A k=x at c1 Hno HN;generalize AG B k=y at c2 Hno HN;by_cases hxy:x=y
    .have exy:(x.toList==y.toList)=jD:=(IX x y).2 hxy;have HN2:=Ab<|Aa HN hxy;go_wp2_with fail
     go_region
     go_wp2
     go_roundw
     case rel=>exact⟨k+1,Aa Hlt,O1,BD,HN2⟩
     case measure=>have:=Aa Hlt;simp[intOf];omega
    .have exy:(x.toList==y.toList)=jE:=by rw[Bool.eq_false_iff];exact λh=>hxy ((IX x y).1 h)
     go_wp2_with fail
     go_region
     go_wp2
     go_ret
     exact⟨Af (Aa<|Ab<|Aa Hno hxy).symm,BD⟩
   .have e:k=n:=Oa;subst e;have HX:=Ab<|show decide (A=B)=jD from zJ<|(Aa HE).2 λj hj=>Aa Ha j<|H2<|Aa HA;go_wp2
    go_ret
    exact⟨Af (Aa HX).symm,B1⟩
 .have enm:((n:Int)!=(m:Int))=jD:=zV.2 Oa;have HX:=Ab (show decide (A=B)=jE from zH λe=>hnm<|by rw[h1.len,h2.len,e]);go_enter func200,ntmps200
  go_wp2
  go_ret
  exact⟨Af (Aa HX).symm,BRN⟩
theorem Ake {s:K9}{A:L4} :s∈A↔∃j,j<T A/\AG A j=s:=by
 constructor
 .intro h;obtain⟨j,a,rfl⟩:=zw h;exact⟨j,a,UQ a⟩
 grind [UQ]
theorem YZ (a:L3)(n c:Nat)(A:L4)(s:K9)(w:jB)(b:Aq w a n c A):
  Calls jZ 167 #[Y a n c,jC s] w λe w'=>(∃k:Int,e=jN (V X k)/\(0<=k↔s∈A))/\Ai w w':=by
 have s1:n<=9223372036854775807:=by have:=b.cap;have:=b.aJ;unfold maxLen at this;omega
 have m:=Ab b.len;go_enter func167,ntmps167
 go_wp2_with fail
 go_loopw [8] (λi wr=>∃k:Nat,k<=n/\i=V X k/\Ai w wr/\Hid (∀j,j<k->AG A j≠s)) (λi _=>n-(intOf i).toNat)
 case atStart=>exact⟨0,Oa,rfl,BRN,Ab λj h=>H9 h Oa⟩
 case round=>
  obtain⟨k,y,rfl,d,o⟩:=hrel;by_cases g:k<n
  .have z:(k:Int)<(n:Int):=Oa;obtain⟨b1,B,rfl,C,c1⟩:=(b.below d NLN).cells k g;have p:=Ab<|show AG A k=s->s∈A from λe=>Ake.2 ⟨k,by rw[<-Aa m];exact g,e⟩;have q:=Ab (show AG A k≠s->∀j,j<k+1->AG A j≠s from λe j D=>by
    by_cases t:j=k
    .subst t;exact e
    .exact Aa o j Oa)
   have r:=Ab g;generalize AG A k=x at c1 p q;by_cases f:x=s
   .have u:(s.toList==x.toList)=jD:=(IX s x).2 f.symm;go_wp2
    go_ret
    exact⟨⟨k,rfl,⟨λ_=>Aa<|Ab<|Aa p f,λ_=>Oa⟩⟩,d⟩
   .have u:(s.toList==x.toList)=jE:=by rw[Bool.eq_false_iff];exact λh=>f ((IX s x).1 h).symm
    have l:=Ab<|Aa q f;go_wp2
    go_roundw
    case rel=>exact⟨k+1,Aa r,O1,d,l⟩
    case measure=>have:=Aa r;simp[intOf];omega
  .have e:k=n:=Oa;subst e;have l:=Ab (show s ∉ A from λh=>by
    obtain⟨j,v,e⟩:=Ake.1 h;exact Aa o j (by rw[Aa m];exact v) e)
   go_wp2
   go_ret
   exact⟨⟨-1,rfl,⟨λh=>H9 h Ob,λh=>H9 h<|Aa l⟩⟩,d⟩
open Classical in
theorem SM (a:L3) (n c:Nat) (A:L4) (s:K9) (w:jB) (h1:Aq w a n c A):
  Calls jZ 151 #[Y a n c,jC s] w λe w'=>e=jN (.bool<|decide (s∈A))/\Ai w w':=by
 go_enter func151,ntmps151
 go_wp2_with fail
 refine(YZ _ _ _ A s _ h1).mono ?_;rintro r w1 ⟨⟨k,rfl,hk⟩,hb1⟩;have HK:=Ab hk;by_cases h0: 0<=k
 .have HX:=Ab<|zJ<|(Aa HK).1 h0;go_wp2
  go_ret
  exact⟨by rw[Aa HX];rfl,hb1⟩
 .have HX:=Ab<|zH λh=>h0<|(Aa HK).2 h;go_wp2
  go_ret
  exact⟨by rw[Aa HX];rfl,hb1⟩
section
variable{aS aO aZ aW:jG}{G:Nat->Prop}
theorem Ad0 (op a b:Int)(w:jB)(hs:FV w aS aO aZ aW)(m:Cu a)(n:Cu b)(t:op=11\/op=12\/op=13\/op=14\/op=15\/op=21\/op=22):
  Calls jZ 153 #[V X op,V X a,V X b] w (Pp G aS aO aZ aW (Cc op (.int a)<|.int b) w):=by
 rcases(Oa:(11<=op/\op<=15)\/op=21\/op=22)with o|rfl|rfl
 rotate_left
 iterate 2
  go_enter func153,ntmps153
  go_wp2_with fail
  exact G2 (v:= jQ #[jU 157<|.bool _,jX]) (by simp[results,results153,go_sem]) rfl ⟨⟨_,rfl,rfl⟩,BRN⟩
 have f:=Ab<|Lr (op-10) a b w hs m n;have d:=OB (op-10) a b;have g:=KH (op-10) a b;have h:=Ab<|NB (a:=a) (b:=b) o;generalize AV (op-10) a b=p at f d g h;obtain⟨j,c⟩:=p;dsimp only at d g;have q:Hid (c=0/\Ny aS aO aZ aW c=jX\/c≠0/\∃e,Ny aS aO aZ aW c=jU 273 (jP<|Q e)):=Ab (by by_cases h0:c=0;exact .inl ⟨h0,by rw[h0];rfl⟩;exact .inr ⟨h0,Gv Oa⟩);have k:=Ab<|K6 d g;rcases(Oa:op=11\/op=12\/op=13\/op=14\/op=15)with rfl|rfl|rfl|rfl|rfl
 all_goals
  simp only[Int.reduceSub]at f;go_enter func153,ntmps153
  go_wp2_with fail
  refine(Aa f).mono ?_;rintro r u ⟨rfl,l⟩;dsimp only[EZ];obtain⟨h0,he⟩|⟨h0,e,he⟩:=Aa q
  all_goals
   rw[he];have i:=Ab h0;have s:=Ab he;go_wp2_with fail
  .refine G2 (v:= jQ #[jU 192<|V X j,jX]) (by simp[results,results153,go_sem]) rfl ?_
   rw[Aa h,CG,H8<|Aa i];exact⟨⟨_,rfl,rfl,(Aa k).2⟩,l⟩
  .refine G2 (v:= jQ #[jU 192<|V X j,jU 273<|jP<|Q e]) (by simp[results,results153,go_sem]) rfl ?_
   rw[Aa h,CG,H7<|Aa i];have h0:=Aa i;have d:=(Aa k).1;exact⟨⟨_,by rw[Aa s],P2,P2⟩,l⟩
theorem FL {a:L3}{n c:Nat}(h:Aq w a n c ss):∀j,j<T ss->(AG ss j).size<=maxLen:=by grind [Aq.bC,Aq.len]
theorem Wi {e:jV}{size n k:Nat}{f:L7}(h:jO w' (R<|Z w) e size (Y x k c) n f)(g:∀b,R (Z w)<=b->G b):∀a,x=Q a->0<k->G (jT a):=λa e _=>g _ (h.lt (jT a) D7).1
theorem Ad1 (op:Int)(a:L3)(n c:Nat)(ss:L4)(b:L3)(m d:Nat)(tt:L4)(w:jB)(hs:FV w aS aO aZ aW)(f:Aq w a n c ss)(i:Aq w b m d tt)(l1:T ss<=1048576)(o:∀b,R (Z w)<=b->G b)(z:op=16\/op=17\/op=18\/op=24):
  Calls jZ 152 #[V X op,Y a n c,Y b m d] w (Pp G aS aO aZ aW (Cc op (.set ss)<|.set tt) w):=by
 obtain rfl|rfl|rfl|rfl:=z
 case inl=>
  go_enter func152,ntmps152
  go_wp2_with fail
  refine(Aa<|Ab<|AbQ a n c ss b m d tt w hs f i).mono ?_;rintro r p ⟨x,cx,K,e,rfl,g,h,k⟩;have l:=Ab k;have A:=Aq.bG g<|k.bC (FL f)<|FL i;have B:=Ab<|Wi g o;have hc:=k.code;by_cases h0:e=0
  .subst h0;dsimp only[Ny,if_true];go_wp2_with fail
   refine G2 (v:= jQ #[jU 194<|Y x (T K) cx,jX]) S8 rfl ?_;rw[J7,IW<|Aa l];exact⟨⟨_,rfl,_,_,_,rfl,A,by have:=(Aa l).len;show T K<=1048576;omega,Aa B⟩,h⟩
  .obtain⟨q,hq⟩:=Gv (aS:=aS) (aO:=aO) (aZ:=aZ) (aW:=aW) (c:=e) Oa;have s:=Ab h0;rw[hq];go_wp2_with fail
   refine G2 (v:= jQ #[jU 194<|Y x (T K) cx,jU 273<|jP<|Q q]) S8 rfl ?_;rw[J7,IW<|Aa l,Fa,H7<|Aa s];have:=Aa<|Ab hc;have:=Aa s;exact⟨⟨_,by rw[hq],by dsimp only at*;omega,by dsimp only at*;omega⟩,h⟩
 case inr.inr.inr=>
  go_enter func152,ntmps152
  go_wp2_with fail
  refine(Aa<|Ab<|Wj a n c ss b m d tt w f i).mono ?_;rintro r p ⟨rfl,h⟩;generalize C:Ey ss tt=q;go_wp2_with fail
  refine G2 (v:= jQ #[jU 157<|.bool q,jX]) S8 rfl ?_;rw[UP,Aa<|Ab C];exact⟨⟨_,rfl,rfl⟩,h⟩
 case' inr.inl=>
  rw[Qo];have t:=Ab<|AbR a n c ss b m d tt w f i;have j:=K6 (Qq ss tt<|FL f)<|zB (Wk ss tt) l1;generalize u:Cl ss tt=K at j
 case' inr.inr.inl=>
  rw[OA];have t:=Ab<|Y0 a n c ss b m d tt w f i;have j:=K6 (OC ss tt<|FL f)<|zB (Ty ss tt) l1;generalize u:Bj ss tt=K at j
 all_goals
  have y:=Ab j;go_enter func152,ntmps152
  go_wp2_with fail
  refine(Aa t).mono ?_;rintro r p ⟨x,cx,rfl,g,h⟩;rw[Aa<|Ab u]at g|-;go_wp2
  exact G2 (v:= jQ #[jU 194<|Y x (T K) cx,jX]) S8 rfl ⟨⟨_,rfl,_,_,_,rfl,(Aq.bG g (Aa y).1),(Aa y).2,Aa<|Ab<|Wi g o⟩,h⟩
theorem AgR (b:Bool):∀w,(method 414 157 (.bool b) "loop.example/s01308/impl.same").run jZ w= .ok (196,(.bool b)) w:=λ_=>Oy
theorem AiL (n:Int):∀w,(method 414 192 (V X n) "loop.example/s01308/impl.same").run jZ w= .ok (197,(V X n)) w:=λ_=>Oy
theorem AgS (s:K9):∀w,(method 414 193 (jC s) "loop.example/s01308/impl.same").run jZ w= .ok (198,(jC s)) w:=λ_=>Oy
theorem AiM (a:L3)(n c:Nat):∀w,(method 414 194 (Y a n c) "loop.example/s01308/impl.same").run jZ w= .ok (199,(Y a n c)) w:=λ_=>Oy
def Wl (v u:Vv) (w:jB) (r:Ending) (w':jB):Prop:=r=jN (.bool<|FK v u)/\Ai w w'
open Classical in
theorem Wm (a b:Bool):FK (.bool a) (.bool b)=(a==b):=by grind [FK]
open Classical in
theorem Qr (a b:Int):FK (.int a) (.int b)=(a==b):=by grind [FK]
open Classical in
theorem Wn (a b:K9):FK (.text a) (.text b)=(a.toList==b.toList):=by grind [FK,IX]
open Classical in
theorem Qs (a b:L4):FK (.set a) (.set b)=decide (a=b):=by grind [FK]
theorem AbS (a b:Bool)(w:jB):Calls jZ 196 #[.bool a,jU 157<|.bool b] w<|Wl (.bool a) (.bool b) w:=by
 have c:=AgM;go_enter func196,ntmps196
 go_wp2
 go_ret
 exact⟨by rw[Wm];rfl,BRN⟩
theorem AbT (a b:Int)(w:jB):Calls jZ 197 #[V X a,jU 192<|V X b] w<|Wl (.int a) (.int b) w:=by
 have d:=AiJ;have c:=Ab<|Qr a b;generalize (a==b)=q at c;go_enter func197,ntmps197
 go_wp2
 go_ret
 exact⟨by rw[Qr];rfl,BRN⟩
theorem AbU (a b:K9)(w:jB):Calls jZ 198 #[jC a,jU 193<|jC b] w<|Wl (.text a) (.text b) w:=by
 have c:=AgO;go_enter func198,ntmps198
 go_wp2
 go_ret
 exact⟨by rw[Wn];rfl,BRN⟩
theorem AbV (a:L3)(n c:Nat)(ss:L4)(b:L3)(m d:Nat)(tt:L4)(w:jB)(h:Aq w a n c ss)(i:Aq w b m d tt):Calls jZ 199 #[Y a n c,jU 194<|Y b m d] w<|Wl (.set ss) (.set tt) w:=by
 have k:=AiK;have g:=Ab<|YY a b n c m d ss tt w h i;have f:=Ab<|Qs ss tt;generalize FK (.set ss) (.set tt)=q at f;rw[<-Aa f]at g;go_enter func199,ntmps199
 go_wp2_with fail
 refine(Aa g).mono ?_;rintro r l ⟨rfl,j⟩;dsimp only;go_wp2
 go_ret
 exact⟨by rw[Qs,<-Aa f];rfl,j⟩
end
noncomputable def Js (R:Rq) (ls:M4):Ex->Ev
 |.int _ n=> .ok (.int n)
 |.text _ s=> .ok (.text s)
 |.bool _ b=> .ok (.bool b)
 |.set _ _ _ _ ss=> .ok (.set ss)
 |.name .. => .err 4
 |.attr _ n=> .ok (IV R n)
 |.lett _ n=>match ls[n.toNat]? with
  |some v=> .ok v
  |none=> .err 4
 |.un _ op k=>match Js R ls k with
  |.ok v=>GI op v
  |.err c=> .err c
 |.bin _ op l r=>match Js R ls l with
  |.ok v=>if UN op v then .ok v else match Js R ls r with
   |.ok u=>if op=25\/op=26 then .ok u else Cc op v u
   |.err c=> .err c
  |.err c=> .err c
 |.ite _ c t e=>match Js R ls c with
  |.ok (.bool b)=>if b then Js R ls t else Js R ls e
  |.ok _=> .err 4
  |.err c=> .err c
theorem NA {R:Rq}{ls:M4}{ts:L2}(d:ls.map Vv.ty=ts):∀(e:Ex) (t:Int),AX ts e=Q t->∀v,Js R ls e= .ok v->v.ty=t
 |.int ..,t,h,v,hv=>by cases h;cases hv;rfl
 |.text ..,t,h,v,hv=>by cases h;cases hv;rfl
 |.bool ..,t,h,v,hv=>by cases h;cases hv;rfl
 |.set ..,t,h,v,hv=>by cases h;cases hv;rfl
 |.name ..,t,h,v,hv=>Qy
 |.attr _ n,t,h,v,hv=>by cases h;cases hv;exact AdX R n
 |.lett _ n,t,h,v,hv=>by grind [Js,AX]
 |.un _ op k,t,h,v,hv=>by
  rw[AX]at h;rw[Js]at hv;cases f:AX ts k with
  |none=>grind
  |some a=>
    rw[f]at h;cases he:Js R ls k with
    |err c=>grind
    |ok u=>
      rw[he]at hv;have:=NA d k a f u he
      grind [UO]
 |.bin _ op l r,t,h,v,hv=>by
  rw[AX]at h;rw[Js]at hv;cases i:AX ts l with
  |none=>grind
  |some a=>
    rw[i]at h;cases j:AX ts r with
    |none=>grind
    |some b=>
      rw[j]at h;cases he:Js R ls l with
      |err c=>grind
      |ok x=>
        rw[he]at hv;have hx:=NA d l a i x he;dsimp only at h hv;by_cases hd:UN op x=jD
        .rw[H8 hd]at hv;obtain rfl:x=v:=by cases hv;rfl
         cases x with
         |bool q=>
           have m:op=25\/op=26:=by grind [UN]
           obtain g|g|g|g|g|g|g:=Ch h
           all_goals omega
         |int _=>simp[UN]at hd
         |text _=>simp[UN]at hd
         |set _=>simp[UN]at hd
        .rw[H7 hd]at hv;cases o:Js R ls r with
         |err c=>grind
         |ok y=>
           rw[o]at hv;have hy:=NA d r b j y o;dsimp only at hv;by_cases m:op=25\/op=26
           .rw[H8 m]at hv;obtain rfl:y=v:=by cases hv;rfl
            obtain g|g|g|g|g|g|g:=Ch h
            all_goals omega
           grind [Qn]
 |.ite _ c a b,t,h,v,hv=>by
  rw[AX]at h;rw[Js]at hv;cases hc:AX ts c with
  |none=>grind
  |some x=>
    rw[hc]at h;cases p:AX ts a with
    |none=>grind
    |some y=>
      rw[p]at h;cases s:AX ts b with
      |none=>grind
      |some z=>
        rw[s]at h;dsimp only at h;obtain⟨A,h0⟩:=Ih h;simp only[By]at A;have w:y=t/\z=t:=Oa;cases he:Js R ls c with
        |err q=>grind
        |ok u=>
          rw[he]at hv;cases u with
          |bool q=>
            cases q with
            |true=>exact(NA d a y p v hv).trans w.1
            |false=>exact(NA d b z s v hv).trans w.2
          |int _=>cases hv
          |text _=>cases hv
          |set _=>cases hv
def AK:Ex->Bool
 |.un _ op k=>!decide (op=8)&&AK k
 |.bin _ op l r=>!decide (11<=op/\op<=16)&&(AK l&&AK r)
 |.ite _ c t e=>AK c&&(AK t&&AK e)
 |_=>jD
def Ex.st:Ex->Ex
 |.int _ n=> .int 0 n
 |.text _ s=> .text 0 s
 |.bool _ b=> .bool 0 b
 |.set _ _ _ _ ss=> .set 0 U 0 0 ss
 |.name _ s=> .name 0 s
 |.attr _ n=> .attr 0 n
 |.lett _ n=> .lett 0 n
 |.un _ op k=> .un 0 op k.st
 |.bin _ op l r=> .bin 0 op l.st r.st
 |.ite _ c t e=> .ite 0 c.st t.st e.st
def Ex.cv:Ex->M7
 |.int _ n=>Q<|.int n
 |.text _ s=>Q<|.text s
 |.bool _ b=>Q<|.bool b
 |.set _ _ _ _ ss=>Q<|.set ss
 |_=>U
def Ex.bD (e:Ex):Bool:=e.cv.isSome
def Vv.ex:Vv->Ex
 |.int n=> .int 0 n
 |.text s=> .text 0 s
 |.bool b=> .bool 0 b
 |.set ss=> .set 0 U 0 0 ss
def isB (b:Bool):Ex->Bool
 |.bool _ c=>c==b
 |_=>jE
def VH (n:Int):Ex->Bool
 |.int _ m=>decide (m=n)
 |_=>jE
def SY:Ex->Bool
 |.set _ _ _ _ ss=>decide (T ss=0)
 |_=>jE
def sameL:Ex->Ex->Bool
 |.attr _ n,.attr _ m=>decide (m=n)
 |.lett _ n,.lett _ m=>decide (m=n)
 |_,_=>jE
open Classical in
noncomputable def VI (x y:Ex):Bool:=x.bD&&decide (x.cv=y.cv)
def Xk (b:Bool) (x y:Ex):M3:=
 if isB b x then Q y else if isB (!b) x||isB b y then Q x else if isB (!b) y&&AK x then Q y else U
def Re (x y:Ex):M3:=if SY x then Q y else if SY y||sameL x y then Q x else U
def Xl (x y:Ex):M3:=if SY x&&AK y then Q x else if SY y&&AK x then Q y else if sameL x y then Q x else U
def Rf (x y:Ex):M3:=if SY y||(SY x&&AK y)then Q x else if sameL x y then Q (.set 0 U 0 0 [])else U
def AeK (x y:Ex):M3:=if VH 0 x then Q y else if VH 0 y then Q x else U
def Xm (n:Int) (x y:Ex):M3:=if VH n y then Q x else U
def Xn (x y:Ex):M3:=if VH 1 x then Q y else if VH 1 y then Q x else if VH 0 x&&AK y then Q x else if VH 0 y&&AK x then Q y else U
def OR (b:Bool) (x y:Ex):M3:=if sameL x y then Q (.bool 0 b)else U
def MR (x y:Ex):M3:=if sameL x y then Q (.bool 0 jD)else if SY x&&AK y then Q (.bool 0 jD)else U
def inE (x y:Ex):M3:=if SY y&&AK x then Q (.bool 0 jE)else U
def Da (op:Int) (x y:Ex):M3:=
 if op=25 then Xk jD x y
 else if op=26 then Xk jE x y
 else if op=16 then Re x y
 else if op=17 then Xl x y
 else if op=18 then Rf x y
 else if op=11 then AeK x y
 else if op=12 then Xm 0 x y
 else if op=13 then Xn x y
 else if op=14 then Xm 1 x y
 else if op=19 then OR jD x y
 else if op=22 then OR jD x y
 else if op=20 then OR jE x y
 else if op=21 then OR jE x y
 else if op=24 then MR x y
 else if op=23 then inE x y
 else U
def rq0:Rq:=⟨⟨#[]⟩,⟨#[]⟩,0,0,[],[]⟩
noncomputable def AQ (e:Ex):M3:=
 if e.aD.isEmpty then U else if e.aD.all Ex.bD then (match Js rq0 [] e with| .ok v=>Q v.ex| .err _=>U)else U
def SZ:Ex->M3
 |.un _ o j=>if o=9 then Q j else U
 |_=>U
noncomputable def A5 (ls:L8):Ex->M3
 |.lett _ n=>match ls[n.toNat]? with
  |some c=>if c.bD then Q c else U
  |none=>U
 |.un _ op k=>if op=9 then SZ k else U
 |.bin _ op x y=>Da op x y
 |.ite _ c t e=>if isB jD c then Q t else if isB jE c then Q e else if VI t e&&AK c then Q t else U
 |_=>U
noncomputable def Im (ls:L8) (e:Ex):Ex:=match AQ e with
 |some c=>c
 |none=>(A5 ls e).getD e
noncomputable def BP (ls:L8):Ex->Ex
 |.un i op k=>Im ls<|.un i op<|BP ls k
 |.bin i op l r=>Im ls<|.bin i op (BP ls l)<|BP ls r
 |.ite i c t e=>Im ls<|.ite i (BP ls c) (BP ls t)<|BP ls e
 |e=>Im ls e
theorem OY {e:Ex}{v:Vv}(h:e.cv=Q v)(ts:L2):AX ts e=Q v.ty:=by cases e<;>simp only[Ex.cv]at h<;>first|(cases h;rfl)|cases h
theorem Akq (v:Vv)(ts:L2):AX ts v.ex=Q v.ty:=by cases v<;>rfl
theorem Fe {b:Bool}{x y z:Ex}(h:Xk b x y=Q z):z=x\/z=y:=by grind [Xk]
theorem Bl {b:Bool}{x y z:Ex}(h:OR b x y=Q z):∃c,z= .bool 0 c:=by grind [OR]
theorem DX {x y z:Ex}(h:MR x y=Q z):∃c,z= .bool 0 c:=by grind [MR]
theorem JB {x y z:Ex}(h:inE x y=Q z):∃c,z= .bool 0 c:=by grind [inE]
theorem GV {x y z:Ex}(h:Re x y=Q z):z=x\/z=y:=by grind [Re]
theorem JC {x y z:Ex}(h:Xl x y=Q z):z=x\/z=y:=by grind [Xl]
theorem GW {x y z:Ex}(h:Rf x y=Q z):z=x\/z= .set 0 U 0 0 []:=by grind [Rf]
theorem LT {x y z:Ex}(h:AeK x y=Q z):z=x\/z=y:=by grind [AeK]
theorem Gn {n:Int}{x y z:Ex}(h:Xm n x y=Q z):z=x\/z=y:=by grind [Xm]
theorem JD {x y z:Ex}(h:Xn x y=Q z):z=x\/z=y:=by grind [Xn]
theorem Zt {t:Int}{x y z:Ex}(hx:AX ts x=Q t)(hy:AX ts y=Q t)(h:z=x\/z=y):AX ts z=Q t:=S4
theorem AeL {a t:Int}{x y z:Ex}(hx:AX ts x=Q a)(hy:AX ts y=Q b)(ht:nz (By op [a,b])=Q t)(h:Da op x y=Q z):AX ts z=Q t:=by
 obtain⟨d,rfl,rfl,rfl⟩|⟨d,rfl,rfl,rfl⟩|⟨d,rfl,rfl⟩|⟨d,rfl,rfl,rfl⟩|⟨rfl,rfl,rfl,rfl⟩|⟨rfl,rfl,rfl,rfl⟩|⟨d,rfl,rfl,rfl⟩:=Ch ht
 .rcases(Oa:op=11\/op=12\/op=13\/op=14\/op=15)with rfl|rfl|rfl|rfl|rfl
  all_goals grind [By,Fe,Da,Ch,GW,JB,Zt,LT,GV,DX,AX,nz,JD,Gn,JC,Bl]
 .grind [By,Fe,Da,Ch,GW,JB,Zt,LT,GV,DX,AX,nz,JD,Gn,JC,Bl]
 .obtain rfl|rfl:=d
  .obtain⟨c,rfl⟩:=Bl h;rfl
  .obtain⟨c,rfl⟩:=Bl h;rfl
 .obtain rfl|rfl:=d
  .obtain⟨c,rfl⟩:=Bl h;rfl
  .obtain⟨c,rfl⟩:=Bl h;rfl
 all_goals grind [By,Fe,Da,Ch,GW,JB,Zt,LT,GV,DX,AX,nz,JD,Gn,JC,Bl]
theorem AeM {t:Int}{e c:Ex}(h:AX ts e=Q t)(a:AQ e=Q c):AX ts c=Q t:=by
 unfold AQ at a;split at a
 .cases a
 split at a
 .rename_i b;split at a
  .rename_i v hv;cases a;have d:AX [] e=Q t:=by
    have hc:∀k∈e.aD,AX [] k=AX ts k:=λk f=>by
     have:=zq.1 b k f;obtain⟨u,hu⟩:=Z7.1 this;rw[OY hu,OY hu]
    cases e<;>grind [AX,Ex.aD]
   rw[Akq,NA (R:=rq0) (ls:= []) (ts:= []) rfl e t d v hv]
  .cases a
 .cases a
def JR (ts:L2) (ls:L8):Prop:=∀(n:Nat) (c:Ex),ls[n]? =Q c->c.bD=jD->∃v:Vv,c.cv=Q v/\ts[n]? =Q v.ty
theorem AeN {ls:L8}(b:JR ts ls){t:Int}{e c:Ex}(h:AX ts e=Q t)(a:A5 ls e=Q c):AX ts c=Q t:=by
 cases e with
 |lett i n=>
   rw[A5]at a;rw[AX]at h;split at h
   .split at a
    .rename_i d hd;split at a
     .rename_i hc;cases a;obtain⟨v,hv,g⟩:=b _ _ hd hc
      grind [OY]
     .cases a
    .cases a
   .cases h
 |un i op k=>
   rw[A5]at a;split at a
   .rename_i f;subst f;cases k<;>grind [By,EJ,AX,nz,SZ]
   .cases a
 |bin i op x y=>grind [A5,AeL,AX]
 |ite i x y z=>grind [By,A5,AX,Ih]
 |_=>cases a
theorem AiY {ls:L8}(a:JR ts ls){t:Int}{e:Ex}(h:AX ts e=Q t):AX ts (Im ls e)=Q t:=by
 unfold Im;cases b:AQ e with
 |some c=>exact AeM h b
 |none=>
   cases d:A5 ls e with
   |none=>exact h
   |some c=>exact AeN a h d
theorem GX {ls:L8}(a:JR ts ls):∀(e:Ex) (t:Int),AX ts e=Q t->AX ts (BP ls e)=Q t:=by intro e;induction e<;>intros<;>grind [AX,BP,AiY]
theorem Ahg (e:Ex):e.st.aD=e.aD.map Ex.st:=by cases e<;>rfl
theorem AeO (e:Ex):e.st.cv=e.cv:=by cases e<;>rfl
theorem Zu (e:Ex):e.st.bD=e.bD:=by rw[Ex.bD,Ex.bD,AeO]
theorem AeP (ts:L2):∀(e:Ex),AX ts e.st=AX ts e:=by intro e;induction e<;>intros<;>grind [Ex.st,AX]
theorem PE:∀(e:Ex),AK e.st=AK e:=by intro e;induction e<;>intros<;>grind [Ex.st,AK]
theorem Akr (R:Rq)(ls:M4):∀(e:Ex),Js R ls e.st=Js R ls e:=by intro e;induction e<;>intros<;>grind [Js,Ex.st]
theorem Kp:∀(e:Ex),e.st.aL=e.aL:=by intro e;induction e<;>intros<;>grind [Ex.st,Ex.aL]
theorem Aks:∀(e:Ex),e.st.st=e.st:=by intro e;induction e<;>intros<;>grind [Ex.st]
theorem Zv (b:Bool)(e:Ex):isB b e.st=isB b e:=by cases e<;>rfl
theorem AiZ (n:Int)(e:Ex):VH n e.st=VH n e:=by cases e<;>rfl
theorem Ai0 (e:Ex):SY e.st=SY e:=by cases e<;>rfl
theorem Ahh (x y:Ex):sameL x.st y.st=sameL x y:=by cases x<;>cases y<;>rfl
theorem Ai1 (x y:Ex):VI x.st y.st=VI x y:=by rw[VI,VI,Zu,AeO,AeO]
theorem Akt (v:Vv):v.ex.st=v.ex:=by cases v<;>rfl
theorem Ahi (b:Bool)(x y:Ex):Xk b x.st y.st=(Xk b x y).map Ex.st:=by grind [PE,Zv,Xk]
theorem Ahj (op:Int)(x y:Ex):Da op x.st y.st=(Da op x y).map Ex.st:=by
 have d:∀(c:Prop) [Decidable c] (a b:M3),(if c then a else b).map Ex.st=if c then a.map Ex.st else b.map Ex.st:=λc _ a b=>by split<;>rfl
 unfold Da Re Xl Rf AeK Xm Xn OR MR inE;simp only[Ahi,Ai0,AiZ,Ahh,PE,d,Option.map_some,Option.map_none,Ex.st]
theorem Ahk (e:Ex):AQ e.st=AQ e:=by
 unfold AQ;rw[Ahg,Akr];have a:(e.aD.map Ex.st).isEmpty=e.aD.isEmpty:=by cases e.aD<;>rfl
 grind [Ex.st,List.all_map,Ex.bD,Zu,Ex.aD]
theorem Ahl {e c:Ex}(h:AQ e=Q c):c.st=c:=by grind [AQ,Akt]
theorem Ahm (ls:L8)(e:Ex):A5 (ls.map Ex.st) e.st=(A5 ls e).map Ex.st:=by
 cases e with
 |lett i n=>grind [Ex.st,A5,Ex.bD,Zu]
 |un i op k=>
   show(if op=9 then SZ k.st else U)=Option.map Ex.st (if op=9 then SZ k else U);split
   .cases k with
    |un a o j=>show(if o=9 then Q j.st else U)=Option.map Ex.st (if o=9 then Q j else U);split<;>rfl
    |_=>rfl
   .rfl
 |bin i op x y=>exact Ahj op x y
 |ite i c t e=>grind [Ex.st,A5,PE,Ai1,AK,VI,Zv,isB]
 |_=>rfl
theorem II (ls:L8)(e:Ex):Im (ls.map Ex.st) e.st=(Im ls e).st:=by
 unfold Im;rw[Ahk];cases a:AQ e with
 |some c=>exact(Ahl a).symm
 |none=>
   dsimp only;rw[Ahm]
   simp_all
theorem LU (ls:L8):∀(e:Ex),BP (ls.map Ex.st) e.st=(BP ls e).st
 |.un i op k=>by rw[Ex.st,BP,BP,LU ls k];exact II ls<|.un i op<|BP ls k
 |.bin i op l r=>by rw[Ex.st,BP,BP,LU ls l,LU ls r];exact II ls<|.bin i op (BP ls l)<|BP ls r
 |.ite i c t e=>by rw[Ex.st,BP,BP,LU ls c,LU ls t,LU ls e];exact II ls<|.ite i (BP ls c) (BP ls t)<|BP ls e
 |.int i n=>II ls<|.int i n
 |.text i n=>II ls<|.text i n
 |.bool i n=>II ls<|.bool i n
 |.set i a n c ss=>II ls<|.set i a n c ss
 |.name i n=>II ls<|.name i n
 |.attr i n=>II ls<|.attr i n
 |.lett i n=>II ls<|.lett i n
def EO (v:Vl):Vv:=if v.aC=1 then .bool (decide (v.num=1))else if v.aC=2 then .int v.num else if v.aC=3 then .text v.text else .set v.aB
theorem Afn {v:Vl}(h:CW v=jD):(EO v).ty=v.aC:=by
 unfold EO;unfold CW at h;by_cases a:v.aC=1
 .rw[H8 a,a];rfl
 by_cases b:v.aC=2
 .rw[H7 a,H8 b,b];rfl
 by_cases h3:v.aC=3
 .rw[H7 a,H7 b,H8 h3,h3];rfl
 by_cases c:v.aC=4
 .rw[H7 a,H7 b,H7 h3,c];rfl
 grind
structure Rn where
 out:Int×Int×L4
 dD:Nat
 peak:Nat
def FZ (st:M4):Vv:=st.getLast?.getD<|.bool jE
def GZ (st:M4):Vv:=st.getD (T st-2)<|.bool jE
noncomputable def opS (op:Int) (st:M4):Ev:=if AM op=1 then GI (op+3) (FZ st)else Cc (op+3) (GZ st) (FZ st)
noncomputable def Fo (R:Rq) (P:M1) (i:Be) (at_:Nat) (st:M4) (sl:List M7):Int ⊕ (Nat×M4×List M7):=
 if i.op=1 then .inr (at_+1,st++[EO<|P.getD i.aY.toNat ⟨0,0,⟨#[]⟩,[]⟩],sl)
 else if i.op=2 then .inr (at_+1,st++[IV R i.aY],sl)
 else if i.op=3 then .inr (at_+1,st++[(sl.getD i.aY.toNat U).getD<|.bool jE],sl)
 else if i.op=4 then .inr (at_+1,st.take<|st.length-1,sl.set i.aY.toNat<|Q<|FZ st)
 else if i.op=22 then .inr (i.aY.toNat,st,sl)
 else if i.op=23 then .inr (match FZ st with
  |.bool jD=>at_+1
  |_=>i.aY.toNat,st.take<|st.length-1,sl)
 else match opS i.op st with
  |.err c=> .inl c
  |.ok v=> .inr (at_+1,st.take (st.length-AM i.op)++[v],sl)
noncomputable def Oe (R:Rq) (P:M1) (I:M2):Nat->Nat->M4->List M7->Nat->Nat->Rn
 |0,_,_,_,n,pk=>⟨(0,0,[]),n,pk⟩
 |f+1,at_,st,sl,n,pk=>
  if (I.getD at_ ⟨0,0⟩).op=24 then ⟨(1,0,[]),n+1,pk⟩
  else if (I.getD at_ ⟨0,0⟩).op=25 then ⟨(2,0,match FZ st with
   |.set ss=>ss
   |_=> []),n+1,pk⟩
  else match Fo R P (I.getD at_ ⟨0,0⟩) at_ st sl with
   |.inl c=>⟨(3,c,[]),n+1,pk⟩
   |.inr (a,s,l)=>Oe R P I f a s l (n+1)<|max pk s.length
def OkS (s:Vs) (st:M4) (sl:List M7):Prop:=st.map Vv.ty=s.stack/\T sl=T s.aE/\∀j,(h:j<T s.aE)->s.aE[j]=0\/∃v,sl.getD j U=Q v/\v.ty=s.aE[j]
theorem Cf (st:M4)(h:st≠ []):CA (st.map Vv.ty)=(FZ st).ty:=by grind [CA,List.getLast?_map,FZ,List.getLast?_eq_none_iff]
theorem Of (st:M4)(h: 2<=T st):(st.map Vv.ty).getD (T (st.map Vv.ty)-2) 0=(GZ st).ty:=by grind [GZ]
theorem Og {a t:Int}(h0: 8<=op)(b:op<=10)(h:MZ op a 0=Q t):nz (By op [a])=Q t:=by grind [By,MZ,nz,ZF]
theorem Oh {a t:Int}(h0: 11<=op)(c:op<=24)(h:MZ op a b=Q t):nz (By op [a,b])=Q t:=by
 rw[PJ op a b h0 c]at h
 grind [By,MZ,PJ,nz]
theorem Vv.cW (v:Vv): 1<=v.ty:=by cases v<;>simp[Vv.ty]
theorem Gy {PK:L2}{S:Nat}(h:(As PK S M at_ i s).1=0):AF (T PK) S M at_ i=jD/\AM i.op<=T s.stack/\AJ i s=jD/\¬ (i.op=3/\RZ s.aE i.aY=0)/\(As PK S M at_ i s).2=AT PK i s:=by
 unfold As at h|-
 grind
theorem Iq {PK:L2}(a:i.op≠4){t:Int}(ht:BR PK i s=t)(h0:t≠0):AT PK i s=⟨s.stack.take (T s.stack-AM i.op)++[t],s.aE⟩:=by grind [AT]
theorem OkS.push {st:M4}{sl:List M7}(h:OkS s st sl)(k:Nat)(v:Vv):OkS ⟨s.stack.take (T s.stack-k)++[v.ty],s.aE⟩ (st.take (T st-k)++[v]) sl:=by
 refine⟨?_,h.2.1,h.2.2⟩;have a:T st=T s.stack:=by rw[<-h.1,zN]
 rw[zk,List.map_take,h.1,a];rfl
theorem AhU (R:Rq)(n:Int):(IV R n).ty=F7 n:=by
 unfold IV F7
 repeat' split<;>try rfl
theorem XL {R:Rq}{S:Nat}{st:M4}{sl:List M7}(A:∀v∈P,CW v=jD)(hi:EF i=jD)(h:(As (P.map Vl.aC) S M at_ i s).1=0)(G:T s.aE=S)(b:OkS s st sl)(H:i.op≠24)(I:i.op≠25):
  ∀a st' p,Fo R P i at_ st sl= .inr (a,st',p)->OkS (As (P.map Vl.aC) S M at_ i s).2 st' p/\a∈AI at_ i:=by
 intro a st' p e;obtain⟨r,n,ht,J,B⟩:=Gy h;rw[B];have k:T st=T s.stack:=by rw[<-b.1,zN]
 have u: 1<=i.op/\i.op<=25/\(GJ i.op=jD->0<=i.aY):=by grind [EF]
 unfold Fo at e;by_cases c1:i.op=1
 .rw[H8 c1]at e;have y:=u.2.2 (by simp[GJ,c1]);simp only[AF,H8 c1,zN,zG]at r;have l:i.aY.toNat<T P:=Oa;simp only[Sum.inr.injEq,Prod.mk.injEq]at e;obtain⟨rfl,rfl,rfl⟩:=e;have hv:=A _<|zI l;have d:BR (P.map Vl.aC) i s=(EO P[i.aY.toNat]).ty:=by grind [RZ,BR,Afn]
  rw[Iq Oa d<|H2<|Vv.cW<|EO P[i.aY.toNat],zj,zM l];have hq:AM i.op=0:=by rw[AM,H8<|.inl c1]
  have:=b.push 0<|EO P[i.aY.toNat]
  grind [AI]
 rw[H7 c1]at e;by_cases c2:i.op=2
 .rw[H8 c2]at e;simp only[Sum.inr.injEq,Prod.mk.injEq]at e;obtain⟨rfl,rfl,rfl⟩:=e;have d:BR (P.map Vl.aC) i s=(IV R i.aY).ty:=by rw[AhU,BR,H7 c1,H8 c2]
  rw[Iq Oa d<|H2<|Vv.cW<|IV R i.aY];have hq:AM i.op=0:=by rw[AM,H8<|.inr<|.inl c2]
  have:=b.push 0<|IV R i.aY
  grind [AI]
 rw[H7 c2]at e;by_cases c3:i.op=3
 .rw[H8 c3]at e;have y:=u.2.2 (by simp[GJ,c3]);simp only[AF,H7 c1,H7 c2,H8 (Or.inl c3:i.op=3\/i.op=4),zG]at r;have l:i.aY.toNat<T s.aE:=Oa;simp only[Sum.inr.injEq,Prod.mk.injEq]at e;obtain⟨rfl,rfl,rfl⟩:=e;have hat:RZ s.aE i.aY=s.aE[i.aY.toNat]:=by rw[RZ,zj,zM l];rfl
  obtain h0|⟨v,C,D⟩:=b.2.2 _ l
  .omega
  .rw[C];have d:BR (P.map Vl.aC) i s=v.ty:=by rw[BR,H7 c1,H7 c2,H8 c3,hat,D]
   rw[Iq Oa d<|H2<|Vv.cW v];have hq:AM i.op=0:=by rw[AM,H8<|.inr<|.inr<|.inl c3]
   grind [AI,OkS.push,z2]
 rw[H7 c3]at e;by_cases c4:i.op=4
 .rw[H8 c4]at e;have y:=u.2.2 (by simp[GJ,c4]);simp only[AF,H7 c1,H7 c2,H8 (Or.inr c4:i.op=3\/i.op=4),zG]at r;simp only[Sum.inr.injEq,Prod.mk.injEq]at e;obtain⟨rfl,rfl,rfl⟩:=e;have hq:AM i.op=1:=by rw[AM,H7 Oa,H8<|.inl c4]
  have m:st≠ []:=λe=>by rw[e]at k;rw[hq,<-k]at n;exact H9 n Ob
  rw[AT,H8 c4,<-b.1,Cf st m];refine⟨⟨?_,?_,λj w=>?_⟩,by rw[AI,H7 Oa,H7 Oa,H7 Oa];simp⟩
  .simp_all
  .simpa using b.2.1
  .simp only[zv]at w;rw[List.getElem_set];by_cases o:i.aY.toNat=j
   .rw[H8 o];refine .inr ⟨FZ st,?_,rfl⟩;rw[o,zj,Z2<|by rw[b.2.1];exact w];rfl
   .rw[H7 o,zj,Z6 o,<-zj];exact b.2.2 j w
 rw[H7 c4]at e;by_cases E:i.op=22
 .simp_all[Sum.inr.injEq,AI,Prod.mk.injEq,AM,List.take_length,BR,AT]
 rw[H7 E]at e;by_cases z:i.op=23
 .rw[H8 z]at e;simp only[Sum.inr.injEq,Prod.mk.injEq]at e;obtain⟨rfl,rfl,rfl⟩:=e;have hq:AM i.op=1:=by rw[AM,H7 Oa,H8 Oa]
  have h0:BR (P.map Vl.aC) i s=0:=by rw[BR,H7 c1,H7 c2,H7 c3,H8 Oa]
  rw[AT,H7 c4,H8 h0,hq];refine⟨⟨?_,b.2.1,b.2.2⟩,?_⟩
  .rw[List.map_take,b.1,k]
  grind [AI]
 rw[H7 z]at e;have K: 5<=i.op/\i.op<=21:=Oa;have F:(FQ i.op s.stack).isSome=jD:=by grind [AJ]
 obtain⟨t,f⟩:=Z7.1 F;cases g:opS i.op st with
 |err c=>grind
 |ok v=>
   rw[g]at e;simp only[Sum.inr.injEq,Prod.mk.injEq]at e;obtain⟨rfl,rfl,rfl⟩:=e;have L:v.ty=t:=by
    unfold opS at g;unfold FQ at f;by_cases cp:AM i.op=1
    .rw[H8 cp]at g f;have m:st≠ []:=λe=>by rw[e]at k;rw[cp,<-k]at n;exact H9 n Ob
     rw[<-b.1,Cf st m]at f;have N:i.op<=7:=by grind [AM]
     exact UO (Og Oa Oa f) v g
    .rw[H7 cp]at g f;have O: 8<=i.op:=by
      obtain q|q:=Int.lt_or_le i.op 8
      all_goals grind [AM]
     have W:AM i.op=2:=by rw[AM,H7 Oa,H7 Oa]
     have x: 2<=T st:=Oa;have m:st≠ []:=λe=>by rw[e]at x;exact H9 x Ob
     rw[<-b.1,Cf st m,Of st x]at f;exact Qn (Oh Oa Oa f) Oa v g
   have d:BR (P.map Vl.aC) i s=v.ty:=by grind [BR]
   rw[Iq c4 d<|H2<|Vv.cW v]
   grind [AI,OkS.push]
theorem Ais {k:List M5}{n m:Nat}(h:n≠m)(u:M5):(k.set n u).getD m U=k.getD m U:=S4
theorem KU {t:Vs} :∀{ns:N6} {k:List M5},(G3 t ns k).1=0->(∀n∈ns,n<=T k)->T (G3 t ns k).2=T k/\(∀n s,k.getD n U=Q s->(G3 t ns k).2.getD n U=Q s)/\∀n∈ns,n<T k/\(G3 t ns k).2.getD n U=Q t
 |[],k,_,_=>⟨rfl,λ_ _ h=>h,λn h=>Qy⟩
 |n ::ns,k,h,hn=>by
  rw[G3]at h|-;by_cases e:n=T k
  .grind
  rw[H7 e]at h|-;have c:n<T k:=H2 (hn n (za ..))
  cases a:k.getD n U with
  |none=>
    rw[a]at h;dsimp only at h|-;obtain⟨a1,a2,a3⟩:=KU (k:=k.set n (Q t)) h (λm hm=>by rw[zv];exact hn m<|zi _ hm)
    grind
  |some u=>
    rw[a]at h;dsimp only at h|-;by_cases b:u=t
    .rw[H8 b]at h|-;obtain⟨a1,a2,a3⟩:=KU (k:=k) h (λm hm=>hn m<|zi _ hm)
     grind
    grind
def Kst (PK:L2) (S:Nat) (I:M2) (at_:Nat) (K:List M5):Prop:=∀n,at_<=n->n<T I->∃s,K.getD n U=Q s/\(As PK S (T I) n (I.getD n ⟨0,0⟩) s).1=0/\∀x∈AI n (I.getD n ⟨0,0⟩),x<T I/\K.getD x U=Q (As PK S (T I) n (I.getD n ⟨0,0⟩) s).2
theorem Abh {PK:L2}{S:Nat}(h:(As PK S M at_ i s).1=0)(hat:at_<M):∀x∈AI at_ i,x<=M:=by
 obtain⟨a,_⟩:=Gy h;intro x hx;unfold AI at hx;unfold AF at a
 grind
theorem Abi {PK:L2}{S:Nat}(h:(As PK S M at_ i s).1=0):∀x∈AI at_ i,at_<x:=by
 obtain⟨a,_⟩:=Gy h;intro x hx;unfold AI at hx;unfold AF at a
 grind
theorem Sa {PK:L2}{S:Nat}{I:M2} :∀(r at_:Nat) (k:List M5) (b:Nat),at_+r=T I->T k=T I->(Gp PK S I r at_ k b).2=0->∃K:List M5,(∀n s,k.getD n U=Q s->K.getD n U=Q s)/\Kst PK S I at_ K
 |0,at_,k,b,hr,hl,h=>⟨k,λ_ _ h=>h,λn a j=>Oa⟩
 |r+1,at_,k,b,hr,hl,h=>by
  rw[Gp]at h;cases c:k.getD at_ U with
  |none=>grind
  |some s=>
    rw[c]at h;dsimp only at h;by_cases c1:(As PK S (T I) at_ (I.getD at_ ⟨0,0⟩) s).1≠0
    .grind
    rw[H7 c1]at h;by_cases c2:(G3 (As PK S (T I) at_ (I.getD at_ ⟨0,0⟩) s).2 (AI at_<|I.getD at_ ⟨0,0⟩) k).1≠0
    .grind
    rw[H7 c2]at h;have a:(As PK S (T I) at_ (I.getD at_ ⟨0,0⟩) s).1=0:=Decidable.not_not.1 c1;obtain⟨g1,g2,g3⟩:=KU (Decidable.not_not.1 c2) (by rw[hl];exact Abh a Oa);obtain⟨K,d,f⟩:=Sa r (at_+1) _ _ Oa (g1.trans hl) h;refine⟨K,λn u g=>d n u<|g2 n u g,λn l i=>?_⟩;by_cases en:n=at_
    .grind
    .exact f n Oa i
theorem Sb {s:Int}{I:M2}(h:(DG P s I).2=0):DO P s I=jD/\I≠ []/\∃K:List M5,K.getD 0 U=Q ⟨[],List.replicate s.toNat 0⟩/\Kst (P.map Vl.aC) s.toNat I 0 K:=by grind [Sa,DG,DO,List.length_pos_iff,Z2]
section
open Go.RowKit Go.Lib
theorem WO (a b:L3)(n c m d:Nat)(s:Int)(P:M1)(I:M2)(w:jB)(D:SC w a n c P)(K:PX w b m d I):
  Calls jZ 12 #[.agg #[Y a n c,V X s,Y b m d]] w λe w'=>e=jN (.bool<|DO P s I)/\Ai w w':=by
 have ay:=D.aJ;have hm:=K.aJ;have ae:=Ab D.len;have af:=Ab K.len;have E:=Ab (show DO P s I=(decide (n<=4000/\m<=20000/\0<=s/\s<=600)&&P.all CW&&I.all EF) by rw[DO,D.len,K.len]);have ak:=Ag.new w #[Y a n c,V X s,Y b m d] 26;have F:=AE w<|jH #[Y a n c,V X s,Y b m d] 26;generalize DO P s I=B at E|-;by_cases O:n<=4000/\m<=20000/\0<=s/\s<=600
 .have az: ¬ ((4000 :Int)<(n:Int)):=Oa;have i2: ¬ ((20000 :Int)<(m:Int)):=Oa;have aB: ¬ (s<0):=Oa;have aD: ¬ (600<s):=Oa;have S:=Ab (show B=(P.all CW&&I.all EF) by rw[Aa E,zJ O,zm]);clear E O;go_enter func12,ntmps12
  go_wp2_with fail
  go_loopw [30] (λi wr=>∃k:Nat,k<=n/\i=V X k/\Ai w wr/\Ag wr (R<|Z w) #[Y a n c,V X s,Y b m d] 26/\Hid (∀j,(q:j<T P)->j<k->CW P[j]=jD)) (λi _=>n-(intOf i).toNat)
  case atStart=>exact⟨0,zE _,rfl,F,ak,Ab λj _ h=>H9 h Oa⟩
  case round=>
   obtain⟨k,aE,rfl,r,W,t⟩:=hrel;skip;by_cases G:k<n
   .have aa:(k:Int)<(n:Int):=Oa;have C:k<T P:=by rw[Aa ae];exact G
    have ab:=D.bC P[k]<|zI C;obtain⟨al,ao,rfl,ap,an,nn,cn,L,M,aq,ar,ag⟩:=(D.below r NLN).cells k C;have f:=Ab (show CW P[k]=jE->B=jE from λe=>by
     rw[Aa S,show P.all CW=jE by rw[<-Bool.not_eq_true,Kf];intro h;rw[h k C]at e;cases e];rfl)
    have l:=Ab (show CW P[k]=jD->∀j,(q:j<T P)->j<k+1->CW P[j]=jD from λe j q au=>by
     by_cases ac:j=k
     .subst ac;exact e
     .exact Aa t j q Oa)
    have v:=Ab G;clear t;generalize P[k]=z at L M aq ar ab ag f l;have o:=r.alloc r.size<|jH #[V X z.aC,V X z.num,jC z.text,Y an nn cn] 77;have ah:=AE wr<|jH #[V X z.aC,V X z.num,jC z.text,Y an nn cn] 77;have ai:=ag.below ah NLN;have av:=W.aA ah NLN;cases hv:CW z
    .have g:=Ab<|Aa f hv;have x:=Ab hv;clear hv f l;go_wp2_with (go_at_call 34;refine(OH z an nn cn _ ai ab).mono ?_;rintro e ad ⟨rfl,N⟩;rw[Aa x])
     go_ret
     exact⟨Af (Aa g).symm,o.trans<|N.mono o.size⟩
    .have H:=Ab<|Aa l hv;have x:=Ab hv;clear hv f l;go_wp2_with (go_at_call 34;refine(OH z an nn cn _ ai ab).mono ?_;rintro e ad ⟨rfl,N⟩;rw[Aa x])
     go_roundw
     case rel=>exact⟨k+1,Aa v,O1,o.trans<|N.mono o.size,av.aA N NLN,H⟩
     case measure=>have:=Aa v;simp[intOf];omega
   .have aj:=Ab (show B=I.all EF by rw[Aa S,(Kf CW P).2 λj q=>Aa t j q<|H2<|Aa ae,zm]);have aa: ¬ ((k:Int)<(n:Int)):=Oa;obtain⟨aw,q1,q2⟩:=At W;have ax:=Ab r;clear t S r;go_wp2_with fail
    go_loopw [41] (λi wr=>∃k:Nat,k<=m/\i=V X k/\Ai w wr/\Hid (∀j,(q:j<T I)->j<k->EF I[j]=jD)) (λi _=>m-(intOf i).toNat)
    case atStart=>exact⟨0,zE _,rfl,Aa ax,Ab λj _ h=>H9 h Oa⟩
    case round=>
     obtain⟨p,aF,rfl,r,t⟩:=hrel;clear W aw q1 q2;by_cases G:p<m
     .have aa:(p:Int)<(m:Int):=Oa;have C:p<T I:=by rw[Aa af];exact G
      obtain⟨al,ao,rfl,ap,L,M⟩:=(K.below r NLN).cells p C;have f:=Ab (show EF I[p]=jE->B=jE from λe=>by
       rw[Aa aj,<-Bool.not_eq_true,Kf];intro h;rw[h p C]at e;cases e)
      have l:=Ab (show EF I[p]=jD->∀j,(q:j<T I)->j<p+1->EF I[j]=jD from λe j q au=>by
       by_cases ac:j=p
       .subst ac;exact e
       .exact Aa t j q Oa)
      have v:=Ab G;clear t;generalize I[p]=z at L M f l;have o:=r.alloc r.size<|jH #[V X z.op,V X z.aY] 80;obtain⟨op,u⟩:=z;simp only at L M o;have y:=Ab<|show EF ⟨op,u⟩=(decide (1<=op/\op<=25)&&(if GJ op then decide (0<=u/\u<=65535)else decide (u=0)))from rfl;by_cases aG:op<1
      .have g:=Ab (Aa f<|by rw[Aa y,zH Oa];rfl);clear f l;go_wp2
       go_ret
       exact⟨Af (Aa g).symm,o⟩
      by_cases aH: 25<op
      .have g:=Ab (Aa f<|by rw[Aa y,zH Oa];rfl);clear f l;go_wp2
       go_ret
       exact⟨Af (Aa g).symm,o⟩
      by_cases aI:u<0
      .have g:=Ab (Aa f<|by rw[Aa y,zJ Oa,zm];split;exact zH Oa;exact zH Oa);clear f l;go_wp2
       go_ret
       exact⟨Af (Aa g).symm,o⟩
      by_cases aK: 65535<u
      .have g:=Ab (Aa f<|by rw[Aa y,zJ Oa,zm];split;exact zH Oa;exact zH Oa);clear f l;go_wp2
       go_ret
       exact⟨Af (Aa g).symm,o⟩
      by_cases A:u=0
      .have H:=Ab (Aa l<|by rw[Aa y,zJ Oa,zm];split;exact zJ Oa;exact zJ A);have e5:(u !=0)=jE:=by rw[A];rfl
       clear f l A;go_wp2
       go_roundw
       case rel=>exact⟨p+1,Aa v,O1,o,H⟩
       case measure=>have:=Aa v;simp[intOf];omega
      .have e5:(u !=0)=jD:=zV.2 A;cases hv:GJ op
       .have g:=Ab (Aa f<|by rw[Aa y,hv,zJ Oa,zm,H7 Ob,zH A]);have x:=Ab hv;clear hv f l A;go_wp2_with (go_at_call 35;refine(MC _ _).mono ?_;rintro e ad ⟨rfl,J⟩;rw[J,Aa x];clear J)
        go_ret
        exact⟨Af (Aa g).symm,o⟩
       .have H:=Ab (Aa l<|by rw[Aa y,hv,zJ Oa,zm,H8 rfl];exact zJ Oa);have x:=Ab hv;clear hv f l A;go_wp2_with (go_at_call 35;refine(MC _ _).mono ?_;rintro e ad ⟨rfl,J⟩;rw[J,Aa x];clear J)
        go_roundw
        case rel=>exact⟨p+1,Aa v,O1,o,H⟩
        case measure=>have:=Aa v;simp[intOf];omega
     .have g:=Ab (show B=jD by rw[Aa aj];exact(Kf EF I).2 (λj q=>Aa t j q<|H2<|Aa af));have aa: ¬ ((p:Int)<(m:Int)):=Oa;clear t;go_wp2
      go_ret
      exact⟨Af (Aa g).symm,r⟩
 .have g:=Ab (show B=jE by rw[Aa E,zH O];rfl);clear E;go_enter func12,ntmps12
  by_cases aL:(4000 :Int)<(n:Int)
  .go_wp2
   go_ret
   exact⟨Af (Aa g).symm,F⟩
  by_cases aM:(20000 :Int)<(m:Int)
  .go_wp2
   go_ret
   exact⟨Af (Aa g).symm,F⟩
  by_cases aN:s<0
  .go_wp2
   go_ret
   exact⟨Af (Aa g).symm,F⟩
  have aO: 600<s:=Oa;go_wp2
  go_ret
  exact⟨Af (Aa g).symm,F⟩
end
theorem Y1 (a:L3)(n c:Nat)(ss:L4)(w:jB)(h:Aq w a n c ss)(p:T ss<=1048576):
  Calls jZ 115 #[Y a n c] w λe w'=>(∃x cx,e=jN (Y x (T ss) cx)/\jO w' (R<|Z w) 9 1 (Y x (T ss) cx) (T ss) (ss.map Value.string))/\Ai w w':=by
 obtain⟨r,s,t,v,y⟩:=info_parts GB;have f:=h.len;cases a with
 |none=>
  have h0:n=0:=by
   obtain q|q:=Nat.eq_zero_or_pos n
   .exact q
   .obtain⟨b,z,e,_⟩:=h.cells 0 q;cases e
  subst h0;obtain rfl:ss=[]:=zd f.symm;clear h p f;have A:∀(w:jB) (a:L3) (n c n' c':Nat),(binOp .eql 194 (Y a n c)<|Y U n' c').run jZ w= .ok (.bool a.isNone) w:=λw a n c n' c'=>Lib.run_eql_slice_nil w _ _ a n c n' c' underlying194;go_enter func115,ntmps115
  go_wp2
  go_ret
  exact⟨⟨U,0,rfl,H3⟩,BRN⟩
 |some B=>
  have A:∀(w:jB) (a:L3) (n c n' c':Nat),(binOp .eql 194 (Y a n c)<|Y U n' c').run jZ w= .ok (.bool a.isNone) w:=λw a n c n' c'=>Lib.run_eql_slice_nil w _ _ a n c n' c' underlying194;have H:∀w,Sem.run jZ (underlying 194) w= .ok (TypeDesc.slice 9) w:=K3 underlying194;have C:=Ab h;have d:=Ab f;have I:n<=1048576:=Oa;clear h f;go_enter func115,ntmps115
  go_wp2_with (at_builtin;refine G7 _ rfl _ _ 194 rfl (R<|Z w) 9 r (jC ByteArray.empty) 1 16 underlying194 s t v y rfl Ob _ _ _ rfl (World.ownsRow_made w #[] 0 NLN (zE _) rfl) B n c (ss.map Value.string) rfl ?qc1 ?qc2 ?qc3 ?qc4 ?qc5 ?qc6 ?_)
  case qc1=>rw[zN,Aa d];omega
  case qc2=>
   intro j u i;have g:j<n:=by
    have:=(zP.1 i).1;rw[zN]at this;rw[Aa d];exact this
   obtain⟨b,z,e,J,hc⟩:=(Aa C).cells j g;cases e;rw[Addr.add_lit];refine Lib.cell?_alloc_some _ ?_;rw[hc,<-i,zr,zM<|by rw[<-Aa d];exact g,UQ<|by rw[<-Aa d];exact g];rfl
  case qc3=>intro u hu;obtain⟨x,_,rfl⟩:=zc.1 hu;rfl
  case qc4=>unfold maxLen;omega
  case qc5=>omega
  case qc6=>simp
  intro v' D l m E;have F:=((Below.refl _ w).alloc NLN<|jH #[] 9).grown m Ox (by intro k G;simp[jL]at G;omega);have o:jO D (R<|Z w) 9 1 v' n<|ss.map Value.string:=by simpa using l
  obtain⟨x,cx,rfl,_⟩:=Ae o;clear l E m;go_wp2
  go_ret
  have e:=Aa d;subst e;exact⟨⟨x,cx,rfl,o⟩,F⟩
set_option maxHeartbeats 800000
def Kw (cl us:K9) (s1 s2:L4):Bool:=vnB cl&&vnB us&&Ay s1&&Ay s2
theorem Ni (cl us:K9)(lv nw:Int)(a1:L3)(n1 c1:Nat)(s1:L4)(a2:L3)(n2 c2:Nat)(s2:L4)(w:jB)
  (f:cl.size<=maxLen)(g:us.size<=maxLen)(h:Aq w a1 n1 c1 s1)(i:Aq w a2 n2 c2 s2):
  Calls jZ 9 #[.agg #[jC cl,jC us,V X lv,V X nw,Y a1 n1 c1,Y a2 n2 c2]] w λe w'=>e=jN (.bool<|Kw cl us s1 s2)/\Ai w w':=by
 have a:Ai w<|jK w<|jH #[jC cl,jC us,V X lv,V X nw,Y a1 n1 c1,Y a2 n2 c2] 32:=BRN.alloc NLN _;have g1:=h.below a NLN;have g2:=i.below a NLN;go_enter func9,ntmps9
 go_wp2_with fail
 refine(CL _ _ f).mono ?_;rintro e w' ⟨rfl,rfl⟩;cases b:vnB cl
 .go_wp2
  go_ret
  exact⟨Af<|by simp[Kw,b],a⟩
 .go_wp2_with fail
  refine(CL _ _ g).mono ?_;rintro e w' ⟨rfl,rfl⟩;cases c:vnB us
  .go_wp2
   go_ret
   exact⟨Af<|by simp[Kw,c],a⟩
  .go_wp2_with fail
   refine(AC _ _ _ _ _ g1).mono ?_;rintro e w' ⟨rfl,rfl⟩;cases d:Ay s1
   .go_wp2
    go_ret
    exact⟨Af<|by simp[Kw,d],a⟩
   .go_wp2_with fail
    refine(AC _ _ _ _ _ g2).mono ?_;rintro e w' ⟨rfl,rfl⟩;go_wp2
    go_ret
    exact⟨Af<|by simp[Kw,b,c,d],a⟩
theorem Ne (cl us:K9)(lv nw:Int)(a1:L3)(n1 c1:Nat)(s1:L4)(a2:L3)(n2 c2:Nat)(s2:L4)(w:jB)
  (g:cl.size<=maxLen)(h:us.size<=maxLen)(i:Aq w a1 n1 c1 s1)(j:Aq w a2 n2 c2 s2):
  Calls jZ 20 #[.agg #[jC cl,jC us,V X lv,V X nw,Y a1 n1 c1,Y a2 n2 c2]] w λe w'=>e=jN (.bool<|Kw cl us s1 s2)/\Ai w w':=by
 have a:Ai w<|jK w<|jH #[jC cl,jC us,V X lv,V X nw,Y a1 n1 c1,Y a2 n2 c2] 32:=BRN.alloc NLN _;have g1:=i.below a NLN;have g2:=j.below a NLN;go_enter func20,ntmps20
 go_wp2_with fail
 refine(Fd _ _ g).mono ?_;rintro e w' ⟨rfl,rfl⟩;cases c:vnB cl
 .go_wp2
  go_ret
  exact⟨Af<|by simp[Kw,c],a⟩
 .go_wp2_with fail
  refine(Fd _ _ h).mono ?_;rintro e w' ⟨rfl,rfl⟩;cases d:vnB us
  .go_wp2
   go_ret
   exact⟨Af<|by simp[Kw,d],a⟩
  .go_wp2_with fail
   refine(AD _ _ _ _ _ g1).mono ?_;rintro e m ⟨rfl,b⟩;cases f:Ay s1
   .go_wp2
    go_ret
    exact⟨Af<|by simp[Kw,f],a.trans<|b.mono Ox⟩
   .obtain⟨hc,n⟩:=Akb b;go_wp2_with fail
    refine(AD _ _ _ _ _<|g2.below b NLN).mono ?_;rintro e w2 ⟨rfl,k⟩;go_wp2
    go_ret
    have l:=b.size;simp at l;exact⟨Af<|by simp[Kw,c,d,f],(a.trans<|b.mono Ox).trans<|k.mono Oa⟩
end Go.Proofs.YtnjpihpohilnjaaGreatDoor

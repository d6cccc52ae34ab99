import Derived.Test.YtnjpihpohilnjaaGreatDoorMXAN
open List renaming length->T,length->ja
open Option renaming none->U,some->Q,some->jg
open Array renaming size->R,size->jh
open Go renaming World->jB,Value->jF,Addr->jG
open Bool renaming true->jD,false->jE
namespace Go.Proofs.YtnjpihpohilnjaaGreatDoor
open Proofs.Tryz
open Value renaming int->V,int->jc,slice->Y,string->jC,ownBlock->jL,agg->jM
open IntKind renaming i64->X
open World renaming heap->Z,cell?->jI,setCell->jJ,alloc->jK,ownsRow->jO,drew->jR
open Addr renaming mk->jA
open Obj renaming cells->jH
open Proofs.Tryz renaming prog->jZ
open Go.RowKit
set_option linter.unusedVariables false
set_option maxRecDepth 100000
set_option maxHeartbeats 12800000
variable{s:De}{b:Ex}{l:Int}{k:K5}{bs:L8}{L:M9}{c:M6}{d:L7}{P:M1}{B a cap lo:Nat}{ka:L3}{pv iv u:jF}{v:Vl}{w0 w w':jB}
def Sz1 (W:jB) (k:K5) (e:Ex):Prop:=Calls jZ 103 #[jM #[V X k.op,V X k.num,jC k.text,Y k.an k.nn k.cn,Y k.ka k.kn k.kc]] W λr w'=>r= .returned (V X<|Am e)/\Ai W w'
def Tr1 (w0 W:jB) (k:K5) (e:Ex):Prop:=∀at_:Nat,at_+Am e<=1048576->Calls jZ 63 #[jM #[V X k.op,V X k.num,jC k.text,Y k.an k.nn k.cn,Y k.ka k.kn k.kc],V X at_] W λr w'=>(∃v,r= .returned v/\BS w0 (R<|Z W) v (Ar e at_) w')/\Ai W w'
def SmC (w0:jB) (lo hi:Nat) (w:jB) (k:K5) (e:Ex):Prop:=∀W,IP lo hi w W->Am e<=1048576->Sz1 W k e/\Tr1 w0 W k e
theorem SmC.aM {lo hi:Nat}{e:Ex}(h:SmC w0 lo hi w k e)(a:IP lo hi w w'):SmC w0 lo hi w' k e:=λb c=>h b<|a.trans c
def NmZ (w:jB) (a:L3) (N:L6):Prop:=∀j,j<T N->∀b off,a=Q (jA b off U)->∀an nn cn,jI w ⟨b,off+j*5+3,U⟩=Q (Y an nn cn)->an=U->cn=0
theorem NmZ.below {w w':jB}{a:L3}{n c:Nat}{N:L6}(h:NmZ w a N)(k:IN w a n c N)(l:Ai w w'):NmZ w' a N:=λj d b f g an nn cn hc=>by
 obtain⟨o,q,i,m,_⟩:=k.cells j d;rw[g]at i;cases i;refine h j d b f g an nn cn ?_;rw[<-hc];exact(l.cell (p:=⟨b,f+j*5+3,U⟩) m).symm
def tyC (op:Int):Int:=if op=1 then 2 else if op=2 then 3 else if op=3 then 1 else 4
inductive Nv (op num:Int) (text:ByteArray) (ss:List ByteArray):L8->Ex->Prop
 |attr (i:Int) (h:op=6):Nv op num text ss []<|.attr i num
 |lett (i:Int) (h:op=7):Nv op num text ss []<|.lett i num
 |const (e:Ex) (h: 1<=op/\op<=5) (ht:∀a,Ar e a=[⟨1,0,⟨tyC op,num,text,ss⟩⟩]) (hz:Am e=1):Nv op num text ss [] e
 |un (i:Int) (e0:Ex) (h: 8<=op/\op<=10):Nv op num text ss [e0]<|.un i op e0
 |bin (i:Int) (e0 e1:Ex) (h: 11<=op/\op<=26):Nv op num text ss [e0,e1]<|.bin i op e0 e1
 |ite (i:Int) (e0 e1 e2:Ex) (h:op=27):Nv op num text ss [e0,e1,e2]<|.ite i e0 e1 e2
theorem Nv.size {op num:Int}{text:K9}{ss:L4}{a:L8}{e:Ex}(h:Nv op num text ss a e):JN op (a.map Am)=Am e:=by cases h<;>grind [JN,Am]
theorem Nv.sum {op num:Int}{text:K9}{ss:L4}{a:L8}{e:Ex}(h:Nv op num text ss a e):(a.map Am).sum<=Am e:=by
 have:=h.size
 grind [JN]
theorem AgC {n:Nat} :∀{ns:N6},n∈ns->n<=ns.sum:=by intro ns;induction ns<;>intros<;>grind
structure Tk (w0:jB) (B:Nat) (kv:jF) (vs:M6) (bs:L8) (w:jB):Prop where
 aN:jO w B 121 5 kv (T vs)<|vs.flatMap K5.cs
 len:T bs=T vs
 bT:∀j,(h1:j<T vs)->(h2:j<T bs)->∃lo hi,B<=lo/\hi<=R (Z w)/\(∀q,jL kv=Q q->q<lo\/hi<=q)/\SmC w0 lo hi w vs[j] bs[j]
theorem Tk.below {b:jF}(h:Tk w0 B b c bs w)(a:Ai w w'):Tk w0 B b c bs w':=
 ⟨Aj h.aN a NLN,h.len,λj d f=>by
  obtain⟨lo,hi,a1,a2,a3,a4⟩:=h.bT j d f;exact⟨lo,hi,a1,zB a2 a.size,a3,a4.aM<|IP.aH a a2 a2⟩⟩
theorem Tk.set {a:jF}{b:M6}(h:Tk w0 B a b bs w)(p:jG)(u:jF)(f:Addr.block p<B):Tk w0 B a b bs<|jJ w p u:=
 ⟨Ah h.aN p u λq hq=>H2<|(h.aN.lt q hq).1,h.len,λj c d=>by
  obtain⟨lo,hi,a1,a2,a3,a4⟩:=h.bT j c d;exact⟨lo,hi,a1,by simpa using a2,a3,a4.aM ⟨by simpa using a2,λq h3 g=>K0 w p q u Oa⟩⟩⟩
theorem Tk.bN {c:jF}{a:M6}{o:Obj}{g:Nat}(h:Tk w0 B c a bs w)(u:B<=lo)(v:∀q,jL c=Q q->q<lo)(hs:SmC w0 lo (R<|Z w) w k b)
  (z:jO w' B 121 5 (Y (Q<|jA g 0 U) (T a+1) cap) (T a+1)<|a.flatMap K5.cs++k.cs)(n:(jK w o).grownBy w'<|jL c)(hat:jL c=Q g\/g=R (Z w)+1):
  Tk w0 B (Y (Q<|jA g 0 U) (T a+1) cap) (a++[k]) (bs++[b]) w':=by
 have x:R (Z<|jK w o)=R (Z w)+1:=Ox;have p:R (Z w)<=R (Z w'):=H2 n.size;have r:∀q,q<R (Z w)->jL c≠Q q->(Z w')[q]? =(Z w)[q]? :=λq m s=>(n.block q (by rw[x];omega) λe=>s e.symm).trans<|Below.heap_alloc w o q m;refine⟨?_,by simp[h.len],λj m s=>?_⟩
 .grind
 .by_cases f:j<T a
  .obtain⟨l,i,a1,a2,a3,a4⟩:=h.bT j f Hd;rw[zx f,zx Hd];refine⟨l,i,a1,Oa,λq hq=>?_,a4.aM ⟨Oa,λq h3 t=>r q Oa (λe=>by obtain h5|h5:=a3 q e<;>omega)⟩⟩;have e:g=q:=O8
   grind
  .have y:j=T a:=by simp at m;omega
   subst y;have e1:(a++[k])[T a]=k:=Ox;have e2:(bs++[b])[T a]=b:=by simp[<-h.len]
   rw[e1,e2];refine⟨lo,R<|Z w,u,p,λq hq=>?_,hs.aM ⟨p,λq h3 t=>r q t λe=>H2<|v q e⟩⟩;have e:g=q:=O8
   grind
theorem Tk.all {lo:Nat}{m kc:Nat}{d:M6}(h:Tk w0 B (Y ka m kc) d bs w)(hm:m<=1048576)(q:T d=m)(L:lo<=B)(op num:Int)(text:K9)(an:L3)(nn cn:Nat)(ss:L4)(z:Qh w0 an nn cn ss)(e:Ex)(hF:Nv op num text ss bs e):SmC w0 lo (R<|Z w) w ⟨op,num,text,an,nn,cn,ka,m,kc⟩ e:=λa s A=>by
 have v:=En (by have:=h.aN;rw[q]at this;exact this) q;have g:AO a ka d:=λj C=>by
  obtain⟨b,D,rfl,o,h3⟩:=v j C;have p:B<=b:=(h.aN.lt b rfl).1;exact⟨b,D,rfl,zL o s.1,λr v=>(G9 (w:=w)<|s.2 b Oa o).trans<|h3 r v⟩
 have t:T bs=m:=by rw[h.len,q]
 have M:=hF.sum;have E:∀x∈bs,Am x<=1048576:=λx hx=>by
  have:=AgC<|List.mem_map_of_mem (f:=Am) hx;omega
 have c:∀j,(u:j<T d)->(o:j<T bs)->KiC w0 a d[j] bs[j]/\VV a d[j] bs[j]:=λj u o=>by
  obtain⟨l,i,a1,a2,a3,a4⟩:=h.bT j u o;have y:∀k,Ai a k->Sz1 k d[j] bs[j]/\Tr1 w0 k d[j] bs[j]:=λk p=>a4 k ((s.sub Oa a2).trans<|IP.aH p (zB a2 s.1)<|zB a2 s.1)<|E _<|zI o;exact⟨λk p=>(y k p).2,λk p=>(y k p).1⟩
 refine⟨?_,λat_ hat=>?_⟩
 .rw[Sz1,<-hF.size];refine AdL op num text an nn cn ka m kc hm d q (bs.map Am) (by rw[zN,t]) Oa a g λj u o k p=>?_;have:=(c j u<|by simpa using o).2 k p;simpa using this
 .cases hF with
  |attr i F=>subst F;exact AbI w0 num text an nn cn ka m kc i at_ a
  |lett i G=>subst G;exact AbJ w0 num text an nn cn ka m kc i at_ a
  |const e h5 ht A=>
   have:m=0:=by rw[<-t];rfl
   subst this;rw[ht];exact YK w0 op num text an nn cn ka kc (zA.2 Oa) (zA.2 Oa) at_ a ss z
  |un i e0 H=>
   have:m=1:=by rw[<-t];rfl
   subst this
   match d,q,c,g with
   |[k0],_,c,g=>exact AgA w0 op num text an nn cn ka kc k0 i e0 H at_ hat a g (c 0 Ox Ox).1
  |bin i e0 e1 N=>
   have:m=2:=by rw[<-t];rfl
   subst this
   match d,q,c,g with
   |[k0,k1],_,c,g=>
    have n:=c 0 Ox Ox;have q1:=c 1 Ox Ox;by_cases I:op=25
    .subst I;exact AdN w0 num text an nn cn ka kc k0 k1 i e0 e1 at_ hat a g n.1 n.2 q1.1 q1.2
    by_cases J:op=26
    .subst J;exact AgB w0 num text an nn cn ka kc k0 k1 i e0 e1 at_ hat a g n.1 n.2 q1.1 q1.2
    exact AdM w0 op num text an nn cn ka kc k0 k1 i e0 e1 Oa at_ hat a g n.1 n.2 q1.1 q1.2
  |ite i e0 e1 e2 K=>
   have:m=3:=by rw[<-t];rfl
   subst this;subst K
   match d,q,c,g with
   |[k0,k1,k2],_,c,g=>
    have n:=c 0 Ox Ox;have q1:=c 1 Ox Ox;have q2:=c 2 Ox Ox;exact AdO w0 num text an nn cn ka kc k0 k1 k2 i e0 e1 e2 at_ hat a g n.1 n.2 q1.1 q1.2 q2.1 q2.2
def L4C (w0:jB) (b:Ex) (w:jB) (r:Ending) (w':jB):Prop:=∃k:K5,r= .returned (jM #[V X k.op,V X k.num,jC k.text,Y k.an k.nn k.cn,Y k.ka k.kn k.kc])/\SmC w0 (R<|Z w) (R<|Z w') w' k b/\Ai w w'
theorem KG (w0:jB)(a:L3)(n c:Nat)(N:L6)(ax:IN w0 a n c N)(a1:NmZ w0 a N)(w:jB)(G:Ai w0 w)(i:Nat)(x:Nd)(hx:N[i]? =Q x)(bs:L8)(a2:T bs=T x.aD)(e:Ex)(a3:Nv x.op x.num x.text x.aB bs e)
  (V:∀j,(h:j<T x.aD)->(bM:j<T bs)->∀ac,Ai w ac->Calls jZ 64 #[Y a n c,jc X x.aD[j]] ac (L4C w0 bs[j] ac)):
  Calls jZ 64 #[Y a n c,jc X i] w (L4C w0 e w):=by
 obtain⟨a4,a5,a6,a7,a8⟩:=info_parts Nw;have bO:=ax.len;have hi:i<T N:=(zP.1 hx).1;have a9:N[i]=x:=(zP.1 hx).2;have bP:(i:Int)<(n:Int):=Oa;obtain⟨b,ay,rfl,H,an,nn,cn,I,l,J,c0,c1,c2,c3,c4,az,K⟩:=ax.cells i hi;rw[a9]at c0 c1 c2 K az;have ba:=Ab<|show Qh w0 an nn cn x.aB from⟨az,a1 i hi b ay rfl an nn cn c3⟩;have bb:=Ab a3;replace c0:=(G.cell<|by exact H).trans c0;replace c1:=(G.cell<|by exact H).trans c1;replace c2:=(G.cell<|by exact H).trans c2;replace c3:=(G.cell<|by exact H).trans c3;replace c4:=(G.cell<|by exact H).trans c4;replace K:=K.below G NLN;replace H:=zL H G.size;have aC:=Ab K.len;have bQ:=K.aJ;have aE:=Ab a2;have bc:=Ab V;have aG:=AE w Gg;have aH:=aG.alloc aG.size<|EQ x.op x.num x.text an nn cn I l J;have ad:=aH.alloc aH.size<|Bu x.op x.num x.text an nn cn U 0 0;have ae:=((Ag.new w #[jc X 0,jc X 0,jC ⟨#[]⟩,Y U 0 0,Y U 0 0] 121).alloc<|EQ x.op x.num x.text an nn cn I l J).alloc<|Bu x.op x.num x.text an nn cn U 0 0;have S:=(Ag.new (jK w Gg) #[jc X x.op,jc X x.num,jC x.text,Y an nn cn,Y I l J] 170).alloc<|Bu x.op x.num x.text an nn cn U 0 0;have L:=Ag.new (jK (jK w Gg)<|EQ x.op x.num x.text an nn cn I l J) #[jc X x.op,jc X x.num,jC x.text,Y an nn cn,Y U 0 0] 121;have af:R (Z<|jK (jK (jK w Gg)<|EQ x.op x.num x.text an nn cn I l J)<|Bu x.op x.num x.text an nn cn U 0 0)=R (Z w)+3:=Ox;simp only[World.size_alloc]at S L;go_enter func64,ntmps64
 go_wp2_with fail
 generalize (jK (jK (jK w Gg) (EQ x.op x.num x.text an nn cn I l J)) (Bu x.op x.num x.text an nn cn U 0 0))=bd at ad ae S L af|-;have ag:Tk w0 (R (Z w)+3) (Y U 0 0) [] [] bd:=⟨World.ownsRow_nil _ _ _ _,rfl,λj h=>absurd h Ox⟩
 generalize bf:R (Z w)=d at ad ae S L af ag|-;have ah:=Ab bf;generalize bR:d+1=M at S L|-;generalize bS:M+1=g at L|-;generalize bT:d+3=B at af ag|-;have bg:d<M/\M<g/\g<B:=Oa
 have bh:=Ab K;go_loopw [25] (λi wr=>∃ (j:Nat) (ai:jF) (f:M6),j<=l/\i=jc X j/\Hid (T f=j)/\Ag wr g #[jc X x.op,jc X x.num,jC x.text,Y an nn cn,ai] 121/\Ag wr M #[jc X x.op,jc X x.num,jC x.text,Y an nn cn,Y I l J] 170/\Ag wr d #[jc X 0,jc X 0,jC ⟨#[]⟩,Y U 0 0,Y U 0 0] 121/\Tk w0 B ai f (bs.take j) wr/\Below d w wr/\B<=R (Z wr)) (λi _=>l-(intOf i).toNat)
 case atStart=>exact⟨0,_,[],zE _,rfl,Ab rfl,L,S,ae,ag,ad,Oa⟩
 case round=>
  obtain⟨j,ai,f,bU,rfl,aj,RT,aI,aK,W,ak,bV⟩:=hrel;obtain⟨m,o,rfl,_⟩:=Ae W.aN;obtain⟨bW,bX,bY,bZ,bi,b0⟩:=Ap RT;obtain⟨b1,n1,n2,b2,b3,b4⟩:=Ap aI;by_cases aL:j<l
  .have b5:(j:Int)<(l:Int):=Oa;have al:j<T x.aD:=by rw[Aa aC];exact aL
   have aM:j<T bs:=by rw[Aa aE];exact al
   have aO:Ai w wr:=by show Below _ _ _;rw[Aa ah];exact ak
   obtain⟨b6,ok,rfl,b7,bj⟩:=((Aa bh).below aO NLN).cells j al;have ao:=Ab<|GH (Aa bc j al aM (jR wr) aO.drew) λe w' ⟨k,h,_⟩=>⟨_,h⟩;have aP:=Ab<|show bs.take (j+1)=bs.take j++[bs[j]]from zT aM;have aQ:=Ab aL;generalize x.aD[j]=bk at bj ao;generalize bs[j]=bl at ao aP;have b8:T f<=1048576:=Ht;have bm:=RT.aA BRN.drew NLN;have bn:=W.below BRN.drew;have sd:jI (jR wr) (jA g 4 U)=Q (Y m (T f) o):=bi;have bo:(Tryz.f64.name== "runtime.NumGoroutine")=jE:=Oy;have bp: Tryz.f64.body.isNone=jE:=Oy;have aa:∀q,jL (Value.slice m (T f) o)=Q q->B<=q/\q<R (Z wr):=λq hq=>W.aN.lt q hq;go_wp2_with fail
   go_region_law (first
    |(refine Bk rfl 64 _ func64 bo bp _ _ _ rfl (Y (Q<|jA b ay U) n c) (jc X bk) rfl rfl _ (Aa ao) ?_;rintro b9 aR ⟨br,aS,aT,O⟩;obtain rfl:=Bi aS;obtain⟨r,s,t,y,z,A,C,D,E⟩:=br;dsimp only at aS aT|-;have aU:=bm.aA O NLN;obtain⟨e0,e1,e2,e3,e4,ca⟩:=Ap aU;have aV:=bn.below O;have bt:=World.ownsRow.alloc aV.aN<|Bu r s t y z A C D E;have ap:=aU.alloc<|Bu r s t y z A C D E;obtain⟨cb,cc,i2,cd,ce,cf⟩:=Ap ap;have bu:=World.news_of_block<|heap_alloc_new aR<|Bu r s t y z A C D E;have cg:=O.size)
    |(refine step_append_lies _ rfl _ _ 117 rfl B 121 a4 (jM #[jc X 0,jc X 0,jC ByteArray.empty,Y U 0 0,Y U 0 0]) 5 80 underlying117 a5 a6 a7 a8 rfl Ob (Y m (T f) o) (T f) (f.flatMap K5.cs) rfl bt ⟨R (Z aR),0,U⟩ 1 1 (K5.cs ⟨r,s,t,y,z,A,C,D,E⟩) rfl rfl bu (by intro u hu;simp[K5.cs]at hu;obtain rfl|rfl|rfl|rfl|rfl:=hu<;>rfl) Ob O2 Oa (by have:R (Z (jR wr))=R (Z wr):=rfl;simp;omega) _ rfl ?_;intro g7 F ab bv P hat ch;have aq:Ag ab g _ _:=⟨(P.block g ap.lt λe=>H2<|(aa _ e.symm).1).trans ap.out⟩;have ci:jI ab (jA g 4 U)=Q (Y m (T f) o):=aq.cell 4;have cj:=aq.frozen 4))
   all_goals
    have ck:R (Z<|jR wr)=R (Z wr):=rfl;have bw:=aV.bN (lo:=R<|Z<|jR wr) (k:=⟨r,s,t,y,z,A,C,D,E⟩) (b:=bl) Oa (λq hq=>H2<|(aa q hq).2) aT bv P<|hat.imp id λe=>Hk;have bx:=bw.set (jA g 4 U) (Y (Q<|jA g7 0 U) (T f+1) F) bg.2.2;have aW:=aq.set 4<|Y (Q<|jA g7 0 U) (T f+1) F;simp only[zZ,zb,ze]at aW;have aX:∀q,q<B->Q q≠jL (Value.slice m (T f) o):=λq hq e=>H2<|(aa q e.symm).1;have bz:=(((((aI.aA BRN.drew NLN).aA O NLN).alloc<|Bu r s t y z A C D E).grown P<|aX M Oa).aF (p:=(jA g 4 U)) (Oa:M≠g)<|Y (Q<|jA g7 0 U) (T f+1) F)
    have bA:=(((((aK.aA BRN.drew NLN).aA O NLN).alloc<|Bu r s t y z A C D E).grown P<|aX d Oa).aF (p:=(jA g 4 U)) (Oa:d≠g)<|Y (Q<|jA g7 0 U) (T f+1) F)
    have bB:=((((ak.drew).trans<|O.mono Oa).alloc Oa<|Bu r s t y z A C D E).grown P O0 λq hq=>H2<|(aa q hq).1).setCell (p:=(jA g 4 U)) (Oa:d<=g)<|Y (Q<|jA g7 0 U) (T f+1) F;have bC:B<=R (Z<|jJ ab (jA g 4 U)<|Y (Q<|jA g7 0 U) (T f+1) F):=by have:=P.size;simp at this|-;omega
    have bD:=Ab (show T (f++[(⟨r,s,t,y,z,A,C,D,E⟩:K5)])=j+1 by rw[zC,Aa aj];rfl);have bE:=Ab (show Tk w0 B (Y (Q<|jA g7 0 U) (T f+1) F) (f++[(⟨r,s,t,y,z,A,C,D,E⟩:K5)]) (bs.take<|j+1) (jJ ab (jA g 4 U)<|Y (Q<|jA g7 0 U) (T f+1) F) by rw[Aa aP];exact bx);go_wp2
    go_roundw
    case rel=>exact⟨j+1,_,_,Aa aQ,O1,bD,aW,bz,bA,Aa bE,bB,bC⟩
    case measure=>have:=Aa aQ;simp[intOf];omega
  .have e:j=l:=Oa;subst e;have aY:=aK;obtain⟨cl,cm,co,cp,cq,cr⟩:=Ap aY;have ar:=aY.set 0<|jc X x.op;simp only[zZ,zb]at ar;obtain⟨ct,cu,cv,cw,cx,cy⟩:=Ap ar;have au:=ar.set 1<|jc X x.num;simp only[zZ,zb,ze]at au;obtain⟨cz,cA,cB,cC,cD,cE⟩:=Ap au;have av:=au.set 2<|jC x.text;simp only[zZ,zb,ze]at av;obtain⟨cF,cG,cH,cI,cJ,cK⟩:=Ap av;have aw:=av.set 3<|Y an nn cn;simp only[zZ,zb,ze]at aw;obtain⟨cL,cM,cN,cO,cP,cQ⟩:=Ap aw;have aZ:=aw.set 4<|Y m (T f) o;simp only[zZ,zb,ze]at aZ;obtain⟨bF,s1,s2,bG,bH,_⟩:=Ap aZ;have a0:=((((W.set (jA d 0 U) (jc X x.op) D2).set (jA d 1 U) (jc X x.num) D2).set (jA d 2 U) (jC x.text) D2).set (jA d 3 U) (Y an nn cn) D2).set (jA d 4 U) (Y m (T f) o) D2;have bI:=((((ak.setCell (p:=(jA d 0 U)) (zy d)<|jc X x.op).setCell (p:=(jA d 1 U)) (zy d)<|jc X x.num).setCell (p:=(jA d 2 U)) (zy d)<|jC x.text).setCell (p:=(jA d 3 U)) (zy d)<|Y an nn cn).setCell (p:=(jA d 4 U)) (zy d)<|Y m (T f) o;have bJ:T f<=1048576:=Ht;have bK:bs.take j=bs:=zf (by rw[Aa aE,Aa aC];exact NLN);rw[bK]at a0;have bL:=Ab<|a0.all bJ rfl (by omega:d<=B) x.op x.num x.text an nn cn x.aB (Aa ba) e (Aa bb);go_wp2_with fail
   refine bodyPost_ret (v:= jM #[jc X x.op,jc X x.num,jC x.text,Y an nn cn,Y m (T f) o]) (by simp[results,results64,go_sem,bF,s1,s2,bG,bH]) rfl ⟨⟨x.op,x.num,x.text,an,nn,cn,m,T f,o⟩,rfl,?_,?_⟩
   .rw[Aa ah];exact Aa bL
   .show Below _ _ _;rw[Aa ah];exact bI
theorem AdP (w0:jB)(a:L3)(n c:Nat)(N:L6)(q:IN w0 a n c N)(r:NmZ w0 a N)(hF:∀x∈N,Bf x=jD){i:Nat}{e:Ex}(t:AZ N i e):∀w,Ai w0 w->Calls jZ 64 #[Y a n c,V X i] w (L4C w0 e w):=by
 have leaf:∀{i:Nat} {x:Nd} {e:Ex},N[i]? =Q x->x.aD=[]->Nv x.op x.num x.text x.aB [] e->∀w,Ai w0 w->Calls jZ 64 #[Y a n c,V X i] w (L4C w0 e w):=λ{i x e} h b hf w o=>KG w0 a n c N q r w o i x h [] (by rw[b];rfl) e hf (λj s=>H9 s<|by rw[b];simp);have fld:∀{i:Nat} {x:Nd},N[i]? =Q x->Jq x=jD:=λh=>by
  have:=hF _<|zn h
  grind [Bf]
 induction t with
 |@int i x h d b=>
   have hq:=fld h;rw[Jq,H7 Oa,H7 Oa,H8<|.inr d]at hq;simp only[zF,zG]at hq;refine leaf h b<|.const _ Oa (λa=>?_) rfl;rw[Ar,exV,CD hq.1,zd hq.2,d]
   .rfl
   all_goals grind
 |@text i x h d b=>
   have hq:=fld h;rw[Jq,H7 Oa,H7 Oa,H7 Oa,VG,H7 Oa,H8 d]at hq;simp only[zF,zG]at hq;refine leaf h b<|.const _ Oa (λa=>?_) rfl;rw[Ar,exV,hq.1.2,zd hq.2,d]
   .rfl
   all_goals grind
 |@bool i x h d b=>
   have hq:=fld h;rw[Jq,H7 Oa,H7 Oa,H7 Oa,VG,H7 Oa,H7 Oa,H8 d]at hq;simp only[zF,zG]at hq;refine leaf h b<|.const _ Oa (λa=>?_) rfl;have B:(if decide (x.num=1)=jD then (1 :Int)else 0)=x.num:=S4;rw[Ar,exV,B,CD hq.1.2,zd hq.2,d]
   .rfl
   all_goals grind
 |@set i x h d b a n c=>
   have hq:=fld h;rw[Jq,H7 Oa,H7 Oa,H7 Oa,VG,H7 Oa,H7 Oa,H7 Oa,H8 d]at hq;simp only[zF,zG]at hq;refine leaf h b<|.const _ Oa (λa=>?_) rfl;rw[Ar,exV,hq.1.2,CD hq.2,d]
   .rfl
   all_goals grind
 |name h d b=>grind [Jq]
 |attr h d b=>exact leaf h b<|.attr _ d
 |lett h d b=>exact leaf h b<|.lett _ d
 |@un i k x e h d b hi t E=>
   intro w o;refine KG w0 a n c N q r w o i x h [e] (by rw[b];rfl) _ (.un _ _ d) λj s p z A=>?_;obtain rfl:j=0:=by simpa using p
   have e1:x.aD[0]=(k:Int):=Hf
   grind [Go.RowKit.Below.trans,Go.RowKit.Below.size,Go.RowKit.Below.mono]
 |@bin i k l x e f h d b hi t u C D=>
   intro w o;refine KG w0 a n c N q r w o i x h [e,f] (by rw[b];rfl) _ (.bin _ _ _ d) λj s p z A=>?_;have y:j=0\/j=1:=by simp at p;omega
   obtain rfl|rfl:=y
   .have e1:x.aD[0]=(k:Int):=Hf
    grind [Go.RowKit.Below.trans,Go.RowKit.Below.size,Go.RowKit.Below.mono]
   .have e1:x.aD[1]=(l:Int):=Hf
    grind [Go.RowKit.Below.trans,Go.RowKit.Below.size,Go.RowKit.Below.mono]
 |@ite i k l m x e f g h d b hi t u v C D F=>
   intro w o;refine KG w0 a n c N q r w o i x h [e,f,g] (by rw[b];rfl) _ (.ite _ _ _ _ d) λj s p z A=>?_;have y:j=0\/j=1\/j=2:=by simp at p;omega
   obtain rfl|rfl|rfl:=y
   .have e1:x.aD[0]=(k:Int):=Hf
    grind [Go.RowKit.Below.trans,Go.RowKit.Below.size,Go.RowKit.Below.mono]
   .have e1:x.aD[1]=(l:Int):=Hf
    grind [Go.RowKit.Below.trans,Go.RowKit.Below.size,Go.RowKit.Below.mono]
   .have e1:x.aD[2]=(m:Int):=Hf
    grind [Go.RowKit.Below.trans,Go.RowKit.Below.size,Go.RowKit.Below.mono]
open Classical in
noncomputable def IB (v u:Vl):Bool:=decide (v=u)
open Classical in
theorem YL (v u:Vl) (a:L3) (n c:Nat) (a':L3) (n' c':Nat) (w:jB) (h:Aq w a n c v.aB) (h':Aq w a' n' c' u.aB):
  Calls jZ 65 #[jM #[V X v.aC,V X v.num,jC v.text,Y a n c],jM #[V X u.aC,V X u.num,jC u.text,Y a' n' c']] w λr w'=>r= .returned (.bool<|IB v u)/\Ai w w':=by
 have B0:=(AE w<|jH #[V X v.aC,V X v.num,jC v.text,Y a n c] 77).alloc Ox<|jH #[V X u.aC,V X u.num,jC u.text,Y a' n' c'] 77;have R0:=(Ag.new w #[V X v.aC,V X v.num,jC v.text,Y a n c] 77).alloc<|jH #[V X u.aC,V X u.num,jC u.text,Y a' n' c'] 77;have R1:=Ag.new (jK w<|jH #[V X v.aC,V X v.num,jC v.text,Y a n c] 77) #[V X u.aC,V X u.num,jC u.text,Y a' n' c'] 77;simp only[G0]at R1;have HE:=Ab (show IB v u=(decide (v.aC=u.aC)&&VX v.num u.num v.text u.text v.aB u.aB) by
  obtain⟨k,m,t,s⟩:=v;obtain⟨k',m',t',s'⟩:=u;rw[IB,VX,<-Bool.decide_and,decide_eq_decide];simp only[Vl.mk.injEq])
 have HC:=Ab λW (hW:Ai w W)=>ED 0 v.num v.text a n c v.aB 0 u.num u.text a' n' c' u.aB W (h.below hW NLN)<|h'.below hW NLN;clear h h';by_cases hk:v.aC=u.aC
 .have ek:(v.aC==u.aC)=jD:=zD.2 hk;have HX:=Ab (show IB v u=VX v.num u.num v.text u.text v.aB u.aB by rw[Aa HE,zJ hk];rfl);generalize VX v.num u.num v.text u.text v.aB u.aB=bb at HC HX;clear HE hk;go_enter func65,ntmps65
  go_wp2_with fail
  refine(Aa HC _ B0).mono ?_;rintro r w1 ⟨rfl,hb1⟩;go_wp2
  go_ret
  exact⟨by rw[Aa HX];rfl,(B0.trans<|hb1.mono B0.size)⟩
 .have ek:(v.aC==u.aC)=jE:=zA.2 hk;have HX:=Ab (show IB v u=jE by rw[Aa HE,zH hk];rfl);clear HE hk;go_enter func65,ntmps65
  go_wp2
  go_ret
  exact⟨by rw[Aa HX];rfl,B0⟩
theorem YM (Es:L8)(t:St):∀(L:L9) (k a:Nat),CY Es k a (L++[t])=CY Es k a L++LD Es (k+El L) (a+T (CY Es k a L)) t:=by intro L;induction L<;>intros<;>grind [LG,El,CY]
theorem Ts (Es:L8)(L:L9)(h:∀t∈L,t.aC=3\/t.cond≠-1):T (CY Es 0 0 L)<=VT Es L:=by
 have a:=(Nu Es L ⟨[],0,[]⟩ h).1;have b:=Qf Es L ⟨[],0,[]⟩;rw[b]at a;have h3:T ((Bb ⟨[],0,[]⟩<|CY Es 0 0 L).bJ<|0+El L).aK=T (CY Es 0 0 L):=by
  show T (Bb ⟨[],0,[]⟩<|CY Es 0 0 L).aK=_
  grind [Cg]
 grind
theorem YN (L:L9)(t:St):El (L++[t])=El L+LG t:=by grind [El]
theorem VY:∀L:L9,El L<=T L
 |[]=>by simp[El]
 |t ::L=>by
  have:=VY L
  grind [LG,El]
theorem BS.src {n c:Nat}{x:L3}(h:BS w0 B (Y x n c) L w)(h0: 0<n):∃g K,x=Q (jA g 0 U)/\T K=n/\K.map J5.i=L/\Ov w0 K/\∀j u,(K.flatMap J5.cs)[j]? =Q u->jI w (((jA g 0 U):jG).add j)=Q u:=by grind [BS.bE]
def KJ (w w':jB):Prop:=∀b cs t,Ag w b cs t->t≠133->Ag w' b cs t
theorem KJ.aH {w w':jB}(h:Ai w w'):KJ w w':=λk a t R _=>R.aA h NLN
theorem BS.keepB {v:jF}(h:BS w0 B v L w)(hd:∀q,jL v=Q q->(Z w')[q]? =(Z w)[q]?):BS w0 B v L w':=by
 obtain⟨a,b,c,h3⟩:=h;exact⟨a,b,c,Ad h3 hd⟩
theorem BS.lt {w0 w:jB}{B:Nat}{v:jF}{L:M9}(h:BS w0 B v L w):∀q,jL v=Q q->B<=q/\q<R (Z w):=by
 obtain⟨a,b,c,h3⟩:=h;exact h3.lt
theorem FH {w:jB}{ops:Array Oper}{rest:List Oper}{o:Oper}{a:Act}{Q:Exit->Act->jB->Prop}(n:o.guard=U)(s x:Operand)
  (p:o.op= .call { callee:= .builtin .append,args:=#[s,x],argTypes:=#[129,129] })(w0:jB)(B:Nat)(v:jF)(L:M9)(hs:a.eval s=v)(hv:BS w0 B v L w)
  (f:jG)(m c:Nat)(K:List J5)(hx:a.eval x=Y (jg f) m c)(hm:T K=m)(r:Ov w0 K)(y:∀j u,(K.flatMap J5.cs)[j]? =jg u->jI w (f.add j)=jg u)(J:T L+m<=4194304)(g:B<=jh (Z w))
  (h:∀b n' c' w',BS w0 B (Y b n' c') (L++K.map J5.i) w'->Below B w w'->KJ w w'->(∀q,q<jh (Z w)->jL v≠jg q->(Z w')[q]? =(Z w)[q]?)->Hid (n'=T L+m)->wpList jZ ops Q rest (a.put o.dst<|Y b n' c') w'):wpList jZ ops Q (o ::rest) a w:=by
 obtain⟨z,A,C,D,E⟩:=info_parts AdK;obtain⟨d,l,F,h3⟩:=hv;have e:T d=T L:=by rw[<-l,zN]
 refine G7 w n s x 129 p B 133 z _ 6 72 underlying129 A C D E rfl Ob v (T d) (d.flatMap J5.cs) hs h3 f m c (K.flatMap J5.cs) hx (by rw[Tr,hm]) y (λu hu=>?_) O2 Oa g ?_
 .grind [J5.bH]
 .intro v' w' G hg _;obtain⟨b,c',rfl,_⟩:=Ae G;rw[e];refine h b _ c' w' ⟨d++K,by rw[zk,l],λj H=>(zO.1 H).elim (F j)<|r j,?_⟩ ((Below.refl B w).grown hg g λq hq=>(h3.lt q hq).1) (λk M t R ht=>⟨(hg.block k R.lt λe=>Ac R h3 ht e.symm).trans R.out⟩) (λq hq I=>hg.block q hq λe=>I e.symm) (Ab rfl)
  grind
structure S2 (w:jB) (B cB:Nat) (kN:Int) (s:De) (pv iv:jF) (nv:L7):Prop where
 row:Ag w cB #[pv,V X kN,iv] 26
 aI:Dz w B pv s.aI nv
 aK:jO w B 80 2 iv (T s.aK)<|Cr s.aK
 low:cB<B
theorem S2.below {w w':jB}{b:Nat}{c:Int}(h:S2 w B b c s pv iv d)(a:Ai w w'):S2 w' B b c s pv iv d:=
 ⟨h.row.aA a NLN,h.aI.bM λk _ f=>a.block k f,Aj h.aK a NLN,h.low⟩
def K2 (cB:Nat) (w w':jB):Prop:=∀b cs t,Ag w b cs t->b≠cB->t≠77->t≠80->Ag w' b cs t
theorem K2.trans {a b c:jB}(h:K2 B a b)(g:K2 B b c):K2 B a c:=λk f t R h0 i j=>g k f t (h k f t R h0 i j) h0 i j
theorem K2.aH {a:Nat}{w w':jB}(h:Ai w w'):K2 a w w':=λk b t R _ _ _=>R.aA h NLN
theorem S2.newI {f g:jB}{d:jF}{m:L7}(h:S2 f B a l s pv iv m)(o:Obj)(op n:Int)(hg:(jK f o).grownBy g<|jL iv)(r:jO g B 80 2 d (T s.aK+1)<|Cr s.aK++[V X op,V X n]):
  S2 (jJ g (jA a 2 U) d) B a l ⟨s.aI,s.aE,s.aK++[⟨op,n⟩]⟩ pv d m/\K2 a f (jJ g (jA a 2 U) d)/\∀i,i<=a->i<=jh (Z f)->Below i f (jJ g (jA a 2 U) d):=by
 have k:=AE f o;have c:=h.below k;have w:=Ck c.row hg λe=>Ac c.row c.aK Ob e.symm;refine⟨⟨w.set 2 d,(c.aI.grown hg λq hq=>⟨λe=>Al c.aK c.aI.aN Ob q hq e,λj u e=>Al c.aK (c.aI.aB j (by rw[<-c.aI.len];exact u) u) Ob q hq e⟩).set (jA a 2 U) d h.low,?_,h.low⟩,λb y t R h0 hv hi=>?_,λi x h0=>?_⟩
 .have:=Ah r (jA a 2 U) d (λq hq=>by have:=(r.lt q hq).1;have:=h.low;show q≠a;omega);simpa[Ns]using this
 .have v:=R.aA k NLN;have z:=Ck v hg (λe=>Ac v c.aK hi e.symm)
  grind [Ag.aF]
 .exact((k.mono h0).grown hg (zB h0 k.size) λq hq=>by have:=(c.aK.lt q hq).1;have:=h.low;omega).setCell (p:=(jA a 2 U)) x d
theorem S2.newV {f:jB}{g7 c7:Nat}{g:L7}(h:S2 w0 B a l s pv iv g)(o:Obj)(x:jO w0 B 9 1 u (T v.aB)<|v.aB.map Value.string)
  (m:∀q,jL u=Q q->jL pv≠Q q/\∀j,(n:j<T g)->jL g[j]≠Q q)(hg:(jK w0 o).grownBy f<|jL pv)(y:jO f B 77 4 (Y (Q<|jA g7 0 U) (T s.aI+1) c7) (T s.aI+1)<|JX s.aI g++vl4 v u)(hat:jL pv=Q g7\/g7=jh (Z w0)+1):
  S2 (jJ f (jA a 0 U)<|Y (Q<|jA g7 0 U) (T s.aI+1) c7) B a l ⟨s.aI++[v],s.aE,s.aK⟩ (Y (Q<|jA g7 0 U) (T s.aI+1) c7) iv (g++[u])/\K2 a w0 (jJ f (jA a 0 U)<|Y (Q<|jA g7 0 U) (T s.aI+1) c7)/\∀k,k<=a->k<=jh (Z w0)->Below k w0 (jJ f (jA a 0 U)<|Y (Q<|jA g7 0 U) (T s.aI+1) c7):=by
 have i:=AE w0 o;have c:=h.below i;have z:=Aj x i NLN;have A:=Ck c.row hg λe=>Ac c.row c.aI.aN Ob e.symm;have C:=c.aI.bN z (λj n q hq e=>(m q e).2 j n hq) (λq hq=>(m q hq).1) y hg (λq hq=>by
  have:g7=q:=O8;subst this;exact hat.imp id λe=>Hk)
 have r:jO f B 80 2 iv (T s.aK)<|Cr s.aK:=Ad c.aK λq hq=>hg.block q (c.aK.lt q hq).2 λe=>Al c.aK c.aI.aN Ob q hq e.symm;refine⟨⟨A.set 0 _,C.set (jA a 0 U) _ h.low,Ah r (jA a 0 U) _ λq hq=>by have:=(r.lt q hq).1;have:=h.low;show q≠a;omega,h.low⟩,λb E t R h0 hv hi=>?_,λk D h0=>?_⟩
 .have w:=R.aA i NLN;have F:=Ck w hg (λe=>Ac w c.aI.aN hv e.symm)
  grind [Ag.aF]
 .exact((i.mono h0).grown hg (zB h0 i.size) λq hq=>by have:=(c.aI.aN.lt q hq).1;have:=h.low;omega).setCell (p:=(jA a 0 U)) D _
open Classical in
theorem YQ (v u:Vl):(IB v u=jD->v=u)/\(IB v u=jE->v≠u):=by grind [IB]
noncomputable def Cq (v:Vl) (P:M1) (k:Nat):Int:=match FG v (P.take k) 0 with
 |some i=>(i:Int)
 |none=>-1
open Classical in
theorem Jr (v u:Vl):∀(P:M1) (a:Nat),FG v (P++[u]) a=match FG v P a with
  |some i=>Q i
  |none=>if u=v then Q (a+T P)else U
 |[],a=>by simp[FG]
 |x ::P,a=>by
  rw[List.cons_append,FG,FG];by_cases e:x=v
  .rw[H8 e,H8 e]
  .rw[H7 e,H7 e,Jr v u P<|a+1];cases FG v P (a+1)with
   |some i=>rfl
   |none=>simp only[List.length_cons];rw[(Oa:a+1+T P=a+(T P+1))]
theorem YO (v:Vl)(P:M1):Cq v P 0= -1:=rfl
theorem AbK {k:Nat}(h:k<T P)(a: 0<=Cq v P k):Cq v P (k+1)=Cq v P k:=by grind [Cq,Jr,zT,FG]
theorem YP {k:Nat}(h:k<T P)(a:Cq v P k<0)(he:P[k]=v):Cq v P (k+1)=k:=by grind [Cq,zg,Jr,zT,FG]
theorem V1 {k:Nat}(h:k<T P)(a:Cq v P k<0)(he:P[k]≠v):Cq v P (k+1)=Cq v P k:=by grind [Cq,Jr,zT,FG]
theorem Oz (v:Vl)(P:M1)(k:Nat): -1<=Cq v P k/\Cq v P k<=T P:=by
 unfold Cq;cases a:FG v (P.take k) 0 with
 |some i=>
   obtain⟨_,b,_⟩:=Qg a
   grind
 |none=>grind
theorem YR (v:Vl)(P:M1):(Cq v P (T P)<0/\UI P v=T P/\Qd P v=P++[v])\/(0<=Cq v P (T P)/\Cq v P (T P)=UI P v/\Qd P v=P):=by grind [UI,Cq,Qd,FG]
section
set_option linter.unusedSimpArgs false
structure CmS (w3:jB) (tb ob sb:Nat) (vT vS:Array jF) (kN:Nat) (wx:jB):Prop where
 RT:Ag wx tb vT 70
 RO:Ag wx ob #[Y U 0 0,V X 0,Y U 0 0] 26
 RC:Ag wx (R<|Z w3) #[Y U 0 0,V X (kN:Int),Y U 0 0] 26
 RS:Ag wx sb vS 113
 E:Ai w3 wx
section
variable{w3 wx wy:jB}{tb ob sb:Nat}{vT vS:Array jF}{kN:Nat}
theorem CmS.step (h:CmS w3 tb ob sb vT vS kN wx)(F:KJ wx wy)(M:Below (R (Z w3)+1) wx wy):CmS w3 tb ob sb vT vS kN wy:=
 ⟨F _ _ _ h.RT Ob,F _ _ _ h.RO Ob,F _ _ _ h.RC Ob,F _ _ _ h.RS Ob,h.E.trans<|M.mono<|zU _⟩
theorem CmS.below (h:CmS w3 tb ob sb vT vS kN wx)(a:Ai wx wy):CmS w3 tb ob sb vT vS kN wy:=h.step (KJ.aH a)<|a.mono h.RC.lt
end
def J2 (Es:L8) (cd:Int) (a:Nat):M9:=if cd= -1 then []else Ar (DH Es cd) a
theorem AiG (Es:L8)(k a:Nat)(b:Int)(nm:K9)(cd c:Int)(h:b=2/\cd≠-1\/b=3/\cd= -1):
  LD Es k a ⟨b,nm,cd,c⟩=J2 Es cd a++(if b=2 then [⟨23,((a+T (J2 Es cd a)+1+T (FE Es c<|a+T (J2 Es cd a)+1):Nat):Int),Aw⟩]else [])++FE Es c (a+T (J2 Es cd a)+(if b=2 then 1 else 0)):=by grind [LD,J2]
theorem UH (a b e:L3)(n c m d k f:Nat)(N:L6)(L:L9)(T:L2)(w:jB)(aL:IN w a n c N)(ao:Po w b m d L)(h3:AP w e k f T)(dY:NmZ w a N):
  Calls jZ 31 #[jM #[Y a n c,Y b m d,Y e k f]] w λr w'=>∃o,Lc N L T o/\CpA o w r w':=by
 have dc:=AE w<|Nx a n c b m d e k f;have a2:=dc.alloc dc.size<|jH #[Y U 0 0,V X 0,Y U 0 0] 26;have RT:=(Ag.new w #[Y a n c,Y b m d,Y e k f] 70).alloc<|jH #[Y U 0 0,V X 0,Y U 0 0] 26;have RO:=Ag.new (jK w<|Nx a n c b m d e k f) #[Y U 0 0,V X 0,Y U 0 0] 26;simp only[G0]at RO;have bQ:=aL.below a2 NLN;have cw:=ao.below a2 NLN;have dd:=h3.below a2 NLN;have bn:=Ab aL.len;have de:=Ab ao.len;have gA:=ao.aJ;have dZ:=Ab<|dY.below aL a2;clear aL ao h3 dY dc;go_enter func31,ntmps31
 go_wp2_with fail
 generalize jK (jK w (Nx a n c b m d e k f)) (jH #[Y U 0 0,V X 0,Y U 0 0] 26)=eW at a2 RT RO bQ cw dd dZ|-;generalize d0:jh (Z w)=tb at a2 RT RO|-;have cx:=Ab d0;generalize cy:tb+1=ob at RO|-;have bo:tb<=ob:=Oa
 clear d0 cy;refine(J3 _ _ _ _ _ _ _ _ _ N L T _ bQ cw dd).mono ?_;rintro r w3 ⟨⟨v,rfl,hv⟩,hb3⟩;have bS:tb<=jh (Z eW):=H2 RT.lt;have df:=a2.trans<|hb3.mono bS;have dg:=RT.aA hb3 NLN;have bp:=RO.aA hb3 NLN;have eX:=Ab<|(Aa dZ).below bQ hb3;have d3:=bQ.below hb3 NLN;have d4:=cw.below hb3 NLN;clear bQ cw dd RT RO;cases v with
 |false=>
  have dh:=Ab<|show Lc N L T ⟨[],0,[]⟩from .inl ⟨hv,rfl⟩;clear hv;obtain⟨eY,eZ,e0⟩:=At bp;have e6:=λj=>bp.frozen j;obtain⟨br,bs,bt⟩:=At<|((bp.set 0<|Y U 0 0).set 1<|V X 0).set 2<|Y U 0 0;have e7:=((df.setCell (p:=(jA ob 0 U)) bo<|Y U 0 0).setCell (p:=(jA ob 1 U)) bo<|V X 0).setCell (p:=(jA ob 2 U)) bo<|Y U 0 0;dsimp only;go_wp2_with fail
  refine G2 (v:= jM #[Y U 0 0,V X 0,Y U 0 0]) (by simp[results,results31,go_sem,br,bs,bt]) rfl ⟨⟨[],0,[]⟩,Aa dh,U,0,U,0,[],rfl,Dz.nil _ _,H3,?_⟩
  show Below _ _ _;rw[Aa cx];exact e7
 |true=>
  have di:=Ab hv;clear hv;have cz:=AE w3<|jH #[Y U 0 0,V X 0,Y U 0 0] 26;have dj:=dg.aA cz NLN;have d5:=bp.aA cz NLN;have d6:=Ag.new w3 #[Y U 0 0,V X 0,Y U 0 0] 26;obtain⟨u0,u1,u2⟩:=At dj;have dk:CE N L=jD:=by
   obtain⟨_,h⟩|⟨h,_⟩:=Aa di
   .cases h
   .exact h
  have aS:=Ab<|BQ dk;have d7:=Ab dk;clear dk;dsimp only;go_wp2_with fail
  obtain⟨Es,bT,bU⟩:=Gu<|Aa aS;have dh:=Ab<|show Lc N L T (Lo Es L)from .inr ⟨Aa di,Es,bT,bU,rfl⟩;have e8:=Ab bT;have e9:=Ab bU;have cA:=Ab (show ∀s∈L,(s.cond= -1\/(0<=s.cond/\s.cond<ja Es))/\(s.aG= -1\/(0<=s.aG/\s.aG<ja Es)) by rw[bT];exact(Aa aS).dJ);have dl:=Ab (show VT Es L<=13200 by have:=YJ Es L<|Aa cA;have:=Aa<|Ab<|Aav (Aa d7) bT bU;have:=(Aa aS).m;omega);have cB:=Ab (show ∀t∈L,t.aC=3\/t.cond≠-1 from λt ht=>by have:=(Aa aS).stm t ht;omega);have dm:=Ab (show ∀q:Nat,q<ja Es->∀aV,Ai w3 aV->Calls jZ 64 #[Y a n c,V X q] aV (L4C w3 (DH Es q) aV)from λq hq aV cC=>by
   have e:DH Es (q:Int)=Es[q]:=by rw[DH,zS,zj,zM hq];rfl
   rw[e];exact AdP w3 a n c N d3 (Aa eX) (Aa<|Ab (Aa aS).bK) (bU q hq) aV cC)
  have gB:ob<jh (Z w3):=bp.lt;have gC:tb<jh (Z w3):=dg.lt;have gD:m<=600:=by have:=(Aa aS).m;rw[Aa de]at this;exact this
  have d8:=Ab d4;clear bU bT d3 d4 dg bp u0 u1 u2;go_loopw [3,24] (λv i wr=>∃j:Nat,j<=m/\i=V X j/\BS w3 (jh (Z w3)+1) v (CY Es 0 0<|L.take j) wr/\Ag wr tb #[Y a n c,Y b m d,Y e k f] 70/\Ag wr ob #[Y U 0 0,V X 0,Y U 0 0] 26/\Ag wr (jh<|Z w3) #[Y U 0 0,V X (El (L.take j):Nat),Y U 0 0] 26/\Ai w3 wr/\jh (Z w3)+1<=jh (Z wr)) (λ_ i _=>m-(intOf i).toNat)
  case atStart=>exact⟨0,zE _,rfl,BS.nil _ _ _,dj,d5,d6,cz,Ox⟩
  case round=>
   clear dj d5 d6 cz;obtain⟨j,cD,rfl,F,RT,RO,RC,bV,d9⟩:=hrel;by_cases dn:j<m
   .have gE:(j:Int)<(m:Int):=Oa;have a3:j<ja L:=by rw[Aa de];exact dn
    obtain⟨sb,so,fa,gF,c0,c1,c2,c3⟩:=((Aa d8).below bV NLN).cells j a3;subst fa;obtain⟨bX,bY⟩:=Aa cA L[j]<|zI a3;have bZ:=(Aa aS).stm L[j]<|zI a3;have fb:=Ts Es (L.take j) λt ht=>Aa cB t<|Z9 ht;have room:=AdI Es L j a3;have b0:ja (CY Es 0 0<|L.take j)+(Em Es L[j].cond+Em Es L[j].aG+2)<=13200:=H2<|Aa dl;have b1:=Ab (show CY Es 0 0 (L.take<|j+1)=CY Es 0 0 (L.take j)++LD Es (El<|L.take j) (ja<|CY Es 0 0<|L.take j) L[j] by rw[zT a3,YM,zY,zY]);have cE:=Ab (show El (L.take<|j+1)=El (L.take j)+LG L[j] by rw[zT a3,YN]);have fc:(El (L.take j):Int)<=600:=by have:=VY<|L.take j;have:=List.length_take_le j L;omega
    have cF:=Ab dn;clear fb room dn;generalize L[j]=s at c0 c1 c2 c3 bX bY bZ b0 b1 cE;clear a3;generalize CY Es 0 0 (L.take j)=D at F b0 b1;generalize El (L.take j)=kN at RC b1 cE fc;obtain⟨H,nm,cd,I⟩:=s;dsimp only at c0 c1 c2 c3 bX bY bZ b0;obtain⟨ea,ca,rfl,_⟩:=F.bE;go_upto_region 8 with fail
    refine Gd (P:=Code.wp _ _ _ _) λfd aw RS=>?_;have x:CmS w3 tb ob (jh<|Z wr) #[Y a n c,Y (Q<|jA sb so U) m d,Y e k f] #[V X H,jC nm,V X cd,V X I] kN fd:=⟨RT.aA aw NLN,RO.aA aw NLN,RC.aA aw NLN,RS,bV.trans<|aw.mono bV.size⟩
    replace F:=F.below aw;have dp:ja (J2 Es cd<|ja D)<=Em Es cd:=by
     unfold J2 Em;split
     .exact zE _
     .rw[BJ];exact NLN
    have fe:∀z,ja (FE Es I z)<=Em Es I+1:=λz=>by
     unfold FE Em;split
     .simp
     .simp[BJ]
    obtain⟨O,dq⟩:∃O,O=J2 Es cd (ja D):=⟨_,rfl⟩
    rw[<-dq]at dp;have cG:=Ab dq;obtain⟨b2,cy⟩:∃b2,b2=jh (Z wr):=⟨_,rfl⟩
    rw[<-cy]at x|-;clear RT RO RC RS bV aw c0 c1 c2 c3 dq cy d9;obtain⟨ah,ai,aj⟩:=At x.RT;obtain⟨ab,ac,ad⟩:=At x.RC;obtain⟨ak,s1,s2,al⟩:=Cx x.RS;go_upto_if 32 with fail
    go_cut [3] (λv wx=>Hid<|BS w3 (jh (Z w3)+1) v (D++O) wx/\CmS w3 tb ob b2 #[Y a n c,Y (Q<|jA sb so U) m d,Y e k f] #[V X H,jC nm,V X cd,V X I] kN wx)
    case first=>
     by_cases hc:cd= -1
     .have W: ¬ ((0 :Int)<=cd):=Oa;have e:O=[]:=by rw[Aa cG,J2,H8 hc]
      subst e;clear hc;go_wp2
      go_meet
      exact Ab ⟨by rw[List.append_nil];exact F,x⟩
     .obtain⟨q,rfl⟩:∃q:Nat,cd=q:=⟨cd.toNat,Oa⟩
      have W:(0 :Int)<=(q:Int):=Oa;have ar:=Ab<|Aa dm q Oa;have b3:Em Es (q:Int)=Am (DH Es q):=by rw[Em,H7 hc]
      have bu:=Ab (show O=Ar (DH Es q) (ja D) by rw[Aa cG,J2,H7 hc]);rw[b3]at b0 dp;generalize DH Es (q:Int)=e1 at ar b0 dp bu;clear hc b3 bX bY bZ;go_wp2_with fail
      refine(Aa ar _ x.E).mono ?_;rintro r wz ⟨⟨ff,fg,fh,fi,fj,fk,fl,fm,fn⟩,rfl,hs,ae⟩;have cH:=Ab<|(hs wz ⟨NLN,λ_ _ _=>rfl⟩ Oa).2 (ja D) Oa;replace x:=x.below ae;replace F:=F.below ae;clear hs ae ah ai aj ab ac ad ak s1 s2 al;obtain⟨ah,ai,aj⟩:=At x.RT;obtain⟨ab,ac,ad⟩:=At x.RC;obtain⟨ak,s1,s2,al⟩:=Cx x.RS;dsimp only;go_wp2_with fail
      refine(Aa cH).mono ?_;rintro r b4 ⟨⟨u,rfl,G⟩,ae⟩;replace x:=x.below ae;replace F:=F.below ae;obtain⟨fo,c3,dr,-⟩:=G.bE;subst dr;rw[<-Aa bu]at G;have fp:ja O=Am e1:=by rw[Aa bu,BJ]
      have eb:=Dv e1;obtain⟨ds,dt,du,cI,cJ,cK,cL⟩:=G.src Oa;subst du;have gG:=x.RC.lt;clear ah ai aj ab ac ad ak s1 s2 al;dsimp only;rw[BJ,<-fp];go_wp2_with (at_builtin;refine FH rfl _ _ rfl w3 (jh (Z w3)+1) _ D rfl F (jA ds 0 U) (ja O) c3 dt rfl cI cK cL Oa Oa ?_)
      intro fq fr c4 fs bv bw b5 _ gH
      try rw[cJ]at bv
      have a4:=Ab<|K6 bv<|x.step b5 bw;clear bv bw b5 x F;go_wp2
      go_meet
      exact a4
    case rest=>
     obtain⟨a5,J⟩:=Aa hcut;clear hcut x F ah ai aj ab ac ad ak s1 s2 al;obtain⟨ft,cc,rfl,_⟩:=a5.bE;obtain⟨y,hy⟩:∃y,ja (D++O)=y:=⟨_,rfl⟩
     have ec:y=ja D+ja O:=by rw[<-hy,zC]
     rw[hy]at a5|-;obtain⟨ah,ai,aj⟩:=At J.RT;obtain⟨ab,ac,ad⟩:=At J.RC;have dv:=J.RC.frozen;obtain⟨ak,s1,s2,al⟩:=Cx J.RS;have gI:=J.E.size;have gJ:=J.RC.lt;have cM:=Ab ec;have ed:y+Em Es I+2<=13200:=Oa
     clear hy ec;by_cases aL:H=1
     .subst aL;have a6:=Ab (show LD Es kN (ja D) ⟨1,nm,cd,I⟩=O++[⟨4,(kN:Int),Aw⟩] by
       have:cd≠-1:=Oa;rw[Aa cG];simp[LD,J2,this])
      clear bZ bX bY;have bx:=AE wc<|jH #[V X 4,V X (kN:Int),V X 0,V X 0,jC ⟨#[]⟩,Y U 0 0] 133;go_wp2_with (at_builtin;refine FH rfl _ _ rfl w3 (jh (Z w3)+1) _ (D++O) rfl (a5.below bx) ⟨jh<|Z wc,0,U⟩ 1 1 [AR 4 (kN:Int)] rfl rfl (Ov.plain _ _ _) (DL wc (AR 4 (kN:Int)) _ Ox) (by have:=Aa cM;simp only[zC];omega) O0 ?_)
      intro fu fv c5 dw bz b6 b7 _ gK;have a7:=(J.below bx).step b7 b6;clear ah ai aj ab ac ad dv ak s1 s2 al;obtain⟨ab,ac,ad⟩:=At a7.RC;have dv:=a7.RC.frozen;have gL:=a7.RC.lt;have ee:=a7.RC.set 1<|V X<|(kN:Int)+1;simp only[zZ,zb,ze]at ee;have fw:=a7.RT.aF (p:=⟨jh<|Z w3,1,U⟩) (Oa:tb≠jh (Z w3))<|V X<|(kN:Int)+1;have fx:=a7.RO.aF (p:=⟨jh<|Z w3,1,U⟩) (Oa:ob≠jh (Z w3))<|V X<|(kN:Int)+1;have fy:=Ab (bz.keepB (w':=jJ dw ⟨jh<|Z w3,1,U⟩<|V X<|(kN:Int)+1) λz b8=>K0 dw _ z _<|by have:=(bz.lt z b8).1;show z≠jh (Z w3);omega);have fz:=a7.E.setCell (p:=⟨jh<|Z w3,1,U⟩) NLN<|V X<|(kN:Int)+1;clear bz b6 b7 bx a5 J;go_wp2
      go_roundw
      case rel=>
       refine⟨j+1,Aa cF,O1,?_,fw,fx,?_,fz,O0⟩
       .rw[Aa b1,Aa a6];have:=Aa fy;simpa[List.append_assoc,AR]using this
       .have e:((kN+LG ⟨1,nm,cd,I⟩:Nat):Int)=(kN:Int)+1:=by simp[LG]
        rw[Aa cE,e];exact ee
      case measure=>have:=Aa cF;simp[intOf];omega
     have gM:(H==1)=jE:=zA.2 aL;have a8:H=2/\cd≠-1\/H=3/\cd= -1:=Oa;have a6:=Ab<|AiG Es kN (ja D) H nm cd I a8;rw[<-Aa cG,<-Aa cM]at a6;obtain⟨at_,hat⟩:∃at_:Nat,at_=y+(if H=2 then 1 else 0):=⟨_,rfl⟩
     have b9:H=2/\at_=y+1\/H=3/\at_=y:=by obtain h|h:=a8<;>simp[h.1,hat]
     rw[<-hat]at a6;clear hat bZ aL;obtain⟨aM,rfl⟩:∃aM,aM=wc:=⟨_,rfl⟩
     go_upto_if 59 with fail
     go_cut [9] (λv wx=>v=V X (at_:Int)/\wx=aM)
     case first=>
      obtain⟨h,rfl⟩|⟨h,rfl⟩:=b9
      .have q2:(H==2)=jD:=zD.2 h;clear h a8;go_wp2
       go_meet
       exact⟨Ox,rfl⟩
      .have q2:(H==2)=jE:=zA.2 Oa;clear h a8;go_wp2
       go_meet
       exact⟨rfl,rfl⟩
     case rest=>
      obtain⟨rfl,ef⟩:=hcut;rw[ef];clear ef;have gN:at_<=y+1:=Oa;obtain⟨aa,dx⟩:∃aa,aa=FE Es I at_:=⟨_,rfl⟩
      have fA:=fe at_;rw[<-dx]at a6 fA;have cN:=Ab dx;clear dx;go_upto_region 19 with fail
      have cb:=AE aM<|jH #[V X 24,V X 0,V X 0,V X 0,jC ⟨#[]⟩,Y U 0 0] 133;have bA:=BS.lit w3 aM (jh<|Z aM) (AR 24 0) (Qh.bR w3) NLN;have dy:=λq hq=>(a5.lt q hq).2;have x:=J.below cb;have F:=a5.below cb;have eg:jh (Z w3)+1<=jh (Z aM):=J.RC.lt;dsimp only[AR,Aw]at bA;generalize jK aM (jH #[V X 24,V X 0,V X 0,V X 0,jC ⟨#[]⟩,Y U 0 0] 133)=fB at bA x F cb|-;have eh:jh (Z aM)<=jh (Z fB):=cb.size;clear cb;generalize jh (Z aM)=ce at bA dy eg eh|-;clear ah ai aj ab ac ad dv ak s1 s2 al J a5;obtain⟨ah,ai,aj⟩:=At x.RT;obtain⟨ab,ac,ad⟩:=At x.RC;obtain⟨ak,s1,s2,al⟩:=Cx x.RS;go_upto_if 66 with fail
      go_cut [7] (λv wx=>Hid<|BS w3 ce v aa wx/\BS w3 (jh (Z w3)+1) (Y ft y cc) (D++O) wx/\CmS w3 tb ob b2 #[Y a n c,Y (Q<|jA sb so U) m d,Y e k f] #[V X H,jC nm,V X cd,V X I] kN wx)
      case first=>
       by_cases hg:I= -1
       .have W: ¬ ((0 :Int)<=I):=Oa;have e:aa=[⟨24,0,Aw⟩]:=by rw[Aa cN,FE,H8 hg]
        subst e;clear hg;go_wp2
        go_meet
        exact Ab ⟨bA,F,x⟩
       .obtain⟨q,rfl⟩:∃q:Nat,I=q:=⟨I.toNat,Oa⟩
        have W:(0 :Int)<=(q:Int):=Oa;have ar:=Ab<|Aa dm q Oa;have b3:Em Es (q:Int)=Am (DH Es q):=by rw[Em,H7 hg]
        have bu:=Ab (show aa=Ar (DH Es q) at_++[⟨25,0,Aw⟩] by rw[Aa cN,FE,H7 hg]);rw[b3]at ed;generalize DH Es (q:Int)=e1 at ar ed bu;clear hg b3 bX bY bA b9 a8;go_wp2_with fail
        refine(Aa ar _ x.E).mono ?_;rintro r wz ⟨⟨ff,fg,fh,fi,fj,fk,fl,fm,fn⟩,rfl,hs,ae⟩;have cH:=Ab<|(hs wz ⟨NLN,λ_ _ _=>rfl⟩ Oa).2 at_ Oa;replace x:=x.below ae;replace F:=F.below ae;have ei:ce<=jh (Z wz):=zB eh ae.size;clear hs ae ah ai aj ab ac ad ak s1 s2 al;obtain⟨ah,ai,aj⟩:=At x.RT;obtain⟨ab,ac,ad⟩:=At x.RC;obtain⟨ak,s1,s2,al⟩:=Cx x.RS;dsimp only;go_wp2_with fail
        refine(Aa cH).mono ?_;rintro r b4 ⟨⟨u,rfl,G⟩,ae⟩;replace x:=x.below ae;replace F:=F.below ae;obtain⟨fo,c3,dr,-⟩:=G.bE;subst dr;replace G:=G.low ei;have gO:ce<=jh (Z b4):=zB ei ae.size;have cO:=AE b4<|jH #[V X 25,V X 0,V X 0,V X 0,jC ⟨#[]⟩,Y U 0 0] 133;clear ah ai aj ab ac ad ak s1 s2 al cH;dsimp only;go_wp2_with (at_builtin;refine FH rfl _ _ rfl w3 ce _ (Ar e1 at_) rfl (G.below cO) ⟨jh<|Z b4,0,U⟩ 1 1 [AR 25 0] rfl rfl (Ov.plain _ _ _) (DL b4 (AR 25 0) _ Ox) (by rw[BJ];omega) O0 ?_)
        intro fq fr c4 fs bv bw b5 _ _;have a4:=Ab<|K6 bv<|K6 ((F.below cO).keepB λq hq=>bw.block q<|dy q hq)<|(x.below cO).step b5<|bw.mono eg;clear bv bw b5 x F cO G;go_wp2
        go_meet
        exact Ab ⟨by rw[Aa bu];exact(Aa a4).1,(Aa a4).2⟩
      case rest=>
       obtain⟨aW,F,x⟩:=Aa hcut;clear hcut bA ah ai aj ab ac ad ak s1 s2 al;have fC: 0<ja aa:=by rw[Aa cN,FE];split<;>simp
       obtain⟨fD,ej,rfl,_⟩:=aW.bE;obtain⟨aX,cP⟩:∃aX:M9,aX=if H=2 then [⟨23,((at_+ja aa:Nat):Int),Aw⟩]else []:=⟨_,rfl⟩
       have fE:=Ab (show LD Es kN (ja D) ⟨H,nm,cd,I⟩=O++aX++aa by
        rw[Aa a6,cP];obtain⟨h,ek⟩|⟨h,ek⟩:=b9
        .rw[H8 h,H8 h,Aa cN,ek]
        .rw[H7 Oa,H7 Oa])
       have el:=Ab cP;have gP:ja aX<=1:=by rw[cP];split<;>simp
       clear cP a6;have gQ:=x.E.size;obtain⟨ah,ai,aj⟩:=At x.RT;obtain⟨ak,s1,s2,al⟩:=Cx x.RS;go_upto_if 79 with fail
       go_cut [3] (λv wx=>Hid<|BS w3 (jh (Z w3)+1) v (D++O++aX) wx/\BS w3 ce (Y fD (ja aa) ej) aa wx/\CmS w3 tb ob b2 #[Y a n c,Y (Q<|jA sb so U) m d,Y e k f] #[V X H,jC nm,V X cd,V X I] kN wx)
       case first=>
        by_cases ao:H=2
        .have q2:(H==2)=jD:=zD.2 ao;have fF:=Ab (show aX=[(AR 23<|(at_:Int)+(ja aa:Int)).i] by rw[Aa el,H8 ao];rfl);have fG:(at_:Int)+(ja aa:Int)<=13300:=Oa;have C8:=AE wc<|jH #[V X 23,V X<|(at_:Int)+(ja aa:Int),V X 0,V X 0,jC ⟨#[]⟩,Y U 0 0] 133;clear ao b9 a8;go_wp2_with (at_builtin;refine FH rfl _ _ rfl w3 (jh (Z w3)+1) _ (D++O) rfl (F.below C8) ⟨jh<|Z wc,0,U⟩ 1 1 [AR 23<|(at_:Int)+(ja aa:Int)] rfl rfl (Ov.plain _ _ _) (DL wc (AR 23<|(at_:Int)+(ja aa:Int)) _ Ox) (by have:=Aa cM;simp only[zC];omega) O0 ?_)
         intro fu fv c5 dw bz b6 b7 em _;have a4:=Ab<|K6 bz<|K6 ((aW.below C8).keepB λq hq=>em q (by have:=((aW.below C8).lt q hq).2;simpa using this) λe=>by have:=dy q e;have:=(aW.lt q hq).1;omega)<|(x.below C8).step b7 b6;clear bz b6 b7 em C8;go_wp2
         go_meet
         exact Ab ⟨by rw[Aa fF];simpa[List.append_assoc]using (Aa a4).1,(Aa a4).2⟩
        .have q2:(H==2)=jE:=zA.2 ao;have e:aX=[]:=by rw[Aa el,H7 ao]
         subst e;clear ao b9 a8;go_wp2
         go_meet
         exact Ab ⟨by rw[List.append_nil];exact F,aW,x⟩
       case rest=>
        obtain⟨dz,aW,x⟩:=Aa hcut;clear hcut F ah ai aj ak s1 s2 al;obtain⟨gR,gS,rfl,_⟩:=dz.bE;obtain⟨ds,dt,du,cI,cJ,cK,cL⟩:=aW.src fC;subst du;have gT:=x.RC.lt;go_wp2_with (at_builtin;refine FH rfl _ _ rfl w3 (jh (Z w3)+1) _ (D++O++aX) rfl dz (jA ds 0 U) (ja aa) ej dt rfl cI cK cL (by have:=Aa cM;simp only[zC];omega) Oa ?_)
        intro gU gV gW gY dA en eo _ _
        try rw[cJ]at dA
        have fH:=Ab dA;have cf:=x.step eo en;have fI:=cf.RC.lt;clear dA en eo x dz aW cI cJ cK cL;go_wp2
        go_roundw
        case rel=>
         refine⟨j+1,Aa cF,O1,?_,cf.RT,cf.RO,?_,cf.E,fI⟩
         .rw[Aa b1,Aa fE];simpa[List.append_assoc]using Aa fH
         .have e:kN+LG ⟨H,nm,cd,I⟩=kN:=by rw[LG,H7 (Oa:¬ H=1)];rfl
          rw[Aa cE,e];exact cf.RC
        case measure=>have:=Aa cF;simp[intOf];omega
   .have fJ:j=m:=Oa;subst fJ;rw[show L.take j=L by rw[<-Aa de,z2]]at F RC;have cQ:=Ab<|show(Bb ⟨[],0,[]⟩<|CY Es 0 0 L).bJ (El L)=Lo Es L from(P6 Es L).symm;have fK:ja (CY Es 0 0 L)<=13200:=zB (Ts Es L<|Aa cB)<|Aa dl;have dB:=Qk (Aa aS).bK (Aa e8) (Aa e9) L (Aa cA) (Aa cB) 0 0;generalize CY Es 0 0 L=D at F cQ fK dB;generalize El L=kN at RC cQ;obtain⟨ea,ca,rfl,fL⟩:=F.bE;have dC:=Ab (show ∀z∈D,Tu z.val from dB);clear dm d8 cA cB dl aS d7 di;obtain⟨dD,dE,dF,dG,bS⟩:=info_parts Ml;obtain⟨cg,fM⟩:∃cg,cg=wr:=⟨_,rfl⟩
    subst fM;obtain⟨aO,dH,ep,cS⟩:=F;have dI:ja aO=ja D:=by rw[<-dH,zN]
    rw[dI]at cS;obtain⟨dK,ch⟩:∃dK,ja D=0\/∃ga,ea=Q (jA ga 0 U)/\Ag cg ga dK 133/\ga≠jh (Z w3)/\∀r u,(aO.flatMap J5.cs)[r]? =Q u->dK[r]? =Q u:=by
     obtain q|q:=Nat.eq_zero_or_pos<|ja D
     .exact⟨#[],.inl q⟩
     .obtain⟨gZ,c',fN,fO⟩:=Ae cS;cases fN;obtain⟨g,rfl,_,fP⟩:=fO q;obtain⟨fQ,dL,_⟩:=VZ cS;exact⟨fQ,.inr ⟨g,rfl,dL,dL.dO RC Ob,λr u hu=>(dL.cell r).symm.trans<|fP r u hu⟩⟩
    have er:=Ab ep;have es:=Ab dH;have et:=Ab dI;have eu:S2 cg (jh (Z w3)+1) (jh<|Z w3) kN (Bb ⟨[],0,[]⟩<|D.take 0) (Y U 0 0) (Y U 0 0) []:=⟨RC,Dz.nil _ _,H3,Nat.lt_succ_self _⟩
    have ev:=Ab ch;clear dH ep cS dI fL dB ch RC RT cD d9;go_wp2_with fail
    go_loopw [94] (λi wq=>∃ (q:Nat) (pv iv:jF) (bB:L7),q<=ja D/\i=V X q/\S2 wq (jh (Z w3)+1) (jh<|Z w3) kN (Bb ⟨[],0,[]⟩<|D.take q) pv iv bB/\K2 (jh<|Z w3) cg wq/\Ai w3 wq) (λi _=>ja D-(intOf i).toNat)
    case atStart=>exact⟨0,_,_,_,zE _,rfl,eu,λ_ _ _ R _ _ _=>R,bV⟩
    case round=>
     clear eu;obtain⟨q,pv,iv,bB,hq,rfl,S,K,cj⟩:=hrel;by_cases ck:q<ja D
     .have g3:(q:Int)<(ja D:Int):=Oa;obtain h0|⟨ga,rfl,ch,fR,ew⟩:=Aa ev
      .omega
      have dM:q<ja aO:=by rw[Aa et];exact ck
      have dN:D[q]=aO[q].i:=by have:=Aa es;simp only[<-this,List.getElem_map]
      have aY:∀r,r<6->∀u,(aO[q].cs)[r]? =Q u->jI wr ⟨ga,q*6+r,U⟩=Q u:=λr fS u hu=>((K _ _ _ ch fR Ob Ob).cell<|q*6+r).trans (ew _ _<|by rw[AdJ aO q dM r fS];exact hu);have c0:=aY 0 Ob _ rfl;have c1:=aY 1 Ob _ rfl;have c2:=aY 2 Ob _ rfl;have c3:=aY 3 Ob _ rfl;have c4:=aY 4 Ob _ rfl;have c5:=aY 5 Ob _ rfl;rw[zX]at c0;have a9:=Aa er aO[q]<|zI dM;have cl:Tu aO[q].i.val:=by rw[<-dN];exact Aa dC _<|zI ck
      have cm:=Ab (show Bb ⟨[],0,[]⟩ (D.take<|q+1)=Bh (Bb ⟨[],0,[]⟩<|D.take q) aO[q].i by rw[zT ck,Eb,dN];rfl);have co:=Ab (show ja (Bb ⟨[],0,[]⟩<|D.take q).aI<=13200/\ja (Bb ⟨[],0,[]⟩<|D.take q).aK<=13200 by
       have aL:=Ql (D.take q) ⟨[],0,[]⟩;have ao:=Cg (D.take q) ⟨[],0,[]⟩;have h3:=List.length_take_le q D;simp only[List.length_nil,zY]at aL ao;omega)
      have bC:=Ab<|Mn (D.take q) ⟨[],0,[]⟩ (λz b8=>Aa dC z<|Z9 b8) λv hv=>H9 hv Ox;have bD:=Ab ck;generalize Bb ⟨[],0,[]⟩ (D.take q)=s at S cm co bC;generalize aO[q]=fT at c0 c1 c2 c3 c4 c5 a9 cl cm;obtain⟨⟨op,M,⟨A,B,C,l⟩⟩,au,ba,W⟩:=fT;dsimp only at c0 c1 c2 c3 c4 c5 a9 cl;clear aY dN dM ck ew ch;have aw:=AE wr<|jH #[V X op,V X M,V X A,V X B,jC C,Y au ba W] 133;have aT:=Ag.new wr #[V X op,V X M,V X A,V X B,jC C,Y au ba W] 133;have ap:=S.below aw;have cq:=K.trans<|K2.aH aw;have aZ:=cj.trans<|aw.mono cj.size;by_cases cT:op=1
      .subst cT;obtain rfl:=a9.1.len;obtain⟨xp,cp,rfl,_⟩:=Ae ap.aI.aN;obtain⟨g0,g1,g2⟩:=At ap.row;have g4:ja s.aI<=13200:=(Aa co).1;have g5:ja l<=255:=cl.2.1;have cU:=ap.aI.vls rfl Oa (Aa bC);obtain⟨bb,bc,i2,bd,bf,bg⟩:=DN aT;have cr:=Ab<|a9.1.below aZ NLN;have fU:=a9.2;have dP:=Ab<|YO ⟨A,B,C,l⟩ s.aI;clear a9 cl bC K S cj aw;go_wp2_with fail
       clear c0 c1 c2 c3 c4 c5 bb bc i2 bd bf bg g0 g1 g2;generalize fV:jh (Z wr)=fG at aT|-;generalize jK wr (jH #[V X 1,V X M,V X A,V X B,jC C,Y au (ja l) W] 133)=fW at ap cq aZ aT cU cr|-;clear fV;go_loopw [12,106] (λv i fX=>∃k:Nat,k<=ja s.aI/\i=V X k/\v=V X (Cq ⟨A,B,C,l⟩ s.aI k)/\Ai fW fX) (λ_ i _=>ja s.aI-(intOf i).toNat)
       case atStart=>exact⟨0,zE _,rfl,by rw[Aa dP],BRN⟩
       case round=>
        obtain⟨k,g6,rfl,rfl,ax⟩:=hrel;by_cases bF:k<ja s.aI
        .have g8:(k:Int)<(ja s.aI:Int):=Oa;obtain⟨g9,ha,fY,hb,an,nn,cn,br,bs,bt,ex,ey⟩:=(cU.below ax NLN).cells k bF;subst fY;have bh:=aT.aA ax NLN;have cV:=Oz ⟨A,B,C,l⟩ s.aI k;have ar:=Ab λaV (cC:Ai wr aV)=>YL s.aI[k] ⟨A,B,C,l⟩ an nn cn au (ja l) W aV (ey.below cC NLN)<|((Aa cr).below ax NLN).below cC NLN;have J:=Ab<|show 0<=Cq ⟨A,B,C,l⟩ s.aI k->Cq ⟨A,B,C,l⟩ s.aI (k+1)=Cq ⟨A,B,C,l⟩ s.aI k from AbK bF;have bG:=Ab<|show Cq ⟨A,B,C,l⟩ s.aI k<0->s.aI[k]=⟨A,B,C,l⟩->Cq ⟨A,B,C,l⟩ s.aI (k+1)=k from YP bF;have bH:=Ab<|show Cq ⟨A,B,C,l⟩ s.aI k<0->s.aI[k]≠⟨A,B,C,l⟩->Cq ⟨A,B,C,l⟩ s.aI (k+1)=Cq ⟨A,B,C,l⟩ s.aI k from V1 bF;have bI:=Ab bF;generalize s.aI[k]=z at br bs bt ex ar bG bH;generalize Cq ⟨A,B,C,l⟩ s.aI k=aU at cV J bG bH|-;obtain⟨bL,bM,bN,zs⟩:=z;dsimp only at br bs bt ex ar;clear ey bF;have ez:=AE wr<|jH #[V X bL,V X bM,jC bN,Y an nn cn] 77;obtain⟨eA,eB,eC,eD⟩:=Cx<|Ag.new wr #[V X bL,V X bM,jC bN,Y an nn cn] 77;have cW:=ax.trans<|ez.mono ax.size;obtain⟨bb,bc,i2,bd,bf,bg⟩:=DN<|aT.aA cW NLN;by_cases fZ:aU<0
         .have eE:=Ab fZ;go_wp2_with fail
          refine(Aa ar _ ez).mono ?_;rintro r hd ⟨rfl,f0⟩;have eF:=cW.trans<|f0.mono cW.size;have dQ:=Ab (show ∀bi,IB ⟨bL,bM,bN,zs⟩ ⟨A,B,C,l⟩=bi->(bi=jD->(⟨bL,bM,bN,zs⟩:Vl)=⟨A,B,C,l⟩)/\(bi=jE->(⟨bL,bM,bN,zs⟩:Vl)≠⟨A,B,C,l⟩)from λbi e=>by
           subst e;exact YQ _ _)
          generalize f1:IB ⟨bL,bM,bN,zs⟩ ⟨A,B,C,l⟩=bi at dQ;have cX:=Ab<|Aa dQ bi rfl;clear dQ f1;dsimp only;cases bi with
          |true=>
           have bn:=Ab<|Aa bG (Aa eE)<|(Aa cX).1 rfl;clear ar J bG bH cX;go_wp2
           go_roundw
           case rel=>exact⟨k+1,Aa bI,O1,by rw[Aa bn],eF⟩
           case measure=>have:=Aa bI;simp[intOf];omega
          |false=>
           have bn:=Ab<|Aa bH (Aa eE)<|(Aa cX).2 rfl;clear ar J bG bH cX;go_wp2
           go_roundw
           case rel=>exact⟨k+1,Aa bI,O1,by rw[Aa bn],eF⟩
           case measure=>have:=Aa bI;simp[intOf];omega
         .have bn:=Ab<|Aa J Oa;clear ar J bG bH;go_wp2
          go_roundw
          case rel=>exact⟨k+1,Aa bI,O1,by rw[Aa bn],cW⟩
          case measure=>have:=Aa bI;simp[intOf];omega
        .have f2:k=ja s.aI:=Oa;subst f2;have aq:=ap.below ax;have dR:=cq.trans<|K2.aH ax;have bj:=aZ.trans<|ax.mono aZ.size;have bh:=aT.aA ax NLN;have cV:=Oz ⟨A,B,C,l⟩ s.aI<|ja s.aI;have eG:=YR ⟨A,B,C,l⟩ s.aI;generalize Cq ⟨A,B,C,l⟩ s.aI (ja s.aI)=aU at cV eG|-;obtain⟨hf,cs,ct⟩|⟨eb,cs,ct⟩:=eG
         .have cu:=Ab (show Bh s ⟨1,M,⟨A,B,C,l⟩⟩=⟨s.aI++[⟨A,B,C,l⟩],s.aE,s.aK++[⟨1,(ja s.aI:Nat)⟩]⟩ by rw[Bh,H8 rfl];dsimp only;rw[ct,cs]);obtain⟨eH,eI,eJ,eK,eL⟩:=info_parts AiE;have hh:=aq.row.lt;have bx:=AE wr<|jH #[V X A,V X B,jC C,Y au (ja l) W] 77;have dS:=Ag.new wr #[V X A,V X B,jC C,Y au (ja l) W] 77;have cY:=AE wr<|jH #[V X A,V X B,jC C,Y U 0 0] 77;have cZ:=Ag.new wr #[V X A,V X B,jC C,Y U 0 0] 77;have eM:=((Aa cr).below ax NLN).below cY NLN;obtain⟨g0,g1,g2⟩:=At aq.row;obtain⟨bb,bc,i2,bd,bf,bg⟩:=DN bh;obtain⟨f3,f4,f5,f6,f7,f8⟩:=DN<|bh.aA bx NLN;obtain⟨f9,l1,gb,gc,gd,ge⟩:=DN<|bh.aA cY NLN;obtain⟨eA,eB,eC,eD⟩:=Cx dS;have gf:=λj=>dS.frozen j;obtain⟨u0,u1,u2,u3⟩:=Cx cZ;have gg:=λj=>cZ.frozen j;clear cs ct cV ap cq aZ cU dP cr aT;go_wp2_with (at_builtin;refine EB rfl _ _ rfl (jh (Z wr)+1) _ 0 [] rfl H3 au (ja l) W l rfl eM fU Oa Ox ?_)
          intro gh bk a0 c6;replace a0:jO bk (jh (Z wr)+1) 9 1 gh (ja l)<|l.map Value.string:=by first|exact a0|simpa using a0
          obtain⟨aP,aQ,rfl,_⟩:=Ae a0;have c8:=cZ.aA c6 Ox;have dT:=c8.set 3<|Y aP (ja l) aQ;simp only[zZ,zb,ze]at dT;have bO:=(cY.trans<|c6.mono<|zU _).setCell (p:=⟨jh<|Z wr,3,U⟩) NLN<|Y aP (ja l) aQ;have bP:=aq.below bO;have dU:=bh.aA bO NLN;have gi:jh (Z wr)+1<=jh (Z bk):=by have:=c6.size;simpa using this
          have ay:=Ah a0 ⟨jh<|Z wr,3,U⟩ (Y aP (ja l) aQ) (λq hq=>by have:=(a0.lt q hq).1;show q≠jh (Z wr);omega);have eN:∀q,jL (Value.slice aP (ja l) aQ)=Q q->jL (Value.slice xp (ja s.aI) cp)≠Q q/\∀j,(cD:j<ja bB)->jL bB[j]≠Q q:=λq hq=>by
           have hi:=(a0.lt q hq).1;exact⟨λe=>H2<|(aq.aI.bW.1 q e).2,λj cD e=>H2<|(aq.aI.bW.2 j cD q e).2⟩
          have dV:=G4<|G8 (jJ bk ⟨jh<|Z wr,3,U⟩<|Y aP (ja l) aQ)<|jH #[V X A,V X B,jC C,Y aP (ja l) aQ] 77;rw[(Ox:jh (Z<|jJ bk ⟨jh<|Z wr,3,U⟩<|Y aP (ja l) aQ)=jh (Z bk))]at dV;have dW:=G1 bP.aI.aN<|jH #[V X A,V X B,jC C,Y aP (ja l) aQ] 77;have dX:=bP.row.alloc<|jH #[V X A,V X B,jC C,Y aP (ja l) aQ] 77;obtain⟨gj,gl,gm,gn⟩:=Cx c8;have gp:=λj=>c8.frozen j;obtain⟨gq,gr,gs,gt⟩:=Cx dT;obtain⟨ab,ac,ad⟩:=At bP.row;clear bx cY dS cZ c8 eM g0 g1 g2 bb bc i2 bd bf bg f3 f4 f5 f6 f7 f8 f9 l1 gb gc gd ge eA eB eC eD gf u0 u1 u2 u3 gg;go_wp2_with (at_builtin;refine G6 _ rfl _ _ 23 rfl (jh (Z w3)+1) 77 eH (jM #[V X 0,V X 0,jC ByteArray.empty,Y U 0 0]) 4 56 underlying23 eI eJ eK eL rfl Ob (Y xp (ja s.aI) cp) (ja s.aI) (JX s.aI bB) rfl dW ⟨jh<|Z bk,0,U⟩ 1 1 [V X A,V X B,jC C,Y aP (ja l) aQ] rfl rfl dV ?e2 Ob ?e3 ?e4 ?e5 (jh (Z bk)+1) Ox ?_)
          case e2=>first|exact⟨rfl,rfl,rfl,rfl⟩|(intro u hu;simp at hu;obtain rfl|rfl|rfl|rfl:=hu<;>rfl)
          case e3=>unfold maxLen;omega
          case e4=>omega
          case e5=>first|omega|(simp;omega)
          intro g7 c7 av eO af hat bl;have cv:=bP.newV (v:=⟨A,B,C,l⟩) _ (Az ay Oa) eN af eO<|hat.imp id λe=>Hk;have ag:=Ck dX af λe=>Ac dX dW Ob e.symm;obtain⟨m0,hj,hk⟩:=At ag;have hl:=λj=>ag.frozen j;have gu:=cv.2.1 _ _ _ dU (by have:=dU.dO bP.row Ob;exact this) Ob Ob;have gv:=(dR.trans<|K2.aH bO).trans cv.2.1;have eP:=(bj.trans<|bO.mono bj.size).trans<|cv.2.2 _ NLN (bj.trans<|bO.mono bj.size).size;have bm:=cv.1;clear gj gl gm gn gp gq gr gs gt ab ac ad dT gi eH eI eJ eK eL;clear cv eO af hat bl ag dX dW dV a0 ay eN bP bO c6 dU bh aq dR bj ax;obtain⟨xi,ci,rfl,_⟩:=Ae bm.aK;obtain⟨g0,g1,g2⟩:=At bm.row;have gw:=λj=>bm.row.frozen j;obtain⟨bb,bc,i2,bd,bf,bg⟩:=DN gu;have a1:=(Below.refl (jh<|Z<|jJ av ⟨jh<|Z w3,0,U⟩<|Y (Q<|jA g7 0 U) (ja s.aI+1) c7)<|jJ av ⟨jh<|Z w3,0,U⟩<|Y (Q<|jA g7 0 U) (ja s.aI+1) c7).alloc NLN<|jH #[V X 1,V X<|(ja s.aI:Int)] 80;have az:=bm.row.aA a1 NLN;have aB:=G1 bm.aK<|jH #[V X 1,V X<|(ja s.aI:Int)] 80;have aR:=G4<|G8 (jJ av ⟨jh<|Z w3,0,U⟩<|Y (Q<|jA g7 0 U) (ja s.aI+1) c7)<|jH #[V X 1,V X<|(ja s.aI:Int)] 80;rw[(Ox:jh (Z<|jJ av ⟨jh<|Z w3,0,U⟩<|Y (Q<|jA g7 0 U) (ja s.aI+1) c7)=jh (Z av))]at aR;have c9:=bm.row.lt;rw[(Ox:jh (Z<|jJ av ⟨jh<|Z w3,0,U⟩<|Y (Q<|jA g7 0 U) (ja s.aI+1) c7)=jh (Z av))]at c9;have eQ:=(Aa co).2;go_wp2_with (at_builtin;refine G6 _ rfl _ _ 24 rfl (jh (Z w3)+1) 80 dD (jM #[V X 0,V X 0]) 2 16 underlying24 dE dF dG bS rfl Ob (Y xi (ja s.aK) ci) (ja s.aK) (Cr s.aK) rfl aB ⟨jh<|Z av,0,U⟩ 1 1 [V X 1,V X<|(ja s.aI:Int)] rfl rfl aR ?c2 Ob ?c3 ?c4 ?c5 (jh (Z av)+1) Ox ?_)
          case c2=>first|exact⟨rfl,rfl⟩|(intro u hu;simp at hu;obtain rfl|rfl:=hu<;>rfl)
          case c3=>unfold maxLen;omega
          case c4=>omega
          case c5=>first|omega|(simp;omega)
          intro g7 eR av ay af hat bl;have ag:=Ck az af λe=>Ac az aB Ob e.symm;obtain⟨eS,d1,d2⟩:=At ag;have eT:=λj=>ag.frozen j;have aD:=Ab<|bm.newI _ 1 ((ja s.aI:Int)) af ay;clear ay af hat bl ag az aB aR a1;go_wp2
          go_roundw
          case rel=>
           refine⟨q+1,?_,?_,?_,Aa bD,O1,?_,gv.trans (Aa aD).2.1,eP.trans<|(Aa aD).2.2 _ NLN eP.size⟩
           rotate_left 3
           rw[Aa cm,Aa cu];exact(Aa aD).1
          case measure=>have:=Aa bD;simp[intOf];omega
         .have cu:=Ab (show Bh s ⟨1,M,⟨A,B,C,l⟩⟩=⟨s.aI,s.aE,s.aK++[⟨1,aU⟩]⟩ by rw[Bh,H8 rfl];dsimp only;rw[ct,<-cs]);have hm: ¬ (aU<0):=Oa;clear cs ct;clear eb ap cq aZ cU dP cr aT;obtain⟨xi,ci,rfl,_⟩:=Ae aq.aK;obtain⟨g0,g1,g2⟩:=At aq.row;have gw:=λj=>aq.row.frozen j;obtain⟨bb,bc,i2,bd,bf,bg⟩:=DN bh;have a1:=AE wr<|jH #[V X 1,V X<|aU] 80;have az:=aq.row.aA a1 NLN;have aB:=G1 aq.aK<|jH #[V X 1,V X<|aU] 80;have aR:=G4<|G8 wr<|jH #[V X 1,V X<|aU] 80;have c9:=aq.row.lt;have eQ:=(Aa co).2;go_wp2_with (at_builtin;refine G6 _ rfl _ _ 24 rfl (jh (Z w3)+1) 80 dD (jM #[V X 0,V X 0]) 2 16 underlying24 dE dF dG bS rfl Ob (Y xi (ja s.aK) ci) (ja s.aK) (Cr s.aK) rfl aB ⟨jh<|Z wr,0,U⟩ 1 1 [V X 1,V X<|aU] rfl rfl aR ?c2 Ob ?c3 ?c4 ?c5 (jh (Z wr)+1) Ox ?_)
          case c2=>first|exact⟨rfl,rfl⟩|(intro u hu;simp at hu;obtain rfl|rfl:=hu<;>rfl)
          case c3=>unfold maxLen;omega
          case c4=>omega
          case c5=>first|omega|(simp;omega)
          intro g7 eR av ay af hat bl;have ag:=Ck az af λe=>Ac az aB Ob e.symm;obtain⟨eS,d1,d2⟩:=At ag;have eT:=λj=>ag.frozen j;have aD:=Ab<|aq.newI _ 1 (aU) af ay;clear ay af hat bl ag az aB aR a1;go_wp2
          go_roundw
          case rel=>
           refine⟨q+1,?_,?_,?_,Aa bD,O1,?_,dR.trans (Aa aD).2.1,bj.trans<|(Aa aD).2.2 _ NLN bj.size⟩
           rotate_left 3
           rw[Aa cm,Aa cu];exact(Aa aD).1
          case measure=>have:=Aa bD;simp[intOf];omega
      .have hn:(op==1)=jE:=zA.2 cT;have cu:=Ab (show Bh s ⟨op,M,⟨A,B,C,l⟩⟩=⟨s.aI,s.aE,s.aK++[⟨op,M⟩]⟩ by rw[Bh,H7 cT]);clear cT a9 cl bC;obtain⟨xi,ci,rfl,_⟩:=Ae ap.aK;obtain⟨g0,g1,g2⟩:=At ap.row;obtain⟨bb,bc,i2,bd,bf,bg⟩:=DN aT;have a1:=(Below.refl (jh<|Z<|jK wr<|jH #[V X op,V X M,V X A,V X B,jC C,Y au ba W] 133)<|jK wr<|jH #[V X op,V X M,V X A,V X B,jC C,Y au ba W] 133).alloc NLN<|jH #[V X op,V X<|M] 80;have az:=ap.row.aA a1 NLN;have aB:=G1 ap.aK<|jH #[V X op,V X<|M] 80;have aR:=G4<|G8 (jK wr<|jH #[V X op,V X M,V X A,V X B,jC C,Y au ba W] 133)<|jH #[V X op,V X<|M] 80;rw[(Ox:jh (Z<|jK wr<|jH #[V X op,V X M,V X A,V X B,jC C,Y au ba W] 133)=jh (Z wr)+1)]at aR;have c9:=ap.row.lt;rw[(Ox:jh (Z<|jK wr<|jH #[V X op,V X M,V X A,V X B,jC C,Y au ba W] 133)=jh (Z wr)+1)]at c9;have eQ:=(Aa co).2;go_wp2_with (at_builtin;refine G6 _ rfl _ _ 24 rfl (jh (Z w3)+1) 80 dD (jM #[V X 0,V X 0]) 2 16 underlying24 dE dF dG bS rfl Ob (Y xi (ja s.aK) ci) (ja s.aK) (Cr s.aK) rfl aB ⟨jh (Z wr)+1,0,U⟩ 1 1 [V X op,V X<|M] rfl rfl aR ?c2 Ob ?c3 ?c4 ?c5 (jh (Z wr)+1+1) Ox ?_)
       case c2=>first|exact⟨rfl,rfl⟩|(intro u hu;simp at hu;obtain rfl|rfl:=hu<;>rfl)
       case c3=>unfold maxLen;omega
       case c4=>omega
       case c5=>first|omega|(simp;omega)
       intro g7 eR av ay af hat bl;have ag:=Ck az af λe=>Ac az aB Ob e.symm;obtain⟨eS,d1,d2⟩:=At ag;have eT:=λj=>ag.frozen j;have aD:=Ab<|ap.newI _ op (M) af ay;clear ay af hat bl ag az aB aR a1;go_wp2
       go_roundw
       case rel=>
        refine⟨q+1,?_,?_,?_,Aa bD,O1,?_,cq.trans (Aa aD).2.1,aZ.trans<|(Aa aD).2.2 _ NLN aZ.size⟩
        rotate_left 3
        rw[Aa cm,Aa cu];exact(Aa aD).1
       case measure=>have:=Aa bD;simp[intOf];omega
     .have eq:q=ja D:=Oa;subst eq;have da:=K _ _ _ RO Oa Ob Ob;rw[z2]at S;have eU:=Ab (show ∀z,Bb ⟨[],0,[]⟩ D=z->Lo Es L=⟨z.aI,kN,z.aK⟩from λz b8=>by rw[<-Aa cQ,b8];rfl);generalize eV:Bb ⟨[],0,[]⟩ D=cc at S;have gx:=Ab<|Aa eU cc eV;clear eV eU cQ er es et ev dC K;obtain⟨xp,cp,rfl,_⟩:=Ae S.aI.aN;obtain⟨xi,ci,rfl,_⟩:=Ae S.aK;obtain⟨ho,q1,q2⟩:=At S.row;obtain⟨eY,eZ,e0⟩:=At da;have e6:=λj=>da.frozen j;obtain⟨br,bs,bt⟩:=At<|((da.set 0<|Y xp (ja cc.aI) cp).set 1<|V X kN).set 2<|Y xi (ja cc.aK) ci;have db:∀q,jL (Value.slice xi (ja cc.aK) ci)=Q q->q≠ob:=λq hq=>H2<|(S.aK.lt q hq).1;have bC:=Ab<|(((S.aI.set (jA ob 0 U) (Y xp (ja cc.aI) cp) (Oa:ob<_)).set (jA ob 1 U) (V X kN) (Oa:ob<_)).set (jA ob 2 U) (Y xi (ja cc.aK) ci) (Oa:ob<_)).low (lo':=tb) Oa;have gy:=Ab<|Az (base':=tb) (Ah (Ah (Ah S.aK (jA ob 0 U) (Y xp (ja cc.aI) cp) db) (jA ob 1 U) (V X kN) db) (jA ob 2 U) (Y xi (ja cc.aK) ci) db) Oa;have gz:=Ab<|(((df.trans<|cj.mono Oa).setCell (p:=(jA ob 0 U)) bo<|Y xp (ja cc.aI) cp).setCell (p:=(jA ob 1 U)) bo<|V X kN).setCell (p:=(jA ob 2 U)) bo<|Y xi (ja cc.aK) ci;clear S cj df da db RO;go_wp2_with fail
      refine G2 (v:= jM #[Y xp (ja cc.aI) cp,V X kN,Y xi (ja cc.aK) ci]) (by simp[results,results31,go_sem,br,bs,bt]) rfl ⟨_,Aa dh,?_⟩
      rw[Aa gx];refine⟨xp,cp,xi,ci,bB,rfl,?_,?_,?_⟩
      .rw[Aa cx];exact Aa bC
      .rw[Aa cx];exact Aa gy
      .show Below _ _ _;rw[Aa cx];exact Aa gz
end
end Go.Proofs.YtnjpihpohilnjaaGreatDoor

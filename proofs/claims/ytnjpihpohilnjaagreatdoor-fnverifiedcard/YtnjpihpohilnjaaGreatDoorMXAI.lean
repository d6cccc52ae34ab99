import Derived.Test.YtnjpihpohilnjaaGreatDoorVPS
import Derived.Test.YtnjpihpohilnjaaGreatDoorMXAX
open List renaming length->T,length->ja
open Option renaming none->U,some->Q,some->jg
open Array renaming size->R,size->jh
open Go renaming World->jB,Value->jF,Addr->jG,TypeId->jV
open Bool renaming true->jD,false->jE
open ByteArray renaming empty->jW
namespace Go.Proofs.YtnjpihpohilnjaaGreatDoor
open Proofs.Tryz
open Value renaming int->V,int->jc,slice->Y,string->jC,ownBlock->jL,agg->jM,pointer->jP,tuple->jQ
open IntKind renaming i64->X,i64->jd
open World renaming heap->Z,cell?->jI,setCell->jJ,alloc->jK,ownsRow->jO
open Addr renaming mk->jA,block->jT
open Obj renaming cells->jH
open Ending renaming returned->jN
open Proofs.Tryz renaming prog->jZ
open Go.RowKit
set_option linter.unusedVariables false
variable{tmps:Array jF}{nm:K9}{st:Cs}{a y:Ex}{op i:Int}{k:K5}{sl:List M7}{m:List (Sx×Int)}{bs:List Bool}{ns:L4}{ls:L8}{ts tt ys:L2}{N M:L6}{L:L9}{f z l:L7}{P:M1}{B b c hi' hi:Nat}{ka:L3}{o:M3}{q:Sx×Int}{v v' d g:jF}{x u:Vv}{w w' p:jB}
def UT:Nat->L4->L2->M8
 |k,n ::ns,t ::ts=>⟨n,jD,k,t⟩ ::UT (k+1) ns ts
 |_,_,_=> []
def CB (ns:L4) (ts:L2):M8:=Ju++UT 0 ns ts
noncomputable def nmR (ns:L4) (ts:L2) (s:K9):Rc:=
 if 0<=AH s Bn 0 then .ok (BI<|AH s Bn 0)else if 0<=AH s ns 0 then ofC 7 ts[(AH s ns 0).toNat]? else .error 7
theorem QB (s:K9):∀(L:L4) (k:Int),0<=k->(AH s L k= -1/\s ∉ L)\/(k<=AH s L k/\AH s L k<k+T L):=by intro L;induction L<;>intros<;>grind [AH]
theorem NE (s:K9):∀(ns:L4) (ts:L2) (k:Nat),T ns=T ts->(AH s ns k= -1/\J8 (UT k ns ts) s=U)\/∃ (j:Nat) (t:Int),AH s ns k=((k+j:Nat):Int)/\ts[j]? =Q t/\J8 (UT k ns ts) s=Q ⟨s,jD,((k+j:Nat):Int),t⟩
 |[],[],k,_=> .inl ⟨by simp[AH],rfl⟩
 |n ::ns,t ::ts,k,h=>by
  rw[AH,UT];by_cases e:n=s
  .rw[H8 e];exact .inr ⟨0,t,rfl,rfl,by rw[J8,List.find?_cons_of_pos<|by simpa using e,e];rfl⟩
  .rw[H7 e];have e2:J8 (⟨n,jD,(k:Int),t⟩ ::UT (k+1) ns ts) s=J8 (UT (k+1) ns ts) s:=by rw[J8,List.find?_cons_of_neg<|by simpa using e];rfl
   rw[e2];obtain⟨b,a⟩|⟨j,c,b,a,h3⟩:=NE s ns ts (k+1) Q6
   .grind
   .refine .inr ⟨j+1,c,?_,by simpa using a,?_⟩
    all_goals grind
 |[],_ ::_,_,h=>Qy
 |_ ::_,[],_,h=>Qy
def atD:Nat->L4->M8
 |k,n ::ns=>⟨n,jE,k,BI k⟩ ::atD (k+1) ns
 |_,[]=> []
theorem Ad6 (s:K9):∀(ns:L4) (k:Nat),(AH s ns k= -1/\J8 (atD k ns) s=U)\/∃j:Nat,j<T ns/\AH s ns k=((k+j:Nat):Int)/\J8 (atD k ns) s=Q ⟨s,jE,((k+j:Nat):Int),BI ((k+j:Nat):Int)⟩
 |[],k=> .inl ⟨by simp[AH],rfl⟩
 |n ::ns,k=>by
  rw[AH,atD];by_cases e:n=s
  .grind [J8]
  .rw[H7 e];have e2:J8 (⟨n,jE,(k:Int),BI (k:Int)⟩ ::atD (k+1) ns) s=J8 (atD (k+1) ns) s:=by rw[J8,List.find?_cons_of_neg<|by simpa using e];rfl
   rw[e2];obtain⟨a,c⟩|⟨j,b,a,h3⟩:=Ad6 s ns<|k+1
   .grind
   .have en:k+1+j=k+(j+1):=Oa;refine .inr ⟨j+1,by simpa using b,?_,?_⟩
    all_goals grind
theorem AgW:Ju=atD 0 Bn:=rfl
theorem Mw (s:K9):(AH s Bn 0= -1/\J8 Ju s=U)\/∃j:Nat,j<6/\AH s Bn 0=(j:Int)/\J8 Ju s=Q ⟨s,jE,(j:Int),BI (j:Int)⟩:=by
 rw[AgW];obtain⟨a,b⟩|⟨j,c,a,b⟩:=Ad6 s Bn 0
 .grind
 .rw[zY]at a b;exact .inr ⟨j,c,a,b⟩
theorem Jv (A B:M8)(s:K9):J8 (A++B) s=match J8 A s with|some d=>Q d|none=>J8 B s:=by grind [J8]
def cR:Rs->Rc
 |.ok t=> .ok t
 |.error f=> .error f.1
theorem Mx:∀(ns:L4) (ts:L2) (k:Nat),T ns=T ts->(UT k ns ts).map Dc.cS=ts/\(UT k ns ts).map Dc.name=ns
 |[],[],k,_=>⟨rfl,rfl⟩
 |n ::ns,t ::ts,k,h=>by
  obtain⟨a,b⟩:=Mx ns ts (k+1) Q6
  grind [UT]
 |[],_ ::_,_,h=>Qy
 |_ ::_,[],_,h=>Qy
theorem Ad7 (h:T ns=T ts)(n:Int):ltT (CB ns ts) n=if 0<=n then ts[n.toNat]? else U:=by rw[ltT,show(CB ns ts).drop 6=UT 0 ns ts from rfl,<-zr,(Mx ns ts 0 h).1]
theorem AiO (ns:L4)(ts:L2)(h:T ns=T ts)(i:Int)(s:K9):nmR ns ts s=cR (Bz (CB ns ts)<|.name i s):=by
 rw[Bz,CB,Jv,nmR];obtain⟨a,b⟩|⟨j,d,a,b⟩:=Mw s
 .rw[a,b,H7 Ob];obtain⟨g1,g2⟩|⟨j,t,g1,g2,g3⟩:=NE s ns ts 0 h
  .have c:AH s ns 0= -1:=g1;rw[c,g2,H7 Ob];rfl
  .have c:AH s ns 0=(j:Int):=by have:=g1;simpa using this
   rw[c,g3,H8 Oa,zS,g2];rfl
 .rw[a,b,H8 Oa];rfl
set_option maxRecDepth 100000
set_option maxHeartbeats 1600000
structure Ltm (w:jB) (lb:Nat) (xa:L3) (nn cc:Nat) (ns:L4) (la:L3) (ln lc:Nat) (ts:L2):Prop where
 c0:jI w (jA lb 0 U)=Q (Y xa nn cc)
 c1:jI w (jA lb 1 U)=Q (Y la ln lc)
 lt:lb<R (Z w)
 nms:Nms w xa ns
 nl:T ns=nn
 aJ:nn<=1048576
 dR:AP w la ln lc ts
 dP:T ns=T ts
theorem Ltm.below {w w':jB}{b:Nat}{c:L3}{nn cc:Nat}{ns:L4}{d:L3}{f g:Nat}{ts:L2}(h:Ltm w b c nn cc ns d f g ts)(a:Ai w w'):Ltm w' b c nn cc ns d f g ts:=
 ⟨(a.cell (p:=(jA b 0 U)) h.lt).trans h.c0,(a.cell (p:=(jA b 1 U)) h.lt).trans h.c1,zL h.lt a.size,h.nms.below a NLN,h.nl,h.aJ,h.dR.below a NLN,h.dP⟩
theorem Wx (a:L3)(n c:Nat)(N:L6)(m:Nat)(w:jB)(B:IN w a n c N)(i:Nat)(x:Nd)(hx:N[i]? =Q x)(L:x.op=5)(C:L3)(nn cc:Nat)(ns:L4)(M:L3)(D O:Nat)(ts:L2)(P:Ltm w m C nn cc ns M D O ts):
  Calls jZ 130 #[Y a n c,V X i,jP<|Q<|jA m 0 U] w (NdC (nmR ns ts x.text) w):=by
 have af:=B.len;have hi:i<T N:=(zP.1 hx).1;have S:N[i]=x:=(zP.1 hx).2;have ag:(i:Int)<(n:Int):=Oa;obtain⟨b,ah,rfl,ai,an,o,cn,p,q,s,c0,c1,c2,c3,c4,aj,W⟩:=B.cells i hi;rw[S]at c0 c1 c2 W;rw[L]at c0;have E:=Ag.new w #[V X 5,V X x.num,jC x.text,Y an o cn,Y p q s] 170;have j:=AE w<|EQ 5 x.num x.text an o cn p q s;have F:=P.below j;have aa:∃G,G=jK w (EQ 5 x.num x.text an o cn p q s):=⟨_,rfl⟩
 generalize x.num=ak at*;generalize x.text=d at*;go_enter func130,ntmps130
 go_wp2_with fail
 obtain⟨G,ab⟩:=aa;rw[<-ab]at E j F|-;refine(GK d _).mono ?_;rintro r ac ⟨rfl,u⟩;have y:=j.trans<|u.mono j.size;have g:=F.below u;obtain⟨al,q1,q2,ao,ap⟩:=Ap<|E.aA u NLN;by_cases h0: 0<=AH d Bn 0
 .have h:=Ab (show nmR ns ts d= .ok (BI<|AH d Bn 0) by rw[nmR,H8 h0]);generalize AH d Bn 0=z at h0 h;go_wp2_with fail
  refine(EU z _).mono ?_;rintro r w2 ⟨rfl,rfl⟩;go_wp2
  exact G2 (v:= jQ #[V X<|BI z,V X 0]) P3 rfl ⟨⟨_,_,rfl,.inl ⟨rfl,Aa h⟩⟩,y⟩
 .have h:=Ab (show nmR ns ts d=if 0<=AH d ns 0 then ofC 7 ts[(AH d ns 0).toNat]? else .error 7 by rw[nmR,H7 h0]);generalize AH d Bn 0=z at h0;go_wp2_with fail
  refine(Aa<|Ab<|My m C nn cc ns d ac g.c0 g.lt g.nl g.aJ g.nms).mono ?_;rintro r w2 ⟨rfl,H⟩;have I:=y.trans<|H.mono y.size;have k:=g.below H;have aq:=QB d ns 0 Oa;by_cases A: 0<=AH d ns 0
  .obtain⟨f,J⟩:∃f:Nat,AH d ns 0=f:=⟨(AH d ns 0).toNat,Oa⟩
   have K:f<T ts:=H2 k.dP;have l:=Ab (show nmR ns ts d= .ok ts[f] by rw[Aa h,H8 A,J,zS,zM K];rfl);rw[J];obtain⟨ar,au,ad,av,ae⟩:=k.dR.cells f K;have e1:=k.c1;rw[ad]at e1;have aw:(f:Int)<(D:Int):=H2 k.dR.len;generalize ts[f]=t at ae l;have ax: ¬ ((f:Int)<0):=Oa;go_wp2
   exact G2 (v:= jQ #[V X t,V X 0]) P3 rfl ⟨⟨_,_,rfl,.inl ⟨rfl,Aa l⟩⟩,I⟩
  .have l:=Ab (show nmR ns ts d= .error 7 by rw[Aa h,H7 A]);generalize AH d ns 0=f at A;go_wp2
   exact G2 (v:= jQ #[V X 0,V X 7]) P3 rfl ⟨⟨_,_,rfl,.inr ⟨Ob,Aa l⟩⟩,I⟩
theorem AgX (h: 8<=op/\op<=10)(b:M8)(i:Int)(k:Ex):ND op [cR<|Bz b k]=cR (Bz b<|.un i op k):=by
 rw[Bz];cases Bz b k with
 |error f=>rfl
 |ok a=>
   show ofC 9 (nz<|Eo op [a])=cR (ofO (9,i)<|nz<|By op [a]);rw[Ad8 op a h];cases nz (By op [a])<;>rfl
theorem Ad9 (h: 11<=op/\op<=26){c:M8}(g:∀d∈c,1<=d.cS/\d.cS<=4)(i:Int)(k l:Ex):ND op [cR<|Bz c k,cR<|Bz c l]=cR (Bz c<|.bin i op k l):=by
 rw[Bz];have j:=Qv g k;cases m:Bz c k with
 |error f=>rfl
 |ok a=>
   have:=j a m;cases Bz c l with
   |error f=>rfl
   |ok b=>
     show ofC 9 (nz<|Eo op [a,b])=cR (ofO (9,i)<|nz<|By op [a,b]);rw[AbY op a b h Oa];cases nz (By op [a,b])<;>rfl
theorem Aea {c:M8}(g:∀d∈c,1<=d.cS/\d.cS<=4)(i:Int)(k l m:Ex):ND 27 [cR<|Bz c k,cR<|Bz c l,cR<|Bz c m]=cR (Bz c<|.ite i k l m):=by
 rw[Bz];have h:=Qv g l;cases n:Bz c k with
 |error f=>rfl
 |ok a=>
   cases j:Bz c l with
   |error f=>rfl
   |ok b=>
     have:=h b j;cases Bz c m with
     |error f=>rfl
     |ok d=>
       show ofC 9 (nz<|Eo 27 [a,b,d])=cR (ofO (9,i)<|nz<|By 27 [a,b,d]);rw[AbZ a b d Oa];cases nz (By 27 [a,b,d])<;>rfl
theorem Wz (a:L3)(n c:Nat)(N:L6)(H:∀x∈N,FdX x)(r:Nat)(D:L3)(nn cc:Nat)(ns:L4)(A:L3)(B C:Nat)(ts:L2)(F:∀d∈CB ns ts,1<=d.cS/\d.cS<=4){i:Nat}{e:Ex}(t:AZ N i e):
  ∀w,IN w a n c N->Ltm w r D nn cc ns A B C ts->
  Calls jZ 130 #[Y a n c,jc X i,jP<|Q<|jA r 0 U] w (NdC (cR<|Bz (CB ns ts) e) w):=by
 have E:∀{i:Nat} {x:Nd},N[i]? =Q x->FdX x:=λhx=>H _<|zn hx;have leaf:∀{i:Nat} {x:Nd},N[i]? =Q x->Iy x.op->x.aD=[]->∀w,IN w a n c N->Calls jZ 130 #[Y a n c,jc X i,jP<|Q<|jA r 0 U] w (NdC (ND x.op []) w):=λ{i x} hx b q w p=>
  Mu a n c N r w p i x hx b (WA b (E hx).1) [] (by rw[q];rfl) (λj h=>H9 h<|by rw[q];simp)
 have L:∀{i:Nat} {x:Nd} {os:N9},N[i]? =Q x->Iy x.op->∀w,IN w a n c N->Ltm w r D nn cc ns A B C ts->T os=T x.aD->
   (∀(j:Nat) (y:Int) (o:Rc),x.aD[j]? =Q y->os[j]? =Q o->∀z,IN z a n c N->Ltm z r D nn cc ns A B C ts->Calls jZ 130 #[Y a n c,jc X y,jP<|Q<|jA r 0 U] z (NdC o z))->
   Calls jZ 130 #[Y a n c,jc X i,jP<|Q<|jA r 0 U] w (NdC (ND x.op os) w):=λ{i x os} hx b w p s hl V=>
  Mu a n c N r w p i x hx b (WA b (E hx).1) os hl (λj h I z G=>V j _ _ (zM h) (zM I) z (p.below G NLN)<|s.below G)
 induction t with
 |int h b q=>intro w p _;have:=leaf h (by rw[b];unfold Iy;omega) q w p;rw[b]at this;exact this
 |text h b q=>intro w p _;have:=leaf h (by rw[b];unfold Iy;omega) q w p;rw[b]at this;exact this
 |bool h b q=>intro w p _;have:=leaf h (by rw[b];unfold Iy;omega) q w p;rw[b]at this;exact this
 |set h b q _ _ _=>intro w p _;have:=leaf h (by rw[b];unfold Iy;omega) q w p;rw[b]at this;exact this
 |@name i x h b q=>
   intro w p s;rw[<-AiO ns ts s.dP]
   grind [Wx]
 |attr h b q=>intro w p _;exact WB a n c N r w p _ _ h b
 |@lett i x h b q=>
   intro w p s;have h0:=(E h).2 b;rw[show cR (Bz (CB ns ts)<|.lett i x.num)=ofC 7 ts[x.num.toNat]? by rw[Bz,Ad7 s.dP,H8 h0];cases ts[x.num.toNat]?<;>rfl];exact WC a n c N r w p _ _ h b h0 A B C ts s.c1 s.lt s.dR
 |@un i k x e h b q hi t M=>
   intro w p s;rw[<-AgX b]
   grind [Iy]
 |@bin i k l x e f h b q hi t u J K=>
   intro w p s;rw[<-Ad9 b F]
   grind [Iy]
 |@ite i k l m x e f g h b q hi t u v J K O=>
   intro w p s;rw[<-Aea F,<-b]
   grind [Iy]
set_option maxHeartbeats 3200000
def Ed:Nat->N9->Except (Int×Int) L2
 |_,[]=> .ok []
 |f,.error c ::_=> .error (c,f)
 |f,.ok t ::r=>(Ed (f+1) r).map (t :: ·)
theorem NG {f:Nat}{t:Int}{r:N9}{K:L2}(h:Ed f (.ok t ::r)= .ok K):∃a,Ed (f+1) r= .ok a/\K=t ::a:=by
 rw[Ed]at h;cases b:Ed (f+1) r with
 |error c=>rw[b]at h;cases h
 |ok a=>rw[b]at h;cases h;exact⟨a,rfl,rfl⟩
theorem WD:∀{os:N9} {f:Nat} {K:L2},Ed f os= .ok K->T K=T os
 |[],f,K,h=>by cases h;rfl
 |.error c ::_,f,K,h=>Qy
 |.ok t ::r,f,K,h=>by
  obtain⟨b,a,rfl⟩:=NG h;rw[List.length_cons,List.length_cons,WD a]
def Ail (K:L2) (f:Nat):Rc->Except (Int×Int) L2
 |.ok t=> .ok (K++[t])
 |.error c=> .error (c,f)
theorem TD (o:Rc):∀(os:N9) (f:Nat) (K:L2),Ed f os= .ok K->Ed f (os++[o])=Ail K (f+T os) o
 |[],f,K,h=>by cases h;cases o<;>rfl
 |.error c ::_,f,K,h=>Qy
 |.ok t ::r,f,K,h=>by
  obtain⟨a,b,rfl⟩:=NG h;have e:f+1+T r=f+(T r+1):=Oa;rw[List.cons_append,Ed,TD o r (f+1) a b,List.length_cons,e];cases o<;>rfl
theorem QC (B:N9):∀(A:N9) (f:Nat),Ed f (A++B)=(Ed f A).bind λl=>(Ed (f+T A) B).map (l++ ·)
 |[],f=>by simp only[List.nil_append,Ed,List.length_nil,zX];cases Ed f B<;>rfl
 |.error c ::_,f=>rfl
 |.ok t ::r,f=>by
  have e:f+1+T r=f+(T r+1):=Oa;rw[List.cons_append,Ed,Ed,QC B r<|f+1,List.length_cons,e];cases Ed (f+1) r with
  |error c=>rfl
  |ok l=>
    show Except.map (t :: ·) ((Ed (f+(T r+1)) B).map (l++ ·))=(Ed (f+(T r+1)) B).map ((t ::l)++ ·);cases Ed (f+(T r+1)) B<;>rfl
theorem Y7 (os:N9)(f:Nat)(k:Nat){c:Int×Int}(h:Ed f (os.take k)= .error c):Ed f os= .error c:=by
 have e:=QC (os.drop k) (os.take k) f;rw[z8,h]at e;exact e
def Ge (Es:L8) (D:M8) (i:Nat):Rc:=match Es[i]? with
 |some e=>cR<|Bz D e
 |none=> .error 0
theorem Nms.aM {a:L3}{L:L4}(h:Nms w a L)(k:GL w v w' v')(f:∀x,a=Q x->Q (jT x)≠jL v):Nms w' a L:=λj g=>by
 obtain⟨b,i,c,d,c0⟩:=h j g;exact⟨b,i,c,zL d k.2.2,(G9 (w:=w)<|k.1 b d<|f _ c).trans c0⟩
theorem Ltm.aM {w w':jB}{v v':jF}{a:Nat}{b:L3}{nn cc:Nat}{ns:L4}{c:L3}{d f:Nat}{ts:L2}(h:Ltm w a b nn cc ns c d f ts)(k:GL w v w' v')(h5:Q a≠jL v)(g:∀x,c=Q x->Q (jT x)≠jL v)(i:∀x,b=Q x->Q (jT x)≠jL v):Ltm w' a b nn cc ns c d f ts:=
 ⟨(G9 (w:=w)<|k.1 a h.lt h5).trans h.c0,(G9 (w:=w)<|k.1 a h.lt h5).trans h.c1,zL h.lt k.2.2,h.nms.aM k i,h.nl,h.aJ,h.dR.aM k g,h.dP⟩
def TrX (B:Nat) (tv:jF) (tt:L2) (o:Except (Int×Int) L2) (w:jB) (r:Ending) (w':jB):Prop:=
 (∃ys v',o= .ok ys/\r=jN (jQ #[v',jM #[V X 0,V X 0]])/\jO w' B 3 1 v' (T<|tt++ys) (Ak<|tt++ys)/\GL w tv w' v'/\Below B w w')\/
 (∃ (f:Int×Int) (v':jF),o= .error f/\r=jN (jQ #[v',jM #[V X f.1,V X f.2]])/\(v'=Y U 0 0\/∃x n c,v'=Y x n c)/\f.1≠0/\Below B w w')
theorem WE (a:L3)(n c:Nat)(N:L6)(ay:∀x∈N,FdX x)(w0:jB)(az:IN w0 a n c N)(B:Nat)(aB:R (Z w0)<=B)(z:Nat)(aa:L3)(nn cc:Nat)(ns:L4)(ab:L3)(al ao:Nat)(ts:L2)(aC:∀d∈CB ns ts,1<=d.cS/\d.cS<=4)(Es:L8)(aY:T Es=n)(aD:∀j,(h:j<T Es)->AZ N j Es[j])
  (f m:Nat)(aZ:f+m<=n)(a0: 1<=f+m)(bt:n<=4000)(A:jF)(tt:L2)(bu:T tt<=4000)(w:jB)(aE:Ai w0 w)(y:B<=R (Z w))(aF:Ltm w z aa nn cc ns ab al ao ts)(h5:Q z≠jL A)(a1:∀x,ab=Q x->Q (jT x)≠jL A)(a2:∀x,aa=Q x->Q (jT x)≠jL A)(ac:jO w B 3 1 A (T tt)<|Ak tt):
  Calls jZ 100 #[Y a n c,V X f,V X ((f+m:Nat)-1 :Int),jP<|Q<|jA z 0 U,A] w (TrX B A tt (Ed f<|(List.range' f m).map<|Ge Es<|CB ns ts) w):=by
 obtain⟨a3,a4,a5,a6,a7⟩:=info_parts If;obtain⟨ad,ae,rfl,_⟩:=Ae ac;have aG:∀k,k<m->∀s,Ai w0 s->Ltm s z aa nn cc ns ab al ao ts->Calls jZ 130 #[Y a n c,V X ((f+k:Nat):Int),jP<|Q<|jA z 0 U] s (NdC (Ge Es (CB ns ts)<|f+k) s):=λk bv s q1 q2=>by
  have aH:f+k<T Es:=Oa;rw[Ge,zM aH];exact Wz a n c N ay z aa nn cc ns ab al ao ts aC (aD (f+k) aH) s (az.below q1 NLN) q2
 have a8:=Ab aG;have a9:=Ab aE;obtain⟨os,H⟩:∃os,os=(List.range' f m).map (Ge Es (CB ns ts)):=⟨_,rfl⟩
 have ba:=Ab (show ∀k,(h:k<m)->∃C:k<T os,os[k]=Ge Es (CB ns ts) (f+k)from λk h=>⟨by rw[H];simpa using h,by simp[H]⟩);have bb:=Ab (show T os=m by rw[H];simp);rw[<-H];have af:=Ag.new w #[V X 0,V X 0] 109;have I:=AE w<|jH #[V X 0,V X 0] 109;have aI:=ac.alloc<|jH #[V X 0,V X 0] 109;have ap:R (Z<|jK w<|jH #[V X 0,V X 0] 109)=R (Z w)+1:=Ox;have aJ:=aF.below I;have aK:Q (R<|Z w)≠jL (Value.slice ad (T tt) ae):=λe=>H2<|(ac.lt _ e.symm).2;have aL:∀s v,GL (jK w<|jH #[V X 0,V X 0] 109) (Y ad (T tt) ae) s v->GL w (Y ad (T tt) ae) s v:=λs v k=>
  ⟨λj J C=>(k.1 j Oa C).trans<|Below.heap_alloc w _ j J,λq hq=>by obtain e|e:=k.2.1 q hq;exact .inl e;right;omega,H2 k.2.2⟩
 have aN:=Ab aL;clear H aG aD aY aE az ay ac aF aC aL;obtain⟨ag,aq⟩:∃ag:Int,ag=(f+m:Nat)-1:=⟨_,rfl⟩
 rw[<-aq];have aO:=Ab aq;have aP:=Ab (Oa:f+m<=4000);clear aq aZ a0;go_enter func100,ntmps100
 go_wp2_with fail
 generalize jK w (jH #[V X 0,V X 0] 109)=aQ at af I aI ap aJ aN|-;have bc:=Ab ap;clear ap;go_loopw [4,12] (λv i wr=>∃ (j b:Nat) (K l:L2),Hid (j<=m/\b=f+j/\l=tt++K)/\i=V X b/\jO wr B 3 1 v (T l) (Ak l)/\Hid (Ed f (os.take j)= .ok K)/\Below B aQ wr/\GL aQ (Y ad (T tt) ae) wr v) (λ_ i _=>f+m-(intOf i).toNat)
 case atStart=>exact⟨0,f,[],tt,Ab ⟨zE _,rfl,Ox⟩,rfl,aI,Ab rfl,BRN,GL.refl _ _⟩
 case round=>
  obtain⟨j,b,K,l,o,rfl,ah,ar,ai,L⟩:=hrel;have bw:T l<=8000:=by have J:=WD<|Aa ar;have C:=Aa o;have h3:=Aa aP;rw[zg]at J;rw[C.2.2,zC];omega
  have bd:Ai w0 wr:=((Aa a9).trans<|I.mono<|zB aB y).trans<|ai.mono aB;have aR:B<=R (Z wr):=zB (H2<|Aa bc) ai.size;have aj:Ag wr (R<|Z w) #[V X 0,V X 0] 109:=⟨(L.1 _ af.lt aK).trans af.out⟩
  by_cases ak:j<m
  .have bf:(b:Int)<=ag:=by have:=Aa o;have:=Aa aO;omega
   have M:=Ab<|Aa a8 j ak wr bd<|aJ.aM L h5 a1 a2;obtain⟨aS,au⟩:=Aa ba j ak;have D:=Ab (show Ed f (os.take<|j+1)=Ail K (f+j) os[j] by rw[zT aS,TD _ _ _ _<|Aa ar,zg,Nat.min_eq_left Oa]);have O:=Ab (show ∀c,os[j]= .error c->Ed f os= .error (c,((f+j:Nat):Int))from λc e=>Y7 os f (j+1)<|by rw[Aa D,e];rfl);rw[au]at D O;have aT:=Ab ak;have bx:b<=4000:=by have:=Aa o;have:=Aa aP;omega
   generalize Ge Es (CB ns ts) (f+j)=bz at M D O au;rw[<-(Aa o).2.1]at M;obtain⟨E,F,rfl,_⟩:=Ae ah;clear aS ak au;go_wp2_with fail
   refine(Aa M).mono ?_;rintro r w2 ⟨⟨ty,t,rfl,bg⟩,G⟩;have aU:=ai.trans<|G.mono aR;have aV:=Aj ah G NLN;have KB:GL wr (Y E (T l) F) w2<|Y E (T l) F:=⟨λk h _=>G.block k h,λq h=> .inl h,G.size⟩
   have P:=L.trans KB;have av:=aj.aA G NLN;have bh:B<=R (Z w2):=zB aR G.size;obtain⟨rfl,rfl⟩|⟨hc,rfl⟩:=bg
   .have bi:=Ab<|show Ed f (os.take<|j+1)= .ok (K++[ty])from Aa D;clear D O M;go_wp2_with (at_builtin;refine G6 _ rfl _ _ 44 rfl B 3 a3 (V X 0) 1 8 underlying44 a4 a5 a6 a7 rfl Ob _ _ _ rfl (G1 aV _) ⟨R<|Z w2,0,U⟩ 1 1 [V X ty] rfl rfl ?c1 ?c2 Ob ?c3 ?c4 ?c5 (R (Z w2)+1) Ox ?_)
    case c1=>exact DP _ _ _ _ Ox
    case c2=>intro u hu;simp at hu;subst hu;rfl
    case c3=>unfold maxLen;omega
    case c4=>omega
    case c5=>simp;omega
    intro g cap bA aW aw hat bB;have bj:=P.trans<|EK (n:=T l+1) (c:=cap) aw hat;have bk:=(aU.alloc bh<|jH #[V X ty] 3).grown aw O0 λq hq=>(aV.lt q hq).1;have bl:=Fp aW;clear aw hat aW;go_wp2
    go_roundw
    case rel=>exact⟨j+1,b+1,K++[ty],l++[ty],Ab ⟨Aa aT,H2<|Aa o,by rw[(Aa o).2.2,zl]⟩,O1,bl,bi,bk,bj⟩
    case measure=>have:=Aa aT;have:=Aa o;simp[intOf];omega
   .have ec:(t !=0)=jD:=zV.2 hc;have bm:=Ab (show Ed f os= .error (t,(b:Int)) by rw[(Aa o).2.1];exact Aa O t rfl);have bn:=Ab hc;clear hc D O M;obtain⟨bo,bp⟩:=Bo av;have br:=λj=>av.frozen j;have S:=av.set 0<|V X t;have f1:=λj=>S.frozen j;have W:=S.set 1<|V X b;have ax:jI (jJ (jJ w2 ⟨R<|Z w,0,U⟩<|V X t) ⟨R<|Z w,1,U⟩<|V X b) ⟨R<|Z w,0,U⟩=Q (V X t):=W.cell 0;have s1:jI (jJ (jJ w2 ⟨R<|Z w,0,U⟩<|V X t) ⟨R<|Z w,1,U⟩<|V X b) ⟨R<|Z w,1,U⟩=Q (V X b):=W.cell 1;go_wp2_with fail
    refine G2 (v:= jQ #[Y E (T l) F,jM #[V X t,V X b]]) (by simp[results,results100,go_sem,ax,s1]) rfl (.inr ⟨_,_,Aa bm,rfl,.inr ⟨_,_,_,rfl⟩,Aa bn,?_⟩)
    exact(((I.mono y).trans aU).setCell (p:=⟨R<|Z w,0,U⟩) y _).setCell (p:=⟨R<|Z w,1,U⟩) y _
  .have e:j=m:=H2<|Aa o;have bf: ¬ ((b:Int)<=ag):=by have:=Aa o;have:=Aa aO;omega
   subst e;have bs:=Ab (show Ed f os= .ok K by rw[<-Aa ar,zf<|by rw[Aa bb];exact NLN]);obtain⟨E,F,rfl,_⟩:=Ae ah;obtain⟨bo,bp⟩:=Bo aj;have br:=λj=>aj.frozen j;have S:=aj.set 0<|V X 0;have f1:=λj=>S.frozen j;have W:=S.set 1<|V X 0;have ax:jI (jJ (jJ wr ⟨R<|Z w,0,U⟩<|V X 0) ⟨R<|Z w,1,U⟩<|V X 0) ⟨R<|Z w,0,U⟩=Q (V X 0):=W.cell 0;have s1:jI (jJ (jJ wr ⟨R<|Z w,0,U⟩<|V X 0) ⟨R<|Z w,1,U⟩<|V X 0) ⟨R<|Z w,1,U⟩=Q (V X 0):=W.cell 1;have P:=Aa aN _ _ L;have aX:∀q,jL (Value.slice E (T l) F)=Q q->q≠R (Z w):=λq hq e=>by
    subst e;obtain e2|e2:=L.2.1 _ hq
    .exact aK e2.symm
    .have:=af.lt;omega
   go_wp2_with fail
   refine G2 (v:= jQ #[Y E (T l) F,jM #[V X 0,V X 0]]) (by simp[results,results100,go_sem,ax,s1]) rfl (.inl ⟨K,_,Aa bs,rfl,?_,?_,?_⟩)
   .rw[<-(Aa o).2.2];exact Ah (Ah ah _ _ aX) _ _ aX
   .exact⟨λk J C=>((H5 (Oa:k≠R (Z w))).trans<|H5 (Oa:k≠R (Z w))).trans<|P.1 k J C,P.2.1,by have:=P.2.2;simpa using this⟩
   .exact(((I.mono y).trans ai).setCell (p:=⟨R<|Z w,0,U⟩) y _).setCell (p:=⟨R<|Z w,1,U⟩) y _
section
open Go.RowKit Go.Extern.Stop Go.Stop Go.Extern
variable{aX a1 a2 a3 a4 a5 a6 a7 a8 a9:jG}
end
abbrev CkR:=Except (Int×Int)<|L6×L9×L2
theorem Ka {f:Int×Int}{o:N7}{g:Int×Int}(h:ofO f o= .error g):g=f:=by
 cases o with
 |none=>cases h;rfl
 |some t=>cases h
theorem Ad4:Wst (Ju,[],[]):=λd hd=>by
 simp only[Ju,zh,List.not_mem_nil,or_false]at hd;obtain rfl|rfl|rfl|rfl|rfl|rfl:=hd<;>decide
def Gh (D:M8) (e:Ex):Except (Int×Int) L2:=match Bz D e with
 |.ok _=> .ok (DE D e)
 |.error f=> .error f
theorem AZ.cY {i:Nat}{e:Ex}(t:AZ N i e):∀{f:Ex},AZ N i f->∀ts:M8,Bz ts e=Bz ts f/\DE ts e=DE ts f:=by
 induction t with
 |int h d b=>grind [AZ.cC]
 |text h d b=>grind [AZ.cC]
 |bool h d b=>grind [AZ.cC]
 |name h d b=>grind [AZ.cC]
 |attr h d b=>grind [AZ.cC]
 |lett h d b=>grind [AZ.cC]
 |set h d b a n c=>intro f u ts;obtain⟨o,r⟩|⟨o,r⟩|⟨o,r⟩|⟨o,r⟩|⟨o,r⟩|⟨o,r⟩|⟨o,r⟩|⟨o,r⟩|⟨o,r⟩|⟨o,r⟩:=u.cC h<;>first|omega|(obtain⟨_,_,_,r⟩:=r;subst r;exact⟨rfl,rfl⟩)
 |un h d b hi t x=>grind [Bz,DE,AZ.cC]
 |bin h d b hi t u j k=>
   intro f v ts;obtain⟨o,r⟩|⟨o,r⟩|⟨o,r⟩|⟨o,r⟩|⟨o,r⟩|⟨o,r⟩|⟨o,r⟩|⟨o,r⟩|⟨o,l,m,p,q,g,s,w,r⟩|⟨o,r⟩:=v.cC h<;>first|omega|skip
   subst r;rw[b]at g;simp only[List.cons.injEq,and_true,Int.natCast_inj]at g
   grind [Bz,DE]
 |ite h d b hi t u v j k y=>
   intro f z ts;obtain⟨o,r⟩|⟨o,r⟩|⟨o,r⟩|⟨o,r⟩|⟨o,r⟩|⟨o,r⟩|⟨o,r⟩|⟨o,r⟩|⟨o,r⟩|⟨o,l,m,A,p,q,B,g,s,w,v',r⟩:=z.cC h<;>first|omega|skip
   subst r;rw[b]at g;simp only[List.cons.injEq,and_true,Int.natCast_inj]at g
   grind [Bz,DE]
def Dt (D:M8):L8->Except (Int×Int) L2
 |[]=> .ok []
 |e ::r=>(Gh D e).bind λk=>(Dt D r).map λl=>k++l
def Aeb (N:L6):N6->L8->Prop
 |[],[]=>True
 |q ::qs,e ::es=>AZ N q e/\Aeb N qs es
 |_,_=>False
theorem AZ.kidsX {i:Nat}{e:Ex}(t:AZ N i e){x:Nd}(hx:N[i]? =Q x):∃g:N6,x.aD=g.map (λ(q:Nat)=>(q:Int))/\Aeb N g e.aD:=by
 have d:∀{y:Nd},N[i]? =Q y->y=x:=λk=>K7<|k.symm.trans hx;cases t with
 |int h f b=>obtain rfl:=d h;exact⟨[],b,trivial⟩
 |text h f b=>obtain rfl:=d h;exact⟨[],b,trivial⟩
 |bool h f b=>obtain rfl:=d h;exact⟨[],b,trivial⟩
 |set h f b a n c=>obtain rfl:=d h;exact⟨[],b,trivial⟩
 |name h f b=>obtain rfl:=d h;exact⟨[],b,trivial⟩
 |attr h f b=>obtain rfl:=d h;exact⟨[],b,trivial⟩
 |lett h f b=>obtain rfl:=d h;exact⟨[],b,trivial⟩
 |@un _ k _ _ h f b hi t=>obtain rfl:=d h;exact⟨[k],b,t,trivial⟩
 |@bin _ k l _ _ _ h f b hi t u=>obtain rfl:=d h;exact⟨[k,l],b,t,u,trivial⟩
 |@ite _ k l m _ _ _ _ h f b hi t u v=>obtain rfl:=d h;exact⟨[k,l,m],b,t,u,v,trivial⟩
theorem Aec (g:M8):∀(e:Ex),Gh g e=(Dt g e.aD).bind λl=>match Bz g e with
  |.ok t=> .ok (l++[t])
  |.error f=> .error f
 |.int ..| .text ..| .bool ..| .set ..| .attr .. =>rfl
 |.lett i s=>by
  simp only[Ex.aD,Dt,Gh,DE];cases h:Bz g (.lett i s)<;>rfl
 |.name i s=>by
  simp only[Ex.aD,Dt,Gh,DE];cases h:Bz g (.name i s)<;>rfl
 |.un i op k=>by
  cases h:Bz g k with
  |error f=>simp[Ex.aD,Dt,Gh,Bz,h,Except.bind]
  |ok a=>
   simp only[Ex.aD,Dt,Gh,DE,h];cases m:Bz g (.un i op k)<;>simp[Except.bind,Except.map,gX]
 |.bin i op l r=>by
  cases h:Bz g l with
  |error f=>simp[Ex.aD,Dt,Gh,Bz,h,Except.bind]
  |ok a=>
   cases j:Bz g r with
   |error f=>simp[Ex.aD,Dt,Gh,Bz,h,j,Except.bind,Except.map]
   |ok b=>
    simp only[Ex.aD,Dt,Gh,DE,h,j];cases m:Bz g (.bin i op l r)<;>simp[Except.bind,Except.map,gX]
 |.ite i c t e=>by
  cases h:Bz g c with
  |error f=>simp[Ex.aD,Dt,Gh,Bz,h,Except.bind]
  |ok a=>
   cases j:Bz g t with
   |error f=>simp[Ex.aD,Dt,Gh,Bz,h,j,Except.bind,Except.map]
   |ok b=>
    cases h3:Bz g e with
    |error f=>simp[Ex.aD,Dt,Gh,Bz,h,j,h3,Except.bind,Except.map]
    |ok d=>
     simp only[Ex.aD,Dt,Gh,DE,h,j,h3];cases m:Bz g (.ite i c t e)<;>simp[Except.bind,Except.map,gX]
theorem AZ.pos {N:L6}{i:Nat}{e:Ex}(t:AZ N i e):e.pos=i:=by cases t<;>rfl
theorem Ab0 (c:M8):∀(e:Ex) {l:L2} {f:Int×Int},Dt c e.aD= .ok l->Bz c e= .error f->f.2=e.pos
 |.int ..,_,_,_,h=>Qy
 |.text ..,_,_,_,h=>Qy
 |.bool ..,_,_,_,h=>Qy
 |.set ..,_,_,_,h=>Qy
 |.name i s,_,_,_,h=>by rw[Ka h];rfl
 |.attr ..,_,_,_,h=>Qy
 |.lett i s,_,_,_,h=>by rw[Ka h];rfl
 |.un i op k,l,f,hk,h=>by
  simp only[Ex.aD,Dt,Gh]at hk;rw[Bz]at h;cases j:Bz c k with
  |error g=>rw[j]at hk;cases hk
  |ok a=>rw[j]at h;rw[Ka h];rfl
 |.bin i op k m,l,f,hk,h=>by
  simp only[Ex.aD,Dt,Gh]at hk;rw[Bz]at h;cases j:Bz c k with
  |error g=>rw[j]at hk;cases hk
  |ok a=>
    rw[j]at h hk;cases o:Bz c m with
    |error g=>rw[o]at hk;cases hk
    |ok b=>rw[o]at h;rw[Ka h];rfl
 |.ite i k m n,l,f,hk,h=>by
  simp only[Ex.aD,Dt,Gh]at hk;rw[Bz]at h;cases j:Bz c k with
  |error g=>rw[j]at hk;cases hk
  |ok a=>
    rw[j]at h hk;cases o:Bz c m with
    |error g=>rw[o]at hk;cases hk
    |ok b=>
      rw[o]at h hk;cases h3:Bz c n with
      |error g=>rw[h3]at hk;cases hk
      |ok d=>rw[h3]at h;rw[Ka h];rfl
theorem Y8 {Es:L8}(m:T Es=T N)(E:∀j,(h:j<T Es)->AZ N j Es[j])(ts:M8){a:Nat}{d:List (Nat×Nat)}(h:Av (N.map Nd.aD) a d b):∀(c:L8),Aeb N (d.map λp=>p.1) c->Ed a ((List.range' a<|b-a).map<|Ge Es ts)=Dt ts c:=by
 induction h with
 |nil a=>
   intro c hF
   match c,hF with
   |[],_=>simp[Ed,Dt]
 |@cons a t b g d n ht q r i2=>
   intro c hF
   match c,hF with
   |e ::c,⟨he,hr⟩=>
     obtain⟨x,hx,s⟩:∃x,N[t]? =Q x/\x.aD=Au g:=S4;obtain⟨u,hq,v⟩:=he.kidsX hx;have e1:g.map (λp=>p.1)=u:=by
      have:=s.symm.trans hq;rw[Au]at this;have w:=congrArg (List.map Int.toNat) this;simpa[List.map_map,Function.comp_def]using w
     have y:=r e.aD (by rw[e1];exact v);have z:=i2 c hr;have F:=n.le;have G:=q.le;have A:List.range' a (b-a)=List.range' a (t-a)++t ::List.range' (t+1) (b-(t+1)):=by
      have e2:b-a=(t-a)+(1+(b-(t+1))):=Oa;rw[e2,<-List.range'_append_1,<-List.range'_append_1]
      grind
     have H:t<T Es:=by rw[m];exact he.lt
     have en:Ge Es ts t=cR (Bz ts e):=by grind [Ge,AZ.cY,cR]
     have K:=Aec ts e;have B:a+T (List.map (Ge Es ts)<|List.range' a<|t-a)=t:=O0;rw[A,zk,List.map_cons,QC,y,en,B];simp only[Dt];rw[K];cases C:Dt ts e.aD with
     |error f=>rfl
     |ok l=>
       cases D:Bz ts e with
       |error f=>
         have i:=Ab0 ts e C D;rw[he.pos]at i;show(Except.error (f.1,(t:Int)):Except (Int×Int) L2)= .error f;rw[<-i]
       |ok o=>
         show(Except.map (l++ ·) ((Ed (t+1)<|(List.range' (t+1)<|b-(t+1)).map<|Ge Es ts).map (o :: ·)))=(Dt ts c).map λk=>(l++[o])++k;rw[z];cases Dt ts c<;>simp[Except.map]
theorem Kb {Es:L8}(l:T Es=T N)(f:∀j,(h:j<T Es)->AZ N j Es[j]){a:Nat}{S:List (Nat×Nat)}(hF:Av (N.map Nd.aD) a S b)(m:b<=T N):a+((Au S).map<|Bv Es).sum=b:=by
 have c:∀q∈S,q.1<T Es:=λq hq=>H2<|(hF.lt q hq).2;have g:=Jw hF (S.attach.map λq=>Es[q.1.1]'(c q.1 q.2)) Ox (λj d i=>by
  have:=f (S[j]).1<|c _<|zI d;simpa using this)
 have e2:(Au S).map (Bv Es)=(S.attach.map λq=>Es[q.1.1]'(c q.1 q.2)).map Ex.aL:=by
  apply List.ext_getElem
  .simp[Au]
  .intro j d i;have k:j<T S:=by simpa[Au]using d
   have hq:=c S[j]<|zI k;simp only[Au,List.getElem_map,List.getElem_attach];exact Jx rfl (zM hq)
 rw[e2];exact g
def Aed (Es:L8) (f:Nat) (e:Ex):Prop:=∀D,Ed f ((List.range' f e.aL).map<|Ge Es D)=Gh D e
def Ii (Es:L8) (c:Nat) (k:Int):Prop:=k= -1\/∃ (mm:Nat) (e:Ex),k=mm/\Es[mm]? =Q e/\c+e.aL=mm+1/\Aed Es c e
theorem QD {Es:L8}(b:T Es=T N)(a:∀j,(h:j<T Es)->AZ N j Es[j]){S:List (Nat×Nat)}(hF:Av (N.map Nd.aD) 0 S<|T N){d l:L2}{x:Int}(h:Au S=d++x ::l):Ii Es ((d.map<|Bv Es).sum) x:=by
 rw[Au]at h;obtain⟨s,S2,rfl,m,n⟩:=List.map_eq_append_iff.1 h;obtain⟨p,t,rfl,h3,u⟩:=List.map_eq_cons_iff.1 n;obtain⟨c,o,f⟩:=hF.split;have hc:=Kb b a o<|H2 f.le;have v:=(f.lt p (za ..)).2;have e1:c=(d.map<|Bv Es).sum:=by rw[<-m];rw[Au]at hc;omega
 have g:p.1<T Es:=Oa;have i:Av (N.map Nd.aD) c [p]<|p.1+1:=by
  cases f with
  |cons q ht w=>exact .cons q ht<|.nil _
 have y:=Kb b a i Oa;have z:Bv Es (p.1:Nat)=Es[p.1].aL:=Jx rfl (zM g);have r:c+Es[p.1].aL=p.1+1:=by grind [Au]
 rw[<-e1];refine .inr ⟨p.1,Es[p.1],h3.symm,zM g,r,λts=>?_⟩;have k:=Y8 b a ts i [Es[p.1]] ⟨a p.1 g,trivial⟩;rw[(Oa:p.1+1-c=Es[p.1].aL)]at k;rw[k,Dt,Dt];cases Gh ts Es[p.1]<;>simp[Except.bind,Except.map]
theorem Mz (h:GM N L=jD):∃S,Av (N.map Nd.aD) 0 S (T N)/\Au S=L.flatMap Ao:=by
 simp only[GM,zF,zG]at h;obtain⟨⟨⟨d,⟨f,h3⟩,g⟩,h5⟩,a⟩:=h;obtain⟨S,b,ht⟩:∃S,Fk (N.map Nd.aD) (T N) [] 0=Q S/\Au S=L.flatMap Ao:=by
  rw[GN]at a
  grind
 obtain⟨hF,_⟩:=CZ (T N) (.nil 0) (λp c=>(by cases c)) b
 grind
def noC (L:L9):Prop:=∀s∈L,s.cond= -1\/s.aC≠3
theorem Aee.noC (a:Aee N L):noC L:=λs hs=>by
 obtain q|q|q:=a.stm s hs
 .right;omega
 .right;omega
 .exact .inl q.2
theorem QE (b:noC L)(Es:L8):∀s∈L,Bv Es s.cond+Bv Es s.aG=((Ao s).map<|Bv Es).sum:=λs hs=>by
 have c:Bv Es s.aG=((if s.aG≠-1 then [s.aG]else []).map<|Bv Es).sum:=by
  by_cases g:s.aG= -1
  .rw[H7 λk=>k g,g];rfl
  .rw[H8 g];simp
 rw[Ao,zk,List.sum_append,<-c]
 congr 1
 by_cases a:s.aC=3
 .rw[H7 λk=>k a];obtain q|q:=b s hs
  .rw[q];rfl
  .exact H9 a q
 .rw[H8 a];simp
theorem WF (a:noC L){S:List (Nat×Nat)}(hF:Av (N.map Nd.aD) 0 S<|T N)(ht:Au S=L.flatMap Ao){Es:L8}(b:T Es=T N)(c:∀j,(h:j<T Es)->AZ N j Es[j]):DJ Es L=T N:=by grind [Kb,J9,QE]
theorem NH (h:GM N L=jD){Es:L8}(a:T Es=T N)(b:∀j,(h:j<T Es)->AZ N j Es[j]):DJ Es L=T N:=by
 obtain⟨S,hF,ht⟩:=Mz h;exact WF (QF h).noC hF ht a b
def LK (Es:L8) (L:L9):Prop:=∀k,(h:k<T L)->Ii Es (DJ Es<|L.take k) L[k].cond/\Ii Es (DJ Es (L.take k)+Bv Es L[k].cond) L[k].aG
theorem QG (b:noC L){S:List (Nat×Nat)}(hF:Av (N.map Nd.aD) 0 S<|T N)(ht:Au S=L.flatMap Ao){Es:L8}(c:T Es=T N)(d:∀j,(h:j<T Es)->AZ N j Es[j]):LK Es L:=λk f=>by
 have i:L=L.take k++L[k] ::L.drop (k+1):=by rw[List.getElem_cons_drop,z8]
 have e1:DJ Es (L.take k)=(((L.take k).flatMap Ao).map<|Bv Es).sum:=J9 Es _<|QE (λs hs=>b s<|Z9 hs) Es;have e2:Au S=(L.take k).flatMap Ao++(Ao L[k]++(L.drop<|k+1).flatMap Ao):=by
  rw[ht]
  conv=>lhs;rw[i]
  rw[List.flatMap_append,List.flatMap_cons]
 have hs:=zI f;generalize L[k]=s at e2 hs|-;have kc:=b s hs;rw[e1];refine⟨?_,?_⟩
 .obtain q|q:=kc
  .exact .inl q
  .rw[Ao,H8 q]at e2;exact QD c d hF e2
 .by_cases g:s.aG= -1
  .exact .inl g
  .have q2:Ao s=(if s.aC≠3 then [s.cond]else [])++[s.aG]:=by rw[Ao,H8 g]
   have e3:Au S=((L.take k).flatMap Ao++(if s.aC≠3 then [s.cond]else []))++s.aG ::(L.drop<|k+1).flatMap Ao:=by
    rw[e2,q2];simp
   have r:=QD c d hF e3;have e4:(((L.take k).flatMap Ao++(if s.aC≠3 then [s.cond]else [])).map<|Bv Es).sum=(((L.take k).flatMap Ao).map<|Bv Es).sum+Bv Es s.cond:=by
    rw[zk,List.sum_append]
    congr 1
    by_cases a:s.aC=3
    .rw[H7 λk=>k a];obtain q|q:=kc
     .rw[q];rfl
     .exact H9 a q
    .rw[H8 a];simp
   rw[e4]at r;exact r
theorem TE (h:GM N L=jD){Es:L8}(a:T Es=T N)(b:∀j,(h:j<T Es)->AZ N j Es[j]):LK Es L:=by
 obtain⟨S,hF,ht⟩:=Mz h;exact QG (QF h).noC hF ht a b
theorem Ab1 (a:M8):∀(e:Ex),∃l,DE a e=l++[gX<|Bz a e]
 |.int ..| .text ..| .bool ..| .set ..| .name ..| .attr ..| .lett .. =>⟨[],rfl⟩
 |.un _ _ _=>⟨_,rfl⟩
 |.bin _ _ _ _=>⟨_,rfl⟩
 |.ite _ _ _ _=>⟨_,rfl⟩
theorem AaA {a:M8}{tt:L2}{e:Ex}{b:Nat}{t:Int}(h:T tt+e.aL=b+1)(ht:Bz a e= .ok t):(tt++DE a e)[b]? =Q t:=by
 obtain⟨l,d⟩:=Ab1 a e;have c:=Ms a e;rw[d]at c|-;rw[zC,z1]at c;rw[<-zl,List.getElem?_append_right<|by rw[zC];omega,zC,(Oa:b-(T tt+T l)=0),ht];rfl
theorem AaB {a:M8}{e:Ex}{ys:L2}(h:Gh a e= .ok ys):∃t,Bz a e= .ok t/\ys=DE a e:=by grind [Bz,Gh]
theorem WG {a:M8}{e:Ex}{f:Int×Int}(h:Gh a e= .error f):Bz a e= .error f:=by grind [Bz,Gh]
theorem AaC {i t:Int}{ys:L2}(h:J8 st.1 nm=U):FM 1 nm st i (.ok t) ys= .ok (st.1++[⟨nm,jD,T st.2.1,t⟩],st.2.1++[t],st.2.2++ys):=by simp[FM,Ad3,h]
theorem NI {i t:Int}{ys:L2}(h:(J8 st.1 nm).isSome):FM 1 nm st i (.ok t) ys= .error (8,i):=by simp[FM,Ad3,h]
theorem WH {a:Int}{ys:L2}(b:a≠1):FM a nm st i (.ok 1) ys= .ok (st.1,st.2.1,st.2.2++ys):=by simp[FM,JP,b]
theorem TF {a:Int}{t:Int}{ys:L2}(b:a≠1)(ht:t≠1):FM a nm st i (.ok t) ys= .error (9,i):=by simp[FM,JP,b,ht]
theorem AaD {a:Int}{f:Int×Int}{ys:L2} :FM a nm st i (.error f) ys= .error f:=by
 unfold FM;split<;>rfl
theorem TG {c:Int}{a:M8} :JP c a ts tt i (.ok c) ys= .ok (a,ts,tt++ys):=by simp[JP]
def Ij (Es:L8) (st:Cs) (s:St):Except (Int×Int) Cs:=OD st ⟨0,s.aC,s.name,BU Es s.cond,BU Es s.aG⟩
def DR (Es:L8) (st:Cs) (s:St):Except (Int×Int) Cs:=IF st ⟨0,s.aC,s.name,BU Es s.cond,BU Es s.aG⟩
def Fb (Es:L8) (st:Cs) (s:St):Except (Int×Int) Cs:=(Ij Es st s).bind λs1=>DR Es s1 s
def Fc (Es:L8):Cs->L9->Except (Int×Int) Cs
 |st,[]=> .ok st
 |st,s ::L=>(Fb Es st s).bind λs1=>Fc Es s1 L
theorem AaE (Es:L8):∀(L:L9) (i:Nat) (st:Cs),Y4 st (OE Es i L)=Fc Es st L
 |[],i,st=>rfl
 |s ::L,i,st=>by
  rw[OE,Y4,Fc];show(Fb Es st s).bind _=_
  congr 1
  funext s1
  exact AaE Es L (i+1) s1
theorem QH (Es:L8):∀(L M:L9) (st:Cs),Fc Es st (L++M)=(Fc Es st L).bind λa=>Fc Es a M
 |[],M,st=>rfl
 |x ::L,M,st=>by
  rw[List.cons_append,Fc,Fc];cases Fb Es st x with
  |error f=>rfl
  |ok a=>exact QH Es L M a
theorem NJ (Es:L8)(s:St)(L:L9)(st:Cs):Fc Es st (L++[s])=(Fc Es st L).bind λa=>Fb Es a s:=by
 rw[QH]
 congr 1
 funext a
 rw[Fc];cases Fb Es a s<;>rfl
theorem Za (Es:L8)(L:L9)(st:Cs)(k:Nat){f:Int×Int}(h:Fc Es st (L.take k)= .error f):Fc Es st L= .error f:=by
 have e:=QH Es (L.take k) (L.drop k) st;rw[z8,h]at e;exact e
theorem Kc {Es:L8}{a:Cs}(h:Fc Es st L= .ok a):T a.2.2=T st.2.2+DJ Es L/\T a.2.1<=T st.2.1+T L/\(Wst st->Wst a):=by
 rw[<-AaE Es L 0]at h
 grind [Ww,Aay,US]
theorem QI {Es:L8}{b:Int}{a:Nat}{c:Int}{e:Ex}(he:Es[a]? =Q e):Ij Es st ⟨b,nm,a,c⟩=FM b nm st e.pos (Bz st.1 e) (DE st.1 e):=by
 have:BU Es (a:Int)=Q e:=by rw[BU,H7 Oa,zS,he]
 simp only[Ij,OD,this]
theorem OF {Es:L8}{a:Int} :DR Es st ⟨a,nm,i,-1⟩= .ok st:=by
 have:BU Es (-1)=U:=rfl;simp only[DR,IF,this]
theorem I9 {Es:L8}{b:Int}{a:Nat}{e:Ex}(he:Es[a]? =Q e):DR Es st ⟨b,nm,i,a⟩=JP 4 st.1 st.2.1 st.2.2 e.pos (Bz st.1 e) (DE st.1 e):=by
 have:BU Es (a:Int)=Q e:=by rw[BU,H7 Oa,zS,he]
 simp only[DR,IF,this]
theorem AaF (h:nm∈(Bn:L4)):(J8 (CB ns ts) nm).isSome:=by
 have h0:=(EM nm Bn 0<|zp 0).2 h
 grind [Mw,Jv,CB]
theorem AaG (a:T ns=T ts)(h:nm∈ns):(J8 (CB ns ts) nm).isSome:=by
 have h0:=(EM nm ns 0<|zp 0).2 h;rw[CB,Jv];cases b:J8 Ju nm with
 |some d=>rfl
 |none=>
   obtain⟨c,_⟩|⟨j,t,_,_,f⟩:=NE nm ns ts 0 a
   all_goals grind
theorem AaH (a:T ns=T ts)(d:nm ∉ (Bn:L4))(b:nm ∉ ns):J8 (CB ns ts) nm=U:=by
 rw[CB,Jv];obtain⟨_,e1⟩|⟨j,_,e1,_⟩:=Mw nm
 .rw[e1];obtain⟨_,e2⟩|⟨j,t,e2,_,_⟩:=NE nm ns ts 0 a
  .exact e2
  .exact H9 ((EM nm ns 0<|zp 0).1 (by have c:AH nm ns 0=((0+j:Nat):Int):=e2;rw[c];omega)) b
 grind [AH,Ju,Mw,EM,Jv,UT,Bn,NE,J8,BI,CB]
theorem WI (nm:K9)(t:Int):∀(ns:L4) (ts:L2) (k:Nat),T ns=T ts->UT k (ns++[nm]) (ts++[t])=UT k ns ts++[⟨nm,jD,((k+T ts:Nat):Int),t⟩]
 |[],[],k,_=>rfl
 |n ::ns,x ::ts,k,h=>by
  rw[List.cons_append,List.cons_append,UT,UT,WI nm t ns ts (k+1) Q6,List.cons_append,List.length_cons]
  congr 4
  omega
 |[],_ ::_,_,h=>Qy
 |_ ::_,[],_,h=>Qy
theorem QJ {t:Int}(a:T ns=T ts):CB ns ts++[⟨nm,jD,T ts,t⟩]=CB (ns++[nm]) (ts++[t]):=by grind [WI,CB]
theorem AaI:CB [] []=Ju:=by simp[CB,UT]
theorem Lm.readX {a:L3}{k f:Nat}(h:Lm B b ns ts tt v v' (Y a k f) w){i:Nat}{t:Int}(ht:tt[i]? =Q t):∃g,a=Q (jA g 0 U)/\jI w (jA g i U)=Q (V X t)/\(i:Int)<k:=by
 have hi:=(zP.1 ht).1;obtain⟨x,c,e,hx⟩:=Ae h.types
 grind [Ak]
theorem Lm.dC {a:Nat}{x:L3}{n c:Nat}{b:jF}(h:Lm B a ns ts tt (Y x n c) v b w):Nms w x ns/\jI w (jA a 0 U)=Q (Y x n c):=by
 obtain⟨y,c',e,hx⟩:=Ae h.aB;cases e;refine⟨λj d=>?_,h.row.cell 0⟩;obtain⟨g,hg,_,hc⟩:=hx Oa;have f:=(h.aB.lt g<|by rw[hg];rfl).2
 grind
theorem Lm.nmsX {a:jF}(h:Lm B b ns ts tt a v' d w):∃x c,a=Y x (T ns) c/\Nms w x ns:=by
 obtain⟨x,c,e,hx⟩:=Ae h.aB;refine⟨x,c,e,λj f=>?_⟩;obtain⟨g,hg,_,hc⟩:=hx Oa;have i:=(h.aB.lt g<|by rw[e,hg];rfl).2
 grind
theorem Ls.cJ {a b c:Nat}{f g:jF}{S:Array jF}{fc:Int}{w0 w:jB}(h:Ls B a b c hi ns ts tt f v' g S fc i w0 w):B<=R (Z w):=by have:=h.S.lt;have:=h.cV;omega
def CkM (o:Except (Int×Int) Cs) (w:jB) (r:Ending) (w':jB):Prop:=
 (∃ (B lb:Nat) (ns:L4) (ts tt:L2) (nv lv tv:jF),o= .ok (CB ns ts,ts,tt)/\T ns=T ts/\r=jN (jQ #[tv,jP<|Q<|jA lb 0 U,jM #[V X 0,V X 0]])/\Lm B lb ns ts tt nv lv tv w'/\R (Z w)<=lb/\Ai w w')\/
 (∃f:Int×Int,o= .error f/\r=jN (jQ #[Y U 0 0,jP U,jM #[V X f.1,V X f.2]])/\f.1≠0/\Ai w w')
theorem Ab2 (a:L3)(n c:Nat)(N:L6)(m:∀x∈N,FdX x)(w0:jB)(o:IN w0 a n c N)(B:Nat)(p:R (Z w0)<=B)(Es:L8)(q:T Es=n)(r:∀j,(h:j<T Es)->AZ N j Es[j])(s:n<=4000)
  (k:Nat)(ns:L4)(ts tt:L2)(t lv l:jF)(u:∀d∈CB ns ts,1<=d.cS/\d.cS<=4)(v:T ns=T ts)(G:T ts<=1000)(w:T tt<=4000)(i:Nat)(e:Ex)(he:Es[i]? =Q e)(H:T tt+e.aL=i+1)(hs:Aed Es (T tt) e)(f:jB)(y:Ai w0 f)(b:Lm B k ns ts tt t lv l f)(z:B<=R (Z f)):
  Calls jZ 100 #[Y a n c,V X<|T tt,V X i,jP<|Q<|jA k 0 U,l] f (TrX B l tt (Gh (CB ns ts) e) f):=by
 obtain⟨A,C,rfl,D⟩:=Ae b.aU;obtain⟨E,cn,rfl,F⟩:=b.nmsX;have I:i<T Es:=(zP.1 he).1;have e1:(i:Int)=((T tt+e.aL:Nat):Int)-1:=Oa;rw[<-hs<|CB ns ts,e1];refine WE a n c N m w0 o B p k E (T ns) cn ns A (T ts) C ts u Es q r (T tt) e.aL Oa Oa s l tt w f y z ⟨b.row.cell 0,b.row.cell 1,b.row.lt,F,rfl,Oa,Cd b.aU Oa,v⟩ (λe=>Ac b.row b.types Ob e.symm) (λx hx e=>?_) (λx hx e=>Al b.aB b.types Ob (jT x) (by rw[hx];rfl) e.symm) b.types;by_cases h0:T ts=0
 .have J:k<R (Z f):=b.row.lt;obtain⟨hv,_⟩|⟨g,cap,K,hv,_⟩:=b.aU.2
  .grind
  .rw[hx]at hv;cases hv;exact b.bA g (by rw[hx];rfl) e.symm
 .obtain⟨g,hg,_⟩:=D Oa;rw[hg]at hx;cases hx;exact b.bA g (by rw[hg];rfl) e.symm
set_option maxHeartbeats 800000
theorem Sq (N:L6)(L:L9):GN N L=jD↔∃S,Fk (N.map Nd.aD) (T N) [] 0=Q S/\Au S=L.flatMap Ao:=by
 rw[GN]
 grind
theorem AcV (N:L6)(L:L9):GM N L=jD↔(T N<=4000/\1<=T L/\T L<=600)/\N.all Bq=jD/\Kz N L:=by
 rw[<-Sn,ZV,<-Sq,GM]
 grind
theorem ZY {n m:Nat}{e:Ending}(h:Er Bq n m N L e)(a:T N=n)(hm:T L=m):e=jN (.bool<|GM N L):=by
 obtain⟨b,rfl,c⟩:=h
 grind [AcV,GM]
theorem NK (a b:L3)(n c m d:Nat)(N:L6)(L:L9)(w:jB)(g:IN w a n c N)(h:Po w b m d L):
  Calls jZ 93 #[jM #[Y a n c,Y b m d]] w λe w'=>e=jN (.bool<|GM N L)/\Ai w w':=by
 have f:=AE w<|jH #[Y a n c,Y b m d] 106;have i:=Ab g.len;have j:=Ab h.len;go_enter func93,ntmps93
 go_wp2_with (go_at_call 97;refine(Yk _ _ _ _ _ _ N L _ (g.below f NLN)<|h.below f NLN).mono ?_;rintro e w2 ⟨he,k⟩;have l:=ZY he (Aa i)<|Aa j;subst l;clear he)
 go_ret
 exact⟨rfl,f.trans<|k.mono f.size⟩
theorem ZC {v:Vv}(h:Tq w v.ex k)(hi:∀n,v= .int n->Cu n):MVx w k.num k.text k.an k.nn k.cn v:=by
 cases v with
 |bool b=>exact⟨⟨h.2.1.trans (by cases b<;>rfl),h.2.2.1⟩,h.2.2.2.2.1,h.2.2.2.2.2⟩
 |int n=>exact⟨⟨⟨h.2.1,hi n rfl⟩,h.2.2.1⟩,h.2.2.2.2.1,h.2.2.2.2.2⟩
 |text s=>exact⟨⟨h.2.1,h.2.2.1⟩,h.2.2.2.2.1,h.2.2.2.2.2⟩
 |set ss=>exact⟨⟨h.2.1,h.2.2.1⟩,h.2.2.2.2.1,h.2.2.2.2.2⟩
theorem AhD (i op:Int){v:Vv}{t:Int}{b:K5}{kc:Nat}(ht:nz (By op [v.ty])=Q t)(h0:Tq w a b)(c:a.cv=Q v)(hi:∀n,v= .int n->Cu n)(d:AO w ka [b]):
  Calls jZ 127 #[V X op,Y ka 1 kc] w (PrA (AQ<|.un i op a) w):=by
 have e:AQ (.un i op a)=evX (GI op v):=by rw[AhC i op c];cases GI op v<;>rfl
 rw[e];have h:=EJ ht;refine RJ op Oa [b] 1 rfl NLN Ob d _ (λu hu=>?_) (λf g cap B O=>?_)
 .grind [UO]
 .exact XB op v t ht b.num b.text b.an b.nn b.cn g 0 cap f ((ZC (Pb c h0) hi).below B NLN) (O.cellAt 0 Ob) (O.cellAt 1 Ob) (O.cellAt 2 Ob) (O.cellAt 3 Ob) (O.lt g rfl).2
theorem AhE (i op:Int){b:Ex}{v:Vv}{t:Int}{c d:K5}{kc:Nat}(ht:nz (By op [v.ty,u.ty])=Q t)(h0:Tq w a c)(j:Tq w b d)(f:a.cv=Q v)(h:b.cv=Q u)(hi:∀n,v= .int n->Cu n)(k:∀n,u= .int n->Cu n)(l:AO w ka [c,d]):
  Calls jZ 127 #[V X op,Y ka 2 kc] w (PrA (AQ<|.bin i op a b) w):=by
 have o:=Ch ht;by_cases hc:op=25\/op=26
 .grind [Vv.bU,Vv.ty,Acn]
 .have hd:UN op v=jE:=by cases v<;>grind [UN]
  have e:AQ (.bin i op a b)=evX (Cc op v u):=by rw[Xz i op f h,H7<|by rw[hd];decide,H7 hc];cases Cc op v u<;>rfl
  rw[e];refine RJ op Oa [c,d] 2 rfl Ob NLN l _ (λz p=>?_) (λm g cap B O=>?_)
  .grind [Qn]
  .exact XC op v u t ht Oa c.num c.text c.an c.nn c.cn d.num d.text d.an d.nn d.cn g 0 cap m ((ZC (Pb f h0) hi).below B NLN) ((ZC (Pb h j) k).below B NLN) (O.cellAt 0 Ob) (O.cellAt 1 Ob) (O.cellAt 2 Ob) (O.cellAt 3 Ob) (O.cellAt 4 Ob) (O.cellAt 5 Ob) (O.cellAt 6 Ob) (O.cellAt 7 Ob) (O.lt g rfl).2
set_option maxRecDepth 100000
set_option maxHeartbeats 1600000
def RwA (z:Ex) (w:jB) (r:Ending) (w':jB):Prop:=
 (∃k:K5,r=jN (jM #[V X k.op,V X k.num,jC k.text,Y k.an k.nn k.cn,Y k.ka k.kn k.kc])/\Tq w' z k)/\Ai w w'
def LtQ (w:jB) (la:L3) (ls:L8):Prop:=∃vs:M6,T vs=T ls/\AO w la vs/\∀j,(h1:j<T ls)->(h2:j<T vs)->Tq w ls[j] vs[j]
theorem LtQ.below {w w':jB}{B:Nat}{c:L3}{ls:L8}(h:LtQ w c ls)(d:Below B w w')(f:R (Z w)<=B):LtQ w' c ls:=by
 obtain⟨g,i,k,h3⟩:=h;exact⟨g,i,k.below d f,λj a b=>(h3 j a b).below d f⟩
theorem Gf {j:Func}{a:Tmp}(h:j.results= #[.cell a 121]){b:Nat}{c f i:jF}(k:tmps.getD a undef=jP (Q<|jA b 0 U))
  (R:Ag w b #[c,v',f,g,i] 121):(results j tmps).run jZ w= .ok (jM #[c,v',f,g,i]) w:=by
 rw[Array.getD_eq_getD_getElem?]at k;have g0:jI w (jA b 0 U)=Q c:=R.cell 0;have g1:jI w (jA b 1 U)=Q v':=R.cell 1;have g2:jI w (jA b 2 U)=Q f:=R.cell 2;have g3:jI w (jA b 3 U)=Q g:=R.cell 3;have l:jI w (jA b 4 U)=Q i:=R.cell 4;simp[results,h,k,go_sem,g0,g1,g2,g3,l]
def AhF (k:K5):Array jF:=#[V X k.op,V X k.num,jC k.text,Y k.an k.nn k.cn,Y k.ka k.kn k.kc]
theorem Jg {e:Ex}(d:L3)(f g:Nat)(he:Tq w e k)(a:k.kn=0)(b:k.op≠7):
  Calls jZ 98 #[jM #[V X k.op,V X k.num,jC k.text,Y k.an k.nn k.cn,Y k.ka k.kn k.kc],Y d f g] w (RwA e w):=by
 have j:(k.op==7)=jE:=zA.2 b;have l:((k.kn:Int)==0)=jD:=by rw[a];rfl
 have c:=Ab<|(AE w<|jH (AhF k) 121).alloc Ox<|jH (AhF k) 121;have h:=Ab<|he.below (Aa c) NLN;have i:=Ab<|Ag.new (jK w<|jH (AhF k) 121) (AhF k) 121;clear he a b;go_enter func98,ntmps98
 go_wp2
 exact G2 (Gf results98 Ox<|Aa i) rfl ⟨⟨k,rfl,Aa h⟩,Aa c⟩
theorem AhG {i n:Int}{A:L3}{u B:Nat}(he:Tq w (.lett i n) k)(L:LtQ w A ls)(M:u=T ls)(N:u<=B)(ae: 0<=n/\n<T ls)(O:∀z∈ls,Bp z=jD):
  Calls jZ 98 #[jM #[V X k.op,V X k.num,jC k.text,Y k.an k.nn k.cn,Y k.ka k.kn k.kc],Y A u B] w (RwA (BP ls<|.lett i n) w):=by
 subst M;obtain⟨m,rfl⟩:∃m:Nat,n=m:=⟨n.toNat,Oa⟩
 have hm:m<T ls:=Oa;obtain⟨C,af,P,hq⟩:=L;have D:m<T C:=Oa;have e1:k.op=7:=he.1;have e2:k.num=m:=he.2.1;have e3:k.kn=0:=he.2.2.2.1;obtain⟨ag,ah,f,h,j,o,q,ai,s⟩:=k;dsimp only at e1 e2 e3;subst e1 e2 e3;obtain⟨g,a,rfl,hg,hc⟩:=Bs P Oa;have E:=hc m D;have v:=hq m hm D;have F:=O _<|zI hm;have x:BP ls (.lett i m)=if ls[m].bD then ls[m]else .lett i m:=by
  simp only[BP,Im,AQ,Ex.aD,List.isEmpty_nil,if_true,A5,zS,zM hm];cases ls[m].bD<;>rfl
 rw[x];generalize ls[m]=z at v F x|-;generalize C[m]=l at v E;obtain⟨y,a1,a2,a3,a4⟩:=E;have S:(m:Int)<(T ls:Int):=Oa
 generalize T ls=u at S N|-;have b:=((AE w<|Bu 7 m f h j o q 0 s).alloc Ox Gg)
 have c:=Ag.new (jK w<|Bu 7 m f h j o q 0 s) #[V X 0,V X 0,jC ⟨#[]⟩,Y U 0 0,Y U 0 0] 121;have W:=(Ag.new w #[V X 7,V X m,jC f,Y h j o,Y q 0 s] 121).alloc Gg;replace y:=(b.cell (p:=⟨g,a+m*5,U⟩) hg).trans y;replace a1:=(b.cell (p:=⟨g,a+m*5+1,U⟩) hg).trans a1;replace a2:=(b.cell (p:=⟨g,a+m*5+2,U⟩) hg).trans a2;replace a3:=(b.cell (p:=⟨g,a+m*5+3,U⟩) hg).trans a3;replace a4:=(b.cell (p:=⟨g,a+m*5+4,U⟩) hg).trans a4;have aa:=Ab he;have ab:=Ab v;have G:=Ab b;have ac:=Ab c;have ad:=Ab W;have t:g<R (Z<|jK (jK w<|Bu 7 m f h j o q 0 s) Gg):=O0;generalize x:(if z.bD then z else .lett i (m:Int))=H;have I:=Ab x;go_enter func98,ntmps98
 go_wp2_with fail
 refine(Aa<|Ab<|DY (v.below b NLN) F).mono ?_;rintro r aj ⟨rfl,b2⟩;have J:=(Aa G).trans<|b2.mono (Aa G).size;have c:=(Aa ac).aA b2 NLN;replace y:=(b2.cell (p:=⟨g,a+m*5,U⟩) t).trans y;replace a1:=(b2.cell (p:=⟨g,a+m*5+1,U⟩) t).trans a1;replace a2:=(b2.cell (p:=⟨g,a+m*5+2,U⟩) t).trans a2;replace a3:=(b2.cell (p:=⟨g,a+m*5+3,U⟩) t).trans a3;replace a4:=(b2.cell (p:=⟨g,a+m*5+4,U⟩) t).trans a4;simp only[G0]at c;obtain⟨ak,al,ao,ap,aq,-⟩:=Ap<|(Aa ad).aA b2 NLN;obtain⟨ar,au,av,aw,ax,-⟩:=Ap c;obtain⟨ay,f1,f2,az,aB⟩:=Fg c;cases K:z.bD with
 |false=>
  have d:=Ab<|Rz ⟨7,m,f,h,j,o,q,0,s⟩ J c<|zU _;go_wp2
  exact G2 (Gf results98 rfl (Aa d).2) rfl (by rw[Aa<|Ab<|show H= .lett i m by rw[<-Aa I,K];rfl];exact⟨⟨_,rfl,(Aa aa).below (Aa d).1 NLN⟩,(Aa d).1⟩)
 |true=>
  have d:=Ab<|Rz l J c<|zU _;go_wp2
  exact G2 (Gf results98 rfl (Aa d).2) rfl (by rw[Aa<|Ab<|show H=z by rw[<-Aa I,K];rfl];exact⟨⟨_,rfl,(Aa ab).below (Aa d).1 NLN⟩,(Aa d).1⟩)
theorem RL {e c:Ex}(h:AQ e=Q c):c.aD=[]:=by
 unfold AQ at h;split at h
 .cases h
 .split at h
  .split at h
   .cases h;rename_i v _;cases v<;>rfl
   .cases h
  .cases h
theorem XE {P:Program}{ops:Array Oper}{o:Oper}{a:Act}{K:Act->jB->Prop}{Q:Exit->Act->jB->Prop}{E:Prop}(j:o.guard=U)(f:FuncId)(b:Func)(k:P.funcs[f]? =jg b)(l:(b.name== "runtime.NumGoroutine")=jE)(i:b.body.isNone=jE)(x y z:Operand)(m:Array jV)
  (n:o.op= .call { callee:= .value (.func f),args:=#[x,y,z],argTypes:=m })(c d g:jF)(hx:a.eval x=c)(hy:a.eval y=d)(p:a.eval z=g)
  (R:jF->jB->Prop)(hc:Calls P f #[c,d,g] w λe w'=>∃v,e=jN v/\R v w')(h:∀v w',R v w'->K (a.put o.dst v) w'):
  if Region.wanted o (yielded ops a.tmps)=jD then Oper.wp P o a w K Q else E:=by
 have q:Region.wanted o (yielded ops a.tmps)=jD:=by simp[Region.wanted,j]
 rw[if_pos q];unfold Oper.wp;have r:(execOp a.eval o).run P w= .ok (.enter f #[c,d,g]) w:=by
  subst hx hy p;have s:b.name≠ "runtime.NumGoroutine" :=by simpa using l
  have t:(callFunc f #[a.eval x,a.eval y,a.eval z]).run P w= .ok (.enter f #[a.eval x,a.eval y,a.eval z]) w:=by
   have h3:b.body≠U:=λe=>by rw[e]at i;cases i
   simp[callFunc,k,s,h3]
  simpa[execOp,n,resolve,invoke,Act.eval,Result.andThen,go_sem]using t
 rw[r,Oper.upon_enter];refine hc.mono ?_;rintro e w' ⟨v,rfl,u⟩;exact h v w' u
theorem Tt.kid {w0:jB}{c:jF}{a:M6}{w:jB}(h:Tt w0 B c a ls w)(j:Nat)(d:j<T a)(f:j<T ls):NT w0 B (R<|Z w) w a[j] ls[j]:=by
 obtain⟨l,i,a1,a2,a3,a4⟩:=h.bT j d f;exact a4.mono λb g=>Oa
theorem Ct.trans {w0 w a w2:jB}{lo hi:Nat}(h:Ct w0 lo hi w a)(k:Ct w0 lo hi a w2):Ct w0 lo hi w w2:=
 ⟨zB h.1 k.1,λb c hs=>(k.2.1 b c<|zL hs h.1).trans<|h.2.1 b c hs,λb d r=>k.2.2 b d<|h.2.2 b d r⟩
theorem Ct.zW {w0 d:jB}{lo hi a:Nat}{f:Array jF}(R:Ag d a f 121)(h0:jh (Z w0)<=a)(n:a<lo\/hi<=a)(m:K5):Ct w0 lo hi d<|zW d a m:=by
 have o:∀(w:jB) (j:Nat) (u:jF) (q:Nat),q≠a->(Z<|jJ w (jA a j U) u)[q]? =(Z w)[q]? :=λw j u q h=>K0 w (jA a j U) q u h;refine⟨by simp[Go.Proofs.YtnjpihpohilnjaaGreatDoor.zW],λb p _=>?_,?_⟩
 .have g:b≠a:=Oa;simp only[Go.Proofs.YtnjpihpohilnjaaGreatDoor.zW,o _ _ _ _ g]
 .have i:=CQ.set R Ob 0<|V X m.op;have s1:=CQ.set (R.set 0<|V X m.op) Ob 1<|V X m.num;have s2:=CQ.set ((R.set 0<|V X m.op).set 1<|V X m.num) Ob 2<|jC m.text;have k:=CQ.set (((R.set 0<|V X m.op).set 1<|V X m.num).set 2<|jC m.text) Ob 3<|Y m.an m.nn m.cn;have l:=CQ.set ((((R.set 0<|V X m.op).set 1<|V X m.num).set 2<|jC m.text).set 3<|Y m.an m.nn m.cn) Ob 4<|Y m.ka m.kn m.kc;exact λb c r=>l b c<|k b c<|s2 b c<|s1 b c<|i b c r
theorem Eg {w0 w a:jB}{d B:Nat}{c:K5}{z:Ex}{g i j k:jF}(p:R (Z w0)<=R (Z w))(l:Ai w a)(f:Ag a d #[g,v',i,j,k] 121)(m:R (Z w)<=d)(n:d<B)(o:NT w0 B (R<|Z a) a c z):
  Ai w (zW a d c)/\Ag (zW a d c) d #[V X c.op,V X c.num,jC c.text,Y c.an c.nn c.cn,Y c.ka c.kn c.kc] 121/\NT w0 (R<|Z w) (zW a d c).heap.size (zW a d c) c z:=by
 have e:=Rz c l f m;have zs:(zW a d c).heap.size=R (Z a):=by simp[zW]
 exact⟨e.1,e.2,(o.aM<|Ct.zW f Oa (.inl n) c).mono λb q=>by rw[zs];omega⟩
theorem Rg:∀(e:Ex) (b:Nat),Ek e.st b=Ek e b
 |.un i op k,b=>by rw[Ex.st,Ek,Ek,Rg k,Kp]
 |.bin i op l r,b=>by rw[Ex.st,Ek,Ek,Rg l,Kp,Kp,Rg r]
 |.ite i c t e,b=>by rw[Ex.st,Ek,Ek,Rg c,Kp,Kp,Kp,Rg t,Rg e]
 |.int ..,b=>rfl
 |.text ..,b=>rfl
 |.bool ..,b=>rfl
 |.set ..,b=>rfl
 |.name ..,b=>rfl
 |.attr ..,b=>rfl
 |.lett ..,b=>rfl
noncomputable def FX (ls:L8) (x:Sx):Sx:=⟨x.at',x.aC,x.name,x.cond.map<|BP ls,x.aG.map<|BP ls⟩
def TX (ls:L8) (y:Sx):L8:=if y.aC=1 then ls++[y.cond.getD<|.bool 0 jE]else ls
noncomputable def Et:L8->M0->M0
 |_,[]=> []
 |ls,x ::Xx=>FX ls x ::Et (TX ls<|FX ls x) Xx
def Lh (b:Bool):M3->Bool
 |some e=>isB b e
 |none=>jE
def Ei:M0->M0
 |[]=> []
 |x ::Xx=>if x.aC=2/\Lh jE x.cond=jD then Ei Xx else if x.aC=2/\Lh jD x.cond=jD then [⟨x.at',3,⟨#[]⟩,U,x.aG⟩]else x ::Ei Xx
def usE (n:Int):Ex->Bool
 |.lett _ m=>decide (m=n)
 |.un _ _ k=>usE n k
 |.bin _ _ l r=>usE n l||usE n r
 |.ite _ c t e=>usE n c||(usE n t||usE n e)
 |_=>jE
def usO (n:Int):M3->Bool
 |some e=>usE n e
 |none=>jE
def usS (n:Int) (x:Sx):Bool:=usO n x.cond||usO n x.aG
def JS:M3->Bool
 |some e=>AK e
 |none=>jD
def Ic:Int->M0->List (Sx×Int)
 |_,[]=> []
 |n,x ::Xx=>if x.aC=1 then (if !((Ic (n+1) Xx).any λq=>usS n q.1)&&JS x.cond then Ic (n+1) Xx else (x,n) ::Ic (n+1) Xx)else (x,-1) ::Ic n Xx
def Dr (K:List<|Sx×Int):L2:=(K.filter λq=>decide (q.1.aC=1)).map Prod.snd
def ixL (left:L2) (n:Int):Int:=(left.idxOf n:Nat)
def Eu (left:L2):Ex->Ex
 |.lett i n=> .lett i (ixL left n)
 |.un i op k=> .un i op (Eu left k)
 |.bin i op l r=> .bin i op (Eu left l) (Eu left r)
 |.ite i c t e=> .ite i (Eu left c) (Eu left t) (Eu left e)
 |e=>e
def PF (left:L2) (x:Sx):Sx:=⟨x.at',x.aC,x.name,x.cond.map<|Eu left,x.aG.map<|Eu left⟩
def Zw (X:M0):M0:=(Ic 0 X).map λq=>PF (Dr<|Ic 0 X) q.1
noncomputable def DF (X:M0):M0:=Zw<|Ei<|Et [] X
def tyG (ts:L2):M3->Prop
 |none=>True
 |some g=>AX ts g=Q 4
def Mi:L2->M0->Prop
 |_,[]=>True
 |ts,x ::Xx=>(x.aC=1/\∃e t,x.cond=Q e/\AX ts e=Q t/\x.aG=U/\Mi (ts++[t]) Xx)\/
  (x.aC=2/\(∃e,x.cond=Q e/\AX ts e=Q 1)/\tyG ts x.aG/\Mi ts Xx)\/(x.aC=3/\x.cond=U/\tyG ts x.aG/\Mi ts Xx)
theorem JR.bN (a:JR ts ls)(b:T ls=T ts){e:Ex}{t:Int}(h:AX ts e=Q t):JR (ts++[t])<|ls++[e]:=by grind [AX,JR,Ex.bD,Vv.ty,Ex.cv,OY,yA,Z8,Z7]
theorem AeQ (a:JR ts ls):∀{g:M3},tyG ts g->tyG ts (g.map<|BP ls)
 |none,_=>trivial
 |some g,h=>GX a g 4 h
theorem MS:∀(a:M0) (ts:L2) (ls:L8),JR ts ls->T ls=T ts->Mi ts a->Mi ts (Et ls a)
 |[],_,_,_,_,_=>trivial
 |x ::a,ts,ls,hl,hn,h=>by
  rw[Et];obtain⟨k,e,t,b,d,h3,c⟩|⟨k,⟨e,b,d⟩,h3,c⟩|⟨k,b,h3,c⟩:=h
  .have f:=GX hl e t d;have e1:TX ls (FX ls x)=ls++[BP ls e]:=by rw[TX,H8<|show(FX ls x).aC=1 from k];simp[FX,b]
   refine .inl ⟨k,BP ls e,t,by simp[FX,b],f,by simp[FX,h3],?_⟩;rw[e1];exact MS a (ts++[t]) (ls++[BP ls e]) (hl.bN hn f) (by simp[hn]) c
  .have e1:TX ls (FX ls x)=ls:=by rw[TX,H7<|show(FX ls x).aC≠1 by show x.aC≠1;omega]
   rw[e1];exact .inr<|.inl ⟨k,⟨BP ls e,by simp[FX,b],GX hl e 1 d⟩,AeQ hl h3,MS a ts ls hl hn c⟩
  .have e1:TX ls (FX ls x)=ls:=by rw[TX,H7<|show(FX ls x).aC≠1 by show x.aC≠1;omega]
   rw[e1];exact .inr<|.inr ⟨k,by simp[FX,b],AeQ hl h3,MS a ts ls hl hn c⟩
theorem KO:∀(a:M0) (ts:L2),Mi ts a->Mi ts (Ei a)
 |[],_,_=>trivial
 |x ::a,ts,h=>by
  rw[Ei];obtain⟨k,e,t,c,d,h3,b⟩|⟨k,c,h3,b⟩|⟨k,c,h3,b⟩:=h
  .rw[H7 Oa,H7 Oa];exact .inl ⟨k,e,t,c,d,h3,KO a _ b⟩
  .split
   .exact KO a ts b
   .split
    .exact .inr (.inr ⟨rfl,rfl,h3,trivial⟩)
    .exact .inr (.inl ⟨k,c,h3,KO a ts b⟩)
  .rw[H7 Oa,H7 Oa];exact .inr<|.inr ⟨k,c,h3,KO a ts b⟩
def tsL (ts:L2) (l:L2):L2:=l.map λm=>ts.getD m.toNat 0
theorem MT {ts f r:L2} :∀(e:Ex) (t:Int),(∀m,usE m e=jD->0<=m->m.toNat<T ts->m∈f)->AX ts e=Q t->AX (tsL ts f) (Eu (f++r) e)=Q t
 |.lett i n,t,hu,h=>by
  rw[AX]at h;split at h
  .rename_i h0;have l:n.toNat<T ts:=(zP.1 h).1
   simp_all[List.getElem_idxOf,tsL,List.idxOf_lt_length_iff,AX,List.idxOf_append,usE,ixL,List.getD_eq_getElem?_getD,Eu]
  .cases h
 |.un i op k,t,hu,h=>by
  rw[Eu,AX];rw[AX]at h;cases g:AX ts k with
  |none=>grind
  |some a=>rw[g]at h;rw[MT k a (λm hm=>hu m Dn) g];exact h
 |.bin i op x y,t,hu,h=>by
  rw[Eu,AX];rw[AX]at h;cases hx:AX ts x with
  |none=>grind
  |some a=>
    cases hy:AX ts y with
    |none=>grind
    |some b=>rw[hx,hy]at h;rw[MT x a (λm hm=>hu m Dn) hx,MT y b (λm hm=>hu m Dn) hy];exact h
 |.ite i x y z,t,hu,h=>by
  rw[Eu,AX];rw[AX]at h;cases hx:AX ts x with
  |none=>grind
  |some a=>
    cases hy:AX ts y with
    |none=>grind
    |some b=>
      cases j:AX ts z with
      |none=>grind
      |some d=>rw[hx,hy,j]at h;rw[MT x a (λm hm=>hu m Dn) hx,MT y b (λm hm=>hu m Dn) hy,MT z d (λm hm=>hu m Dn) j];exact h
 |.int i n,t,_,h=>h
 |.text i n,t,_,h=>h
 |.bool i n,t,_,h=>h
 |.set i a n c ss,t,_,h=>h
 |.name i n,t,_,h=>Qy
 |.attr i n,t,_,h=>h
theorem AeR {a:L2}{g:M3}(hu:∀m,usO m g=jD->0<=m->m.toNat<T ts->m∈a)(h:tyG ts g):tyG (tsL ts a)<|g.map<|Eu<|a++ys:=by
 cases g with
 |none=>trivial
 |some e=>exact MT e 4 hu h
theorem AeS {a:L2}{t:Int}(b:∀m∈a,m.toNat<T ts)(n:Nat)(c:n=T ts):tsL (ts++[t]) (a++[(n:Int)])=tsL ts a++[t]:=by simp_all[List.map_cons,List.getElem?_append_left,tsL,List.map_append,List.getD_eq_getElem?_getD,List.map_nil]
theorem AeT {a:L2}{t:Int}(b:∀m∈a,m.toNat<T ts):tsL (ts++[t]) a=tsL ts a:=
 List.map_congr_left (λm hm=>by rw[zj,zj,yA<|b m hm])
theorem U9 {x:Sx}{n:Int}{K:List (Sx×Int)}(h:x.aC=1):Dr ((x,n) ::K)=n ::Dr K:=by simp[Dr,h]
theorem Je {x:Sx}{n:Int}{K:List (Sx×Int)}(h:x.aC≠1):Dr ((x,n) ::K)=Dr K:=by simp[Dr,h]
theorem Rh:∀(b:M0) (ts c:L2),(∀m∈c,m.toNat<T ts)->(∀q∈Ic (T ts:Nat) b,∀m,usS m q.1=jD->0<=m->m.toNat<T ts->m∈c)->Mi ts b->
  Mi (tsL ts c) ((Ic (T ts:Nat) b).map λq=>PF (c++Dr (Ic (T ts:Nat) b)) q.1)
 |[],_,_,_,_,_=>trivial
 |x ::b,ts,c,hl,hu,h=>by
  obtain⟨k,e,t,f,j,h3,g⟩|⟨k,⟨e,f,j⟩,h3,g⟩|⟨k,f,h3,g⟩:=h
  .have en:((T ts:Nat):Int)+1=(T (ts++[t]):Nat):=Ox;rw[Ic,H8 k]at hu|-;rw[en]at hu|-;have l:∀m∈c,m.toNat<T (ts++[t]):=λm hm=>by have:=hl m hm;simp;omega
   split
   .rename_i i;rw[H8 i]at hu;have o:∀q∈Ic (T (ts++[t]):Nat) b,usS ((T ts:Nat):Int) q.1=jE:=λq hq=>by
     simp only[zF,Bool.not_eq_true',List.any_eq_false]at i;simpa using i.1 q hq
    have:=Rh b (ts++[t]) c l (λq hq m hm h0 d=>by
     obtain a|a:=Nat.lt_or_ge m.toNat<|T ts
     .exact hu q hq m hm h0 a
     .have:m=((T ts:Nat):Int):=by simp at d;omega
      rw[this,o q hq]at hm;cases hm) g
    rw[AeT hl]at this;exact this
   .rename_i i;rw[H7 i]at hu;have n:=Rh b (ts++[t]) (c++[((T ts:Nat):Int)]) (λm hm=>by
     obtain hm|hm:=zO.1 hm
     .exact l m hm
     .rw[zR.1 hm];simp) (λq hq m hm h0 d=>by
     obtain a|a:=Nat.lt_or_ge m.toNat<|T ts
     .exact Z5 _ (hu q (zi _ hq) m hm h0 a)
     .have:m=((T ts:Nat):Int):=by simp at d;omega
      rw[this];simp) g
    rw[AeS hl (T ts) rfl]at n;rw[U9 k];have p:c++((T ts:Nat):Int) ::Dr (Ic (T (ts++[t]):Nat) b)=(c++[((T ts:Nat):Int)])++Dr (Ic (T (ts++[t]):Nat) b):=Ox;rw[List.map_cons];refine .inl ⟨k,Eu (c++((T ts:Nat):Int) ::Dr (Ic (T (ts++[t]):Nat) b)) e,t,by simp[PF,f],MT e t (λm hm h0 d=>hu _ (za ..) m (by simp[usS,f,usO,hm]) h0 d) j,by simp[PF,h3],?_⟩;rw[p];exact n
  .rw[Ic,H7 Oa]at hu|-;rw[Je Oa,List.map_cons];refine .inr (.inl ⟨k,⟨Eu (c++Dr (Ic (T ts:Nat) b)) e,by simp[PF,f],MT e 1 (λm hm h0 d=>hu _ (za ..) m (by simp[usS,f,usO,hm]) h0 d) j⟩,AeR (λm hm h0 d=>hu _ (za ..) m (by simp[usS,hm]) h0 d) h3,Rh b ts c hl (λq hq=>hu q<|zi _ hq) g⟩)
  .rw[Ic,H7 Oa]at hu|-;rw[Je Oa,List.map_cons];refine .inr (.inr ⟨k,by simp[PF,f],AeR (λm hm h0 d=>hu _ (za ..) m (by simp[usS,hm]) h0 d) h3,Rh b ts c hl (λq hq=>hu q<|zi _ hq) g⟩)
theorem Aho {X:M0}(h:Mi [] X):Mi []<|DF X:=by
 have a:=MS X [] [] (λn c hc=>by simp at hc) rfl h;have b:=KO _ [] a;have:=Rh (Ei<|Et [] X) [] [] (λm hm=>by cases hm) (λq hq m hm h0 d=>by simp at d) b;exact this
def Ta:Vv->Prop
 |.int n=>Cu n
 |.set ss=>T ss<=1048576
 |_=>True
def Jm:Ex->Prop
 |.int _ n=>Cu n
 |.set _ _ _ _ ss=>T ss<=1048576
 |.un _ _ k=>Jm k
 |.bin _ _ l r=>Jm l/\Jm r
 |.ite _ c t e=>Jm c/\Jm t/\Jm e
 |_=>True
theorem Ai2 (v:Vv)(h:Ta v):Jm v.ex:=by cases v<;>exact h
theorem Ai3 {e:Ex}{v:Vv}(h:e.cv=Q v)(a:Jm e):Ta v:=by cases e<;>simp only[Ex.cv]at h<;>first|(cases h;exact a)|(cases h;trivial)|cases h
theorem TY {p:Int×Int}{v:Vv}(h:CG p= .ok v)(a:p.2=0->Cu p.1):Ta v:=by
 unfold CG at h;split at h
 .cases h;exact a ‹_›
 .cases h
theorem Ai4 (v:Int):(JV v).2=0->Cu (JV v).1:=λh=>by
 unfold JV at*;split at h
 .rename_i q;rw[H8 q];exact⟨q.1,q.2⟩
 .cases h
theorem Xo (op a b:Int):(AV op a b).2=0->Cu (AV op a b).1:=by grind [UL,Ai4,SI,AV]
theorem Ahp {v:Vv}(hv:Ta v)(h:GI op v= .ok u):Ta u:=by
 cases v with
 |int n=>grind [GI,TY,Xo]
 |bool b=>simp only[GI]at h;split at h<;>cases h;trivial
 |set ss=>
   simp only[GI]at h;split at h
   .cases h;have:T ss<=1048576:=hv;exact⟨Oa,Oa⟩
   .cases h
 |text s=>cases h
theorem AeU {ss tt:L4}{v:Vv}(h:Fa (IE ss tt)= .ok v):Ta v:=by
 unfold Fa at h;split at h
 .cases h;rename_i b;unfold IE at*;split at b
  .rename_i a;rw[dif_pos a];have q:=Classical.choose_spec a;cases hv:(Ay ss&&Ay tt)with
   |false=>grind [AB.bad]
   |true=>
     obtain⟨M,_,c,d⟩:=q.bL hv;by_cases f:T M<=64
     .show T (Classical.choose a).1<=1048576
      grind
     omega
  .cases b
 .cases h
theorem Xp {v w u:Vv}(hv:Ta v)(a:Ta w)(h:Cc op v w= .ok u):Ta u:=by
 unfold Cc at h;split at h
 .cases h;trivial
 split at h
 .cases h;trivial
 split at h
 .split at h<;>cases h;trivial
 .rename_i ss tt;have hs:T ss<=1048576:=hv;split at h
  .exact AeU h
  split at h
  .cases h;show T (Cl ss tt)<=1048576
   grind [Jb,Cl]
  split at h
  .cases h;show T (Bj ss tt)<=1048576
   grind [Jb,Bj]
  split at h<;>cases h
  trivial
 .split at h
  .cases h;trivial
  split at h
  .cases h;trivial
  grind [TY,Xo]
 .cases h
theorem JE {e:Ex}{v:Vv}(hc:e.bD=jD)(a:Jm e)(h:Js rq0 [] e= .ok v):Ta v:=by cases e<;>first|(cases h;exact a)|(cases h;trivial)|cases hc
theorem AeV {e c:Ex}(a:Jm e)(h:AQ e=Q c):Jm c:=by
 unfold AQ at h;split at h
 .cases h
 split at h
 .rename_i g;split at h
  .rename_i v hv;cases h;refine Ai2 v ?_;cases e with
   |un i op k=>
     rw[Js]at hv;have m:k.bD=jD:=Hg;cases hq:Js rq0 [] k with
     |err c=>grind
     |ok x=>rw[hq]at hv;exact Ahp (JE m a hq) hv
   |bin i op l r=>
     rw[Js]at hv;have d:l.bD=jD/\r.bD=jD:=Hg;cases hq:Js rq0 [] l with
     |err c=>grind
     |ok x=>
       rw[hq]at hv;dsimp only at hv;split at hv
       .cases hv;exact JE d.1 a.1 hq
       .cases f:Js rq0 [] r with
        |err c=>grind
        |ok y=>
          rw[f]at hv;dsimp only at hv
          first
          |exact Xp (JE d.1 a.1 hq) (JE d.2 a.2 f) hv
          |split at hv
           .cases hv;exact JE d.2 a.2 f
           .exact Xp (JE d.1 a.1 hq) (JE d.2 a.2 f) hv
   |ite i x y z=>
     rw[Js]at hv;have j:x.bD=jD/\y.bD=jD/\z.bD=jD:=Hg;cases hq:Js rq0 [] x with
     |err c=>grind
     |ok b=>
       rw[hq]at hv;cases b with
       |bool b=>
         cases b
         .exact JE j.2.2 a.2.2 hv
         .exact JE j.2.1 a.2.1 hv
       |_=>cases hv
   |_=>simp[Ex.aD]at*
  .cases h
 .cases h
theorem AeW (D:∀c∈ls,Jm c){e c:Ex}(a:Jm e)(h:A5 ls e=Q c):Jm c:=by
 cases e with
 |lett i n=>grind [A5]
 |un i op k=>
   rw[A5]at h;split at h
   .cases k with
    |un E o j=>
      rw[SZ]at h;split at h<;>cases h
      exact a
    |_=>cases h
   .cases h
 |bin i op x y=>
   rw[A5]at h;have Mt:∀{z:Ex},z=x\/z=y->Jm z:=λq=>q.elim (λe=>e ▸ a.1) λe=>e ▸ a.2;by_cases d:op=25
   .subst d;exact Mt<|Fe h
   by_cases f:op=26
   .subst f;exact Mt<|Fe h
   by_cases g:op=16
   .subst g;exact Mt<|GV h
   by_cases l:op=17
   .subst l;exact Mt<|JC h
   by_cases m:op=18
   .subst m;obtain e|e:=GW h
    .grind
    .rw[e];exact zE _
   by_cases p:op=11
   .subst p;exact Mt<|LT h
   by_cases r:op=12
   .subst r;exact Mt<|Gn h
   by_cases s:op=13
   .subst s;exact Mt<|JD h
   by_cases t:op=14
   .subst t;exact Mt<|Gn h
   by_cases u:op=19
   .subst u;obtain⟨b,rfl⟩:=Bl h;trivial
   by_cases v:op=22
   .subst v;obtain⟨b,rfl⟩:=Bl h;trivial
   by_cases w:op=20
   .subst w;obtain⟨b,rfl⟩:=Bl h;trivial
   by_cases A:op=21
   .subst A;obtain⟨b,rfl⟩:=Bl h;trivial
   by_cases B:op=24
   .subst B;obtain⟨b,rfl⟩:=DX h;trivial
   by_cases C:op=23
   .subst C;obtain⟨b,rfl⟩:=JB h;trivial
   grind [Da]
 |ite i x y z=>
   rw[A5]at h
   repeat' split at h
   all_goals first|(cases h;first|exact a.2.1|exact a.2.2)|cases h
 |_=>cases h
theorem Ai5 (b:∀c∈ls,Jm c){e:Ex}(a:Jm e):Jm<|Im ls e:=by
 unfold Im;cases d:AQ e with
 |some c=>exact AeV a d
 |none=>
   cases f:A5 ls e with
   |none=>exact a
   |some c=>exact AeW b a f
theorem Ri (a:∀c∈ls,Jm c):∀(e:Ex),Jm e->Jm (BP ls e):=by intro e;induction e<;>intros<;>grind [BP,Jm,Ai5]
noncomputable def Lw:L8->M0->List (Sx×Int)
 |_,[]=> []
 |ls,x ::Xx=>
  if x.aC=1 then (FX ls x,(ls.length:Int)) ::Lw (TX ls<|FX ls x) Xx
  else if x.aC=2/\Lh jE (FX ls x).cond=jD then Lw ls Xx
  else if x.aC=2/\Lh jD (FX ls x).cond=jD then [(⟨x.at',3,⟨#[]⟩,U,(FX ls x).aG⟩,0)]
  else if x.aC=3 then [(FX ls x,0)]
  else (FX ls x,0) ::Lw ls Xx
def Rj:Int->M0->List (Sx×Int)
 |_,[]=> []
 |n,x ::Xx=>if x.aC=1 then (x,n) ::Rj (n+1) Xx else (x,0) ::Rj n Xx
def Ahq:M0->Prop
 |[]=>True
 |x ::Xx=>(x.aC=3->Xx=[])/\Ahq Xx
theorem Rk:∀(a:M0) (ls:L8),Ahq a->Lw ls a=Rj (T ls) (Ei<|Et ls a)
 |[],_,_=>rfl
 |x ::a,ls,h=>by
  have c:(FX ls x).aC=x.aC:=rfl;rw[Lw,Et,Ei,c];by_cases b:x.aC=1
  .rw[H8 b,H7 Oa,H7 Oa,Rj,H8<|show(FX ls x).aC=1 from b,Rk a _ h.2]
   simp_all[FX,TX]
  .have d:TX ls (FX ls x)=ls:=by rw[TX,H7<|show(FX ls x).aC≠1 from b]
   rw[H7 b,d];split
   .exact Rk a ls h.2
   .split
    .rw[Rj,H7 (Ob:¬ (3 :Int)=1),Rj];rfl
    .rw[Rj,H7<|show(FX ls x).aC≠1 from b,<-Rk a ls h.2];split
     .rename_i h3;rw[h.1 h3,Lw]
     .rfl
def Li:List (Sx×Int)->List (Sx×Int)
 |[]=> []
 |q ::D=>if q.1.aC=1/\((Li D).any λr=>usS q.2 r.1)=jE/\JS q.1.cond=jD then Li D else q ::Li D
def Kr (q:Sx×Int):Sx×Int:=if q.1.aC=1 then q else (q.1,0)
theorem Va:∀(b:M0) (n:Int),Li (Rj n b)=(Ic n b).map Kr
 |[],_=>rfl
 |x ::b,n=>by
  rw[Rj,Ic];have c:∀(m:Int) (K:List<|Sx×Int),((K.map Kr).any λr=>usS m r.1)=K.any λr=>usS m r.1:=λm K=>by grind [usS,Kr,List.any_map]
  by_cases a:x.aC=1
  .rw[H8 a,H8 a,Li,Va b<|n+1,c];cases hu:(Ic (n+1) b).any λq=>usS n q.1 with
   |true=>simp[Kr,a]
   |false=>
     cases hs:JS x.cond with
     |true=>simp[a]
     |false=>simp[Kr,a]
  .rw[H7 a,H7 a,Li,H7 λe=>a e.1,Va b n];simp[Kr,a]
theorem AeX (K:List<|Sx×Int):Dr (K.map Kr)=Dr K:=by
 unfold Dr;rw[List.filter_map];have e1:(K.filter<|(λq=>decide (q.1.aC=1)) ∘ Kr)=K.filter λq=>decide (q.1.aC=1):=by
  congr 1
  funext q
  show decide ((Kr q).1.aC=1)=decide (q.1.aC=1)
  grind [Kr]
 grind [List.map_congr_left,z3,Kr]
theorem Ahr (K:List<|Sx×Int):(K.map Kr).map Prod.fst=K.map Prod.fst:=by grind [List.map_congr_left,z3,Kr]
theorem Aci (X:M0)(h:Ahq X):DF X=((Li<|Lw [] X).map Prod.fst).map (PF<|Dr<|Li<|Lw [] X):=by
 have e:Li (Lw [] X)=(Ic 0<|Ei<|Et [] X).map Kr:=by rw[Rk X [] h];exact Va _ 0
 rw[e,AeX,Ahr,DF,Zw,z3];rfl
def RwC (wz:jB):Prop:=∀(ls:L8) (ts:L2),JR ts ls->T ls=T ts->(∀c∈ls,Jm c)->(∀c∈ls,Bp c=jD)->∀(la:L3) (lc:Nat),T ls<=lc->∀(e:Ex) (t:Int) (k:K5) (w:jB),AX ts e=Q t->Jm e->R (Z wz)<=R (Z w)->Tq w e k->LtQ w la ls->
  Calls jZ 98 #[jM #[V X k.op,V X k.num,jC k.text,Y k.an k.nn k.cn,Y k.ka k.kn k.kc],Y la (T ls) lc] w (Yx wz (BP ls e) w)
structure S5 where
 aC:Int
 name:K9
 n:Int
 ca:L3
 cn:Nat
 cc:Nat
 ga:L3
 gn:Nat
 gc:Nat
abbrev N5:=List S5
def S5.cs (s:S5):L7:= [V X s.aC,jC s.name,V X s.n,Y s.ca s.cn s.cc,Y s.ga s.gn s.gc]
theorem NT.monoI {wz:jB}{lo hi lo':Nat}{w:jB}{e:Ex}(h:NT wz lo hi w k e)(a:lo'<=lo)(c:hi<=hi'):NT wz lo' hi' w k e:=Tl.mono (λb d=>Oa) h
def Ma (wz:jB) (lo hi:Nat) (w:jB) (o:M3) (a:L3) (n:Nat):Prop:=match o with
 |none=>n=0
 |some e=>n=1/\(∀b o,a=Q (jA b o U)->b<R (Z wz)\/(lo<=b/\b<hi))/\∃k,AO w a [k]/\NT wz lo hi w k e
theorem Ma.aM {wz:jB}{lo hi:Nat}{w w':jB}{o:M3}{a:L3}{n:Nat}(h:Ma wz lo hi w o a n)(c:Ct wz lo hi w w'):Ma wz lo hi w' o a n:=by
 cases o with
 |none=>exact h
 |some e=>
   obtain⟨f,d,k,h3,g⟩:=h;exact⟨f,d,k,Gx c.1 h3 λb o e i=>c.2.1 b (d b o e) i,g.aM c⟩
theorem Ma.mono {wz:jB}{lo hi lo':Nat}{w:jB}{a:L3}{n:Nat}(h:Ma wz lo hi w o a n)(q1:lo'<=lo)(q2:hi<=hi'):Ma wz lo' hi' w o a n:=by
 cases o with
 |none=>exact h
 |some e=>
   obtain⟨c,d,k,h3,f⟩:=h;exact⟨c,λb o e=>H2<|d b o e,k,h3,f.monoI q1 q2⟩
def StQ (wz:jB) (lo hi:Nat) (w:jB) (s:S5) (q:Sx×Int):Prop:=s.aC=q.1.aC/\s.name=q.1.name/\s.n=q.2/\Ma wz lo hi w q.1.cond s.ca s.cn/\Ma wz lo hi w q.1.aG s.ga s.gn
theorem StQ.aM {wz:jB}{lo hi:Nat}{w w':jB}{s:S5}{q:Sx×Int}(h:StQ wz lo hi w s q)(a:Ct wz lo hi w w'):StQ wz lo hi w' s q:=
 ⟨h.1,h.2.1,h.2.2.1,h.2.2.2.1.aM a,h.2.2.2.2.aM a⟩
def Iv (B:Nat) (lv ov:jF) (w:jB) (lo hi:Nat):Prop:=B<=lo/\hi<=R (Z w)/\(∀q,jL lv=Q q->q<lo\/hi<=q)/\∀q,jL ov=Q q->q<lo\/hi<=q
structure MW (wz:jB) (B:Nat) (lv ov:jF) (vs:M6) (ls:L8) (ss:N5) (D:List (Sx×Int)) (w:jB):Prop where
 aU:jO w B 121 5 lv (T vs)<|vs.flatMap K5.cs
 out:jO w B 119 5 ov (T ss)<|ss.flatMap S5.cs
 dE:T ls=T vs
 bS:T D=T ss
 eachL:∀j,(h1:j<T vs)->(h2:j<T ls)->∃lo hi,Iv B lv ov w lo hi/\NT wz lo hi w vs[j] ls[j]
 eachD:∀j,(h1:j<T ss)->(h2:j<T D)->∃lo hi,Iv B lv ov w lo hi/\StQ wz lo hi w ss[j] D[j]
theorem MW.nil (wz:jB)(B:Nat)(w:jB):MW wz B (Y U 0 0) (Y U 0 0) [] [] [] [] w:=
 ⟨H3,H3,rfl,rfl,λj h=>H9 h Ox,λj h=>H9 h Ox⟩
theorem Iv.below {a:jF}{lo hi:Nat}(h:Iv B v a w lo hi)(b:R (Z w)<=R (Z w')):Iv B v a w' lo hi:=⟨h.1,zB h.2.1 b,h.2.2.1,h.2.2.2⟩
theorem MW.below {wz:jB}{B:Nat}{lv d:jF}{f:M6}{ls:L8}{ss:N5}{g:List (Sx×Int)}{w w':jB}(h:MW wz B lv d f ls ss g w)(a:Ai w w'):MW wz B lv d f ls ss g w':=
 ⟨Aj h.aU a NLN,Aj h.out a NLN,h.dE,h.bS,λj b c=>by
  obtain⟨lo,hi,a1,a2⟩:=h.eachL j b c;exact⟨lo,hi,a1.below a.size,a2.aM<|Ct.aH a⟩,λj b c=>by
  obtain⟨lo,hi,a1,a2⟩:=h.eachD j b c;exact⟨lo,hi,a1.below a.size,a2.aM<|Ct.aH a⟩⟩
theorem MW.ltq {wz:jB}{b:L3}{c f:Nat}{g:jF}{a:M6}{ss:N5}{i:List (Sx×Int)}{w:jB}(h:MW wz B (Y b c f) g a ls ss i w)(d:T a=c):LtQ w b ls:=
 ⟨a,h.dE.symm,En (by have:=h.aU;rw[d]at this;exact this) d,λj k l=>by
  obtain⟨lo,hi,_,a2⟩:=h.eachL j l k;exact Tl.tq a2⟩
theorem MW.cM {wz:jB}{lv c:jF}{d:M6}{ss:N5}{w a:jB}{o:Obj}{g cap lo:Nat}{e:Ex}(h:MW wz B lv c d ls ss m w)(y:R (Z wz)<=B)(z:Iv B lv c w lo hi)(hs:NT wz lo hi w k e)
  (A:jO a B 121 5 (Y (Q<|jA g 0 U) (T d+1) cap) (T d+1)<|d.flatMap K5.cs++k.cs)(f:(jK w o).grownBy a<|jL lv)(hat:jL lv=Q g\/g=R (Z w)+1):
  MW wz B (Y (Q<|jA g 0 U) (T d+1) cap) c (d++[k]) (ls++[e]) ss m a/\(∀lo hi,Iv B lv c w lo hi->Ct wz lo hi w a):=by
 have s:R (Z<|jK w o)=R (Z w)+1:=Ox;have n:R (Z w)<=R (Z a):=H2 f.size;have p:∀q,q<R (Z w)->jL lv≠Q q->(Z a)[q]? =(Z w)[q]? :=λq i l=>(f.block q (by rw[s];omega) λe=>l e.symm).trans<|Below.heap_alloc w o q i;have t:CQ w a:=λb C r=>(r.alloc o).grown f λe=>Ac r h.aU Ob e.symm;have u:∀lo hi,Iv B lv c w lo hi->Ct wz lo hi w a:=λlo hi q=>⟨n,λb h3 v=>p b v λe=>by have:=(h.aU.lt b e).1;have:=q.2.2.1 b e;omega,t⟩
 have iv:∀lo hi,Iv B lv c w lo hi->Iv B (Y (Q<|jA g 0 U) (T d+1) cap) c a lo hi:=λlo hi q=>⟨q.1,zB q.2.1 n,λb x=>by
  have e:g=b:=by simpa[jL]using x
  subst e;obtain e|e:=hat
  .exact q.2.2.1 g e
  .right;have:=q.2.1;omega,q.2.2.2⟩
 refine⟨⟨?_,Ad h.out λq hq=>p q (h.out.lt q hq).2 λe=>Al h.out h.aU Ob q hq e,by simp[h.dE],h.bS,λj i l=>?_,λj i l=>?_⟩,u⟩
 all_goals grind [MW.dE,StQ.aM,MW.eachD,NT.aM,MW.eachL]
theorem MW.pushD {wz:jB}{lv c:jF}{k:M6}{ss:N5}{l:List (Sx×Int)}{w a:jB}{o:Obj}{g cap lo:Nat}{s:S5}(h:MW wz B lv c k ls ss l w)(x:R (Z wz)<=B)(y:Iv B lv c w lo hi)(hs:StQ wz lo hi w s q)
  (z:jO a B 119 5 (Y (Q<|jA g 0 U) (T ss+1) cap) (T ss+1)<|ss.flatMap S5.cs++s.cs)(d:(jK w o).grownBy a<|jL c)(hat:jL c=Q g\/g=R (Z w)+1):
  MW wz B lv (Y (Q<|jA g 0 U) (T ss+1) cap) k ls (ss++[s]) (l++[q]) a:=by
 have p:R (Z<|jK w o)=R (Z w)+1:=Ox;have m:R (Z w)<=R (Z a):=Ho;have n:∀q,q<R (Z w)->jL c≠Q q->(Z a)[q]? =(Z w)[q]? :=λq f i=>(d.block q (by rw[p];omega) λe=>i e.symm).trans<|Below.heap_alloc w o q f;have t:CQ w a:=λb A r=>(r.alloc o).grown d λe=>Ac r h.out Ob e.symm;have C:∀lo hi,Iv B lv c w lo hi->Ct wz lo hi w a:=λlo hi q=>⟨m,λb h3 u=>n b u λe=>by have:=(h.out.lt b e).1;have:=q.2.2.2 b e;omega,t⟩
 have iv:∀lo hi,Iv B lv c w lo hi->Iv B lv (Y (Q<|jA g 0 U) (T ss+1) cap) a lo hi:=λlo hi q=>⟨q.1,zB q.2.1 m,q.2.2.1,λb v=>by
  have e:g=b:=by simpa[jL]using v
  subst e;obtain e|e:=hat
  .exact q.2.2.2 g e
  .right;have:=q.2.1;omega⟩
 refine⟨Ad h.aU λq hq=>n q (h.aU.lt q hq).2 λe=>Al h.out h.aU Ob q e hq,?_,h.dE,by simp[h.bS],λj f i=>?_,λj f i=>?_⟩
 all_goals grind [StQ.aM,MW.eachD,MW.bS,NT.aM,MW.eachL]
structure Mj (X:M0) (j:Nat) (ls:L8) (D:List (Sx×Int)) (ts:L2):Prop where
 eq:D++Lw ls (X.drop j)=Lw [] X
 ty:Mi ts<|X.drop j
 lt:JR ts ls
 len:T ls=T ts
 ok:∀c∈ls,Jm c
 ops:∀c∈ls,Bp c=jD
 sm:T ls<=j
 sd:T D<=j
theorem Mj.start (X:M0)(h:Mi [] X):Mj X 0 [] [] []:=
 ⟨rfl,h,λn c hc=>by simp at hc,rfl,λc hc=>(by cases hc),λc hc=>(by cases hc),NLN,NLN⟩
theorem Mj.kinds {X:M0}{j:Nat}{a:List (Sx×Int)}(h:Mj X j ls a ts){x:Sx}(hx:X[j]? =Q x):
  (x.aC=1/\∃e t,x.cond=Q e/\AX ts e=Q t/\x.aG=U/\Mi (ts++[t]) (X.drop<|j+1))\/(x.aC=2/\(∃e,x.cond=Q e/\AX ts e=Q 1)/\tyG ts x.aG/\Mi ts (X.drop<|j+1))\/(x.aC=3/\x.cond=U/\tyG ts x.aG/\Mi ts (X.drop<|j+1)):=by
 obtain⟨b,hx⟩:=zP.1 hx;have:=h.ty;rw[z4 b,hx]at this;exact this
theorem Mj.drop {X:M0}{j:Nat}{x:Sx}(hx:X[j]? =Q x):X.drop j=x ::X.drop (j+1):=by grind [zP,z4]
theorem Mj.lett {X:M0}{j:Nat}{a:List (Sx×Int)}(h:Mj X j ls a ts){x:Sx}(hx:X[j]? =Q x)(b:x.aC=1){e:Ex}{t:Int}(hc:x.cond=Q e)(ht:AX ts e=Q t)(d:Mi (ts++[t])<|X.drop<|j+1)(i:Jm e):
  Mj X (j+1) (ls++[BP ls e]) (a++[(FX ls x,(T ls:Int))]) (ts++[t]):=by
 have f:=GX h.lt e t ht;have g:TX ls (FX ls x)=ls++[BP ls e]:=by rw[TX,H8<|show(FX ls x).aC=1 from b];simp[FX,hc]
 refine⟨?_,d,h.lt.bN h.len f,by simp[h.len],λc hm=>?_,λc hm=>?_,by simp;exact h.sm,by simp;exact h.sd⟩
 .rw[<-h.eq,Mj.drop hx,Lw,H8 b,g];simp
 all_goals grind [Mj.ops,Mj.ok,Ri,Ff]
theorem Mj.skip {X:M0}{j:Nat}{a:List (Sx×Int)}(h:Mj X j ls a ts){x:Sx}(hx:X[j]? =Q x)(b:x.aC=2)(c:Mi ts<|X.drop<|j+1)(d:Lh jE (FX ls x).cond=jD):Mj X (j+1) ls a ts:=by
 refine⟨?_,c,h.lt,h.len,h.ok,h.ops,Nat.le_succ_of_le h.sm,Nat.le_succ_of_le h.sd⟩;rw[<-h.eq,Mj.drop hx,Lw,H7 Oa,H8 ⟨b,d⟩]
theorem Mj.tru {X:M0}{j:Nat}{a:List (Sx×Int)}(h:Mj X j ls a ts){x:Sx}(hx:X[j]? =Q x)(b:x.aC=2)(c:Lh jE (FX ls x).cond=jE)(d:Lh jD (FX ls x).cond=jD):a++[(⟨x.at',3,⟨#[]⟩,U,(FX ls x).aG⟩,0)]=Lw [] X:=by rw[<-h.eq,Mj.drop hx,Lw,H7 Oa,H7 (λe=>by rw[c]at e;cases e.2),H8 ⟨b,d⟩]
theorem Mj.when {X:M0}{j:Nat}{a:List (Sx×Int)}(h:Mj X j ls a ts){x:Sx}(hx:X[j]? =Q x)(f:x.aC=2)(b:Mi ts<|X.drop<|j+1)(c:Lh jE (FX ls x).cond=jE)(d:Lh jD (FX ls x).cond=jE):Mj X (j+1) ls (a++[(FX ls x,0)]) ts:=by
 refine⟨?_,b,h.lt,h.len,h.ok,h.ops,Nat.le_succ_of_le h.sm,by simp;exact h.sd⟩;rw[<-h.eq,Mj.drop hx,Lw,H7 Oa,H7 (λe=>by rw[c]at e;cases e.2),H7 (λe=>by rw[d]at e;cases e.2),H7 Oa];simp
theorem Mj.els {X:M0}{j:Nat}{a:List (Sx×Int)}(h:Mj X j ls a ts){x:Sx}(hx:X[j]? =Q x)(b:x.aC=3):a++[(FX ls x,0)]=Lw [] X:=by rw[<-h.eq,Mj.drop hx,Lw,H7 Oa,H7 Oa,H7 Oa,H8 b]
theorem Mj.cG {X:M0}{j:Nat}{a:List (Sx×Int)}(h:Mj X j ls a ts)(b:T X<=j):a=Lw [] X:=by rw[<-h.eq,List.drop_eq_nil_of_le b,Lw,List.append_nil]
set_option maxHeartbeats 3200000
theorem Afd {j:Nat}(h:j<T bs)(a:(bs.take j).any id=jE)(b:bs[j]=jE):(bs.take<|j+1).any id=jE:=by grind [zT]
theorem AhH {j:Nat}(h:j<T bs)(a:bs[j]=jD):bs.any id=jD:=by grind [zI,List.any_eq_true]
theorem KQ (n op num:Int)(text:K9)(an:L3)(nn cn:Nat)(ka:L3)(m kc:Nat)(hm:m<=1048576)(a:M6)(v:T a=m)(bs:List Bool)(x:T bs=m)(w:jB)(y:AO w ka a)
  (V:∀j,(ad:j<T a)->(ae:j<T bs)->∀s,Ai w s->Calls jZ 58 #[jM #[jc X a[j].op,jc X a[j].num,jC a[j].text,Y a[j].an a[j].nn a[j].cn,Y a[j].ka a[j].kn a[j].kc],jc X n] s (Rw bs[j] s)):
  Calls jZ 58 #[jM #[jc X op,jc X num,jC text,Y an nn cn,Y ka m kc],jc X n] w (Rw (decide (op=7/\num=n)||bs.any id) w):=by
 have c:=AE w<|Bu op num text an nn cn ka m kc;have S:=Ab V;have W:=Ab v;have z:=Ab x;have A:=y.below c NLN;clear V v x y;by_cases d:op=7/\num=n
 .have g:=Ab (show(decide (op=7/\num=n)||bs.any id)=jD by rw[zJ d];rfl);have e7:(op==7)=jD:=zD.2 d.1;have en:(num==n)=jD:=zD.2 d.2;clear d;go_enter func58,ntmps58
  go_wp2
  go_ret
  exact⟨by rw[Aa g];rfl,c⟩
 .have g:=Ab (show(decide (op=7/\num=n)||bs.any id)=bs.any id by rw[zH d];rfl);have hc:((op==7)=jE/\(num==n)=(num==n))\/((op==7)=jD/\(num==n)=jE):=by
   by_cases h:op=7
   .exact .inr ⟨zD.2 h,zA.2 λe=>d ⟨h,e⟩⟩
   .exact .inl ⟨zA.2 h,rfl⟩
  clear d;generalize (decide (op=7/\num=n)||bs.any id)=zz at g|-;obtain⟨e7,en⟩|⟨e7,en⟩:=hc
  all_goals
   go_enter func58,ntmps58
   go_wp2_with fail
   generalize jK w (Bu op num text an nn cn ka m kc)=aa at c A|-;go_loopw [19] (λi wr=>∃j:Nat,j<=m/\i=jc X j/\Ai aa wr/\Hid ((bs.take j).any id=jE)) (λi _=>m-(intOf i).toNat)
   case atStart=>exact⟨0,zE _,rfl,BRN,Ab rfl⟩
   case round=>
    obtain⟨j,af,rfl,f,B⟩:=hrel;by_cases o:j<m
    .have ag:(j:Int)<(m:Int):=Oa;have t:j<T a:=by rw[Aa W];exact o
     have p:j<T bs:=by rw[Aa z];exact o
     obtain⟨b,ah,rfl,ai,hc⟩:=(A.below f NLN) j t;have c0:=hc 0 Ob;have c1:=hc 1 Ob;have c2:=hc 2 Ob;have c3:=hc 3 Ob;have c4:=hc 4 Ob;simp only[K5.cs,zX,Z3,Z4]at c0 c1 c2 c3 c4;have q:=Ab<|Aa S j t p;have C:=Ab<|show bs[j]=jE->(bs.take<|j+1).any id=jE from λh=>Afd p (Aa B) h;have D:=Ab<|show bs[j]=jD->bs.any id=jD from λh=>AhH p h;have E:=Ab o;generalize a[j]=k at c0 c1 c2 c3 c4 q;generalize bs[j]=ab at q C D;obtain⟨F,G,H,I,J,K,L,M,N⟩:=k;dsimp only at c0 c1 c2 c3 c4 q;clear hc o t p;have O:=c.trans<|f.mono c.size;have u:=AE wr<|Bu F G H I J K L M N;have ac:=O.trans<|u.mono O.size;obtain⟨aj,d1,d2,d3,d4,_⟩:=Ap<|Ag.new wr #[jc X F,jc X G,jC H,Y I J K,Y L M N] 121;go_wp2_with fail
     refine(Aa q _ ac).mono ?_;rintro r ak ⟨rfl,hb3⟩;have P:=(f.trans<|u.mono f.size).trans<|hb3.mono<|zB f.size u.size;cases ab with
     |true=>
      have l:=Ab<|Aa D rfl;go_wp2
      go_ret
      exact⟨by rw[Aa g,Aa l];rfl,c.trans<|P.mono c.size⟩
     |false=>
      have l:=Ab<|Aa C rfl;go_wp2
      go_roundw
      case rel=>exact⟨j+1,Aa E,O1,P,l⟩
      case measure=>have:=Aa E;simp[intOf];omega
    .have e:j=m:=Oa;subst e;have l:=Ab (show bs.any id=jE by rw[<-Aa B,zf<|by rw[Aa z];exact NLN]);go_wp2
     go_ret
     exact⟨by rw[Aa g,Aa l];rfl,c.trans<|f.mono c.size⟩
theorem Fw {n:Int}{e:Ex}(a:e.aD=[])(h:Tq w e k)(hu:usE n e=decide (k.op=7/\k.num=n)):Calls jZ 58 #[jM #[V X k.op,V X k.num,jC k.text,Y k.an k.nn k.cn,Y k.ka k.kn k.kc],V X n] w<|Rw (usE n e) w:=by
 have:=KQ n k.op k.num k.text k.an k.nn k.cn k.ka 0 k.kc Ob [] rfl [] rfl w (Dx w _) (λj a1=>H9 a1 Ox)
 grind [Tq.leaf]
theorem Kt (n:Int):∀(e:Ex) (k:K5) (w:jB),Tq w e k->Bp e=jD->Calls jZ 58 #[jM #[V X k.op,V X k.num,jC k.text,Y k.an k.nn k.cn,Y k.ka k.kn k.kc],V X n] w (Rw (usE n e) w)
 |.un i op c,k,w,h,ho=>by
  obtain⟨p,q,h3,s,h5,a,f,g⟩:=h;simp only[Bp,zF,zG]at ho;have e0:usE n (.un i op c)=(decide (k.op=7/\k.num=n)||[usE n c].any id):=by grind [usE]
  rw[e0,h5];exact KQ n k.op k.num k.text k.an k.nn k.cn k.ka 1 k.kc Ob [a] rfl [usE n c] rfl w f (λj a1 a2 b d=>by
   match j,a1 with
   |0,_=>exact Kt n c a b (g.below d NLN) ho.2)
 |.bin i op l r,k,w,h,ho=>by
  obtain⟨p,q,h3,s,h5,a,m,f,g,o⟩:=h;simp only[Bp,zF,zG]at ho;have e0:usE n (.bin i op l r)=(decide (k.op=7/\k.num=n)||[usE n l,usE n r].any id):=by grind [usE]
  rw[e0,h5];exact KQ n k.op k.num k.text k.an k.nn k.cn k.ka 2 k.kc Ob [a,m] rfl [usE n l,usE n r] rfl w f (λj a1 a2 b d=>by
   match j,a1 with
   |0,_=>exact Kt n l a b (g.below d NLN) ho.2.1
   |1,_=>exact Kt n r m b (o.below d NLN) ho.2.2)
 |.ite i c t e,k,w,h,ho=>by
  obtain⟨p,q,h3,s,h5,a,m,u,f,g,o,v⟩:=h;simp only[Bp,zF]at ho;have e0:usE n (.ite i c t e)=(decide (k.op=7/\k.num=n)||[usE n c,usE n t,usE n e].any id):=by grind [usE]
  rw[e0,h5];exact KQ n k.op k.num k.text k.an k.nn k.cn k.ka 3 k.kc Ob [a,m,u] rfl [usE n c,usE n t,usE n e] rfl w f (λj a1 a2 b d=>by
   match j,a1 with
   |0,_=>exact Kt n c a b (g.below d NLN) ho.1
   |1,_=>exact Kt n t m b (o.below d NLN) ho.2.1
   |2,_=>exact Kt n e u b (v.below d NLN) ho.2.2)
 |.int ..,k,w,h,ho=>Fw rfl h D6
 |.text ..,k,w,h,ho=>Fw rfl h D6
 |.bool ..,k,w,h,ho=>Fw rfl h D6
 |.set ..,k,w,h,ho=>Fw rfl h D6
 |.name ..,k,w,h,ho=>Fw rfl h D6
 |.attr ..,k,w,h,ho=>Fw rfl h D6
 |.lett ..,k,w,h,ho=>Fw rfl h (by rw[h.op,h.num];simp[usE,FC,Acm,Ef])
def OtT (w:jB) (o:M3) (a:L3) (n:Nat):Prop:=match o with
 |none=>n=0
 |some e=>n=1/\∃k,AO w a [k]/\Tq w e k
theorem Ma.t {wz:jB}{lo hi:Nat}{w:jB}{a:L3}{n:Nat}(h:Ma wz lo hi w o a n):OtT w o a n:=by
 cases o with
 |none=>exact h
 |some e=>obtain⟨b,_,k,h3,c⟩:=h;exact⟨b,k,h3,Tl.tq c⟩
theorem OtT.below {w w':jB}{B:Nat}{o:M3}{a:L3}{n:Nat}(h:OtT w o a n)(b:Below B w w')(c:R (Z w)<=B):OtT w' o a n:=by
 cases o with
 |none=>exact h
 |some e=>obtain⟨d,k,h3,f⟩:=h;exact⟨d,k,h3.below b c,f.below b c⟩
def StT (w:jB) (s:S5) (q:Sx×Int):Prop:=s.aC=q.1.aC/\s.name=q.1.name/\s.n=q.2/\OtT w q.1.cond s.ca s.cn/\OtT w q.1.aG s.ga s.gn
theorem StT.below {w w':jB}{B:Nat}{s:S5}{q:Sx×Int}(h:StT w s q)(a:Below B w w')(b:R (Z w)<=B):StT w' s q:=⟨h.1,h.2.1,h.2.2.1,h.2.2.2.1.below a b,h.2.2.2.2.below a b⟩
def XI (w:jB) (a:L3) (ss:N5):Prop:=∀j,(h:j<T ss)->∃b off,a=Q (jA b off U)/\b<R (Z w)/\∀r,r<5->jI w ⟨b,off+j*5+r,U⟩=(ss[j].cs)[r]?
theorem XI.below {a:L3}{ss:N5}(h:XI w a ss)(c:Below B w w')(l:R (Z w)<=B):XI w' a ss:=λj f=>by
 obtain⟨b,d,g,i,h3⟩:=h j f;exact⟨b,d,g,zL i c.size,λr k=>(c.cell (p:=⟨b,d+j*5+r,U⟩) (Oa:b<B)).trans<|h3 r k⟩
theorem XJ (a:N5)(j:Nat)(h:j<T a):∀r,r<5->(a.flatMap S5.cs)[j*5+r]? =(a[j].cs)[r]? :=by
 induction a generalizing j with
 |nil=>simp at h
 |cons k a b=>
   intro r c;have d:T k.cs=5:=rfl
   grind
theorem Uf:∀(a:N5),T (a.flatMap S5.cs)=T a*5:=by intro a;induction a<;>intros<;>grind [List.length_cons,S5.cs,zC]
theorem Aa8 {a:L3}{m:Nat}{ss:N5}(h:jO w B 119 5 (Y a m c) m<|ss.flatMap S5.cs)(f:T ss=m):XI w a ss:=λj b=>by
 obtain⟨x,c,e,hx⟩:=Ae h;cases e;obtain⟨g,rfl,_,hc⟩:=hx Oa;refine⟨g,0,rfl,(h.lt g rfl).2,λr d=>?_⟩;have q:=XJ ss j b r d;cases hu:(ss[j].cs)[r]? with
 |none=>
  have:T (ss[j].cs)=5:=rfl;rw[List.getElem?_eq_none_iff]at hu;omega
 |some u=>
  rw[hu]at q;have:=hc _ u q;rw[zY];exact this
theorem MY {a:L3}{ss:N5}(h:XI w a ss){j:Nat}(b:j<T ss):∃g o,a=Q (jA g o U)/\g<R (Z w)/\jI w ⟨g,o+j*5,U⟩=Q (V X ss[j].aC)/\jI w ⟨g,o+j*5+1,U⟩=Q (jC ss[j].name)/\jI w ⟨g,o+j*5+2,U⟩=Q (V X ss[j].n)/\jI w ⟨g,o+j*5+3,U⟩=Q (Y ss[j].ca ss[j].cn ss[j].cc)/\jI w ⟨g,o+j*5+4,U⟩=Q (Y ss[j].ga ss[j].gn ss[j].gc):=by
 obtain⟨g,o,e,hg,hc⟩:=h j b;exact⟨g,o,e,hg,hc 0 Ob,hc 1 Ob,hc 2 Ob,hc 3 Ob,hc 4 Ob⟩
structure KpT (w:jB) (a:L3) (n:Nat) (ss:N5) (D:List (Sx×Int)):Prop where
 len:T ss=n
 bS:T D=n
 dQ:XI w a ss
 bT:∀j,(h1:j<T ss)->(h2:j<T D)->StT w ss[j] D[j]
theorem KpT.below {w w':jB}{B:Nat}{a:L3}{n:Nat}{ss:N5}{b:List (Sx×Int)}(h:KpT w a n ss b)(c:Below B w w')(d:R (Z w)<=B):KpT w' a n ss b:=
 ⟨h.len,h.bS,h.dQ.below c d,λj f g=>(h.bT j f g).below c d⟩
theorem KpT.nil (w:jB):KpT w U 0 [] []:=⟨rfl,rfl,λj h=>H9 h Ox,λj h=>H9 h Ox⟩
theorem KpT.cons {b:L3}{n n' c':Nat}{ss:N5}{a:List (Sx×Int)}{s:S5}(c:T ss=n)(hd:T a=n)(he:∀j,(d:j<T ss)->(f:j<T a)->StT w ss[j] a[j])(hs:StT w s q)(g:n'=n+1)(O:jO w B 119 5 (Y b n' c') n'<|s.cs++ss.flatMap S5.cs):KpT w b n' (s ::ss)<|q ::a:=by
 subst g;refine⟨by simp[c],by simp[hd],Aa8 (by rw[List.flatMap_cons];exact O)<|by simp[c],λj d f=>?_⟩
 grind
theorem XI.news {g a:Nat}{ss:N5}(h:XI w (Q<|jA g a U) ss):∀j u,(ss.flatMap S5.cs)[j]? =Q u->jI w (((jA g a U):jG).add j)=Q u:=λj u hu=>by
 have c:=(zP.1 hu).1;rw[Uf]at c;have hq:j / 5<T ss:=Oa;obtain⟨b,o,e,_,hc⟩:=h (j / 5) hq;simp only[Option.some.injEq,Addr.mk.injEq]at e;obtain⟨rfl,rfl,_⟩:=e;have e2:((jA g a U):jG).add j=⟨g,a+j / 5*5+j % 5,U⟩:=by
  have:((jA g a U):jG).add j=⟨g,a+j,U⟩:=Qx;rw[this,(Oa:a+j / 5*5+j % 5=a+j)]
 rw[e2,hc (j % 5) Oa,<-XJ ss (j / 5) hq (j % 5) Oa,<-hu]
 congr 1
 omega
theorem Ajn (ss:N5):∀u∈ss.flatMap S5.cs,u.oneCell'=jD:=λu hu=>by
 obtain⟨s,_,h⟩:=List.mem_flatMap.1 hu;simp[S5.cs]at h;obtain rfl|rfl|rfl|rfl|rfl:=h<;>rfl
def Vf:M3->Prop
 |none=>True
 |some e=>Bp e=jD
theorem Lj {ops:Array Oper}{rest:List Oper}{o:Oper}{b:Act}{Q:Exit->Act->jB->Prop}(g:o.guard=U)(s x:Operand)(j:o.op= .call { callee:= .builtin .append,args:=#[s,x],argTypes:=#[30,30] })(base:Nat)(v:jF)(k:Nat)(d:L7)(hs:b.eval s=v)(f:jO w base 9 1 v k d)(a:L3)(n c c2:Nat)(ss:L4)(hx:b.eval x=Y a n c)(h:Aq w a n c2 ss)(B:k+n<=1048576)(l:base<=R (Z w))
  (m:∀v' w',jO w' base 9 1 v' (k+n) (d++ss.map Value.string)->Below base w w'->wpList jZ ops Q rest (b.put o.dst v') w'):wpList jZ ops Q (o ::rest) b w:=by
 obtain⟨i,hi,p,r,t⟩:=info_parts GB;cases a with
 |none=>
   have h0:n=0:=by
    obtain q|q:=Nat.eq_zero_or_pos n
    all_goals grind [Aq.cells]
   subst h0;obtain rfl:ss=[]:=zd h.len.symm;exact AY g s x 30 j base 9 i 1 c underlying30 hi v k d hs f hx<|m v w (by simpa using f) BRN
 |some y=>
   refine G7 w g s x 30 j base 9 i (jC jW) 1 16 underlying30 hi p r t rfl Ob v k d hs f y n c (ss.map Value.string) hx ?_ (Aq.bX h) ?_ ?_ ?_ l ?_
   .grind [Aq.len]
   .intro u hu;obtain⟨s,_,rfl⟩:=zc.1 hu;rfl
   .unfold maxLen;omega
   .omega
   .intro v' w' z A _;exact m v' w' z<|BRN.grown A l λq hq=>(f.lt q hq).1
def Dk:List (Nat->L6)->Nat->L6×L2
 |[],_=>([],[])
 |f ::fs,b=>(f b++(Dk fs<|b+T (f b)).1,(((b+T (f b):Nat):Int)-1) ::(Dk fs<|b+T (f b)).2)
theorem Ud (f:Nat->L6):∀(a:List<|Nat->L6) (b:Nat),Dk (a++[f]) b=((Dk a b).1++f (b+T (Dk a b).1),(Dk a b).2++[((b+T (Dk a b).1+T (f<|b+T (Dk a b).1):Nat):Int)-1])
 |[],b=>by simp[Dk]
 |g ::a,b=>by
  rw[List.cons_append,Dk,Ud f a,Dk]
  grind
theorem XF:∀(a:List<|Nat->L6) (b:Nat),T (Dk a b).2=T a
 |[],b=>rfl
 |g ::a,b=>by rw[Dk];simp[XF a]
theorem Ue:∀(a:List<|Nat->L6) (b j:Nat),T (Dk (a.take j) b).1<=T (Dk a b).1
 |[],b,j=>by simp[Dk]
 |g ::a,b,0=>by simp[Dk]
 |g ::a,b,j+1=>by
  rw[List.take_succ_cons,Dk,Dk];simp only[zC];have:=Ue a (b+T (g b)) j;omega
structure Pk (B:Nat) (v:jF) (w:jB) (v':jF) (w':jB):Prop where
 low:Below B w w'
 block:∀k,k<R (Z w)->jL v≠Q k->(Z w')[k]? =(Z w)[k]?
 new:∀q,jL v'=Q q->jL v=Q q\/R (Z w)<=q
theorem Pk.trans {B:Nat}{v a b:jF}{w c w2:jB}(h:Pk B v w a c)(k:Pk B a c b w2):Pk B v w b w2:=by
 have d:=h.low.size;refine⟨h.low.trans k.low,λq f g=>?_,λq hq=>?_⟩
 all_goals grind [Pk.block,Pk.new]
theorem Pk.of_all (h:Ai w w')(a:B<=R (Z w)):Pk B v w v w':=
 ⟨h.mono a,λk b _=>h.block k b,λq hq=> .inl hq⟩
theorem Pk.row {b c:L7}(h:Pk B v w v' w')(C:Cv w B v N b c){g:Nat}{a:Array jF}{t:jV}(R:Ag w g a t)(d:t≠170):Ag w' g a t:=
 ⟨(h.block g R.lt<|Ac R C.aN d).trans R.out⟩
def PuO (B:Nat) (N:L6) (v:jF) (nv kv:L7) (M:L6) (w:jB) (r:Ending) (w':jB):Prop:=
 ∃v' nv' kv',r=jN v'/\Cv w' B v' (N++M) (nv++nv') (kv++kv')/\Pk B v w v' w'/\(∀j,(hj:j<T nv')->∀q,jL nv'[j]=Q q->R (Z w)<=q)/\∀j,(hj:j<T kv')->∀q,jL kv'[j]=Q q->R (Z w)<=q
theorem Pk.kepQ {wz:jB}{lo hi B:Nat}{w w':jB}{a c:L7}(h:Pk B v w v' w')(C:Cv w B v N a c)(d:R (Z wz)<=B)(hv:∀q,jL v=Q q->q<lo\/hi<=q):Ct wz lo hi w w':=
 ⟨h.low.size,λb f hs=>h.block b hs λe=>by have:=(C.bW.1 b e).1;have:=hv b e;omega,λb g r=>h.row C r Ob⟩
def PuV (wz:jB) (lo hi B:Nat) (w0:jB) (k:K5) (f:Nat->L6):Prop:=
 ∀(N:L6) (v:jF) (nv kv:L7) (w:jB),Ct wz lo hi w0 w->hi<=R (Z w)->(∀q,jL v=Q q->q<lo\/hi<=q)->Cv w B v N nv kv->B<=R (Z w)->T N+T (f<|T N)<=65535->Calls jZ 61 #[jM #[V X k.op,V X k.num,jC k.text,Y k.an k.nn k.cn,Y k.ka k.kn k.kc],v] w (PuO B N v nv kv (f<|T N) w)
structure Kq (B tb nb:Nat) (w:jB) (v:jF) (tc:Array jF) (x0 x1 x2 u:jF) (ss:L4) (N:L6) (v1:jF) (nv kv:L7) (kw:jF) (ks:L2) (w2:jB):Prop where
 C:Cv w2 B v1 N nv kv
 K:Pk B v w v1 w2
 Tt:Ag w2 tb tc 121
 Rr:Ag w2 nb #[x0,x1,x2,u,kw] 170
 Uu:jO w2 (R<|Z w) 9 1 u (T ss)<|ss.map Value.string
 O:jO w2 (R<|Z w) 3 1 kw (T ks)<|Ak ks
 apu:∀q,jL u=Q q->∀j,(hj:j<T nv)->jL nv[j]≠Q q
 apk:∀q,jL kw=Q q->∀j,(hj:j<T kv)->jL kv[j]≠Q q
 hv:∀q,jL v1=Q q->q≠nb
theorem Kq.below {f g i u:jF}{ss:L4}{j:jF}{l m:L7}{n:jF}{o:L2}{w2:jB}(h:Kq B b c w v tmps f g i u ss N j l m n o w2)(a:Ai w2 p)(r:B<=R (Z w2)):Kq B b c w v tmps f g i u ss N j l m n o p:=
 ⟨h.C.bM λk _ s=>a.block k s,h.K.trans<|Pk.of_all a r,h.Tt.aA a NLN,h.Rr.aA a NLN,Ad h.Uu λq hq=>a.block q (h.Uu.lt q hq).2,Ad h.O λq hq=>a.block q (h.O.lt q hq).2,h.apu,h.apk,h.hv⟩
theorem Kq.call {m:Nat}{n:Array jF}{o p r u:jF}{ss:L4}{s k:jF}{d f g i:L7}{t:jF}{x:L2}{w2 l:jB}(h:Kq B m c w v n o p r u ss N s d f t x w2)
  (y:Cv l B k (N++M) (d++g)<|f++i)(a:Pk B s w2 k l)(z:∀j,(b:j<T g)->∀q,jL g[j]=Q q->R (Z w2)<=q)(A:∀j,(b:j<T i)->∀q,jL i[j]=Q q->R (Z w2)<=q):
  Kq B m c w v n o p r u ss (N++M) k (d++g) (f++i) t x l:=by
 refine⟨y,h.K.trans a,a.row h.C h.Tt Ob,⟨(a.block c h.Rr.lt λe=>h.hv c e rfl).trans h.Rr.out⟩,Ad h.Uu λq hq=>a.block q (h.Uu.lt q hq).2 λe=>Al h.Uu h.C.aN Ob q hq e,Ad h.O λq hq=>a.block q (h.O.lt q hq).2 λe=>Al h.O h.C.aN Ob q hq e,λq hq j b e=>?_,λq hq j b e=>?_,λq hq=>?_⟩
 .by_cases D:j<T d
  .grind [Kq.apu]
  .rw[z5 Oa]at e;have:=z _ (by simp at b;omega) q e;have:=(h.Uu.lt q hq).2;omega
 .by_cases D:j<T f
  .grind [Kq.apk]
  .rw[z5 Oa]at e;have:=A _ (by simp at b;omega) q e;have:=(h.O.lt q hq).2;omega
 .obtain e|e:=a.new q hq
  .exact h.hv q e
  .have:=h.Rr.lt;omega
theorem Kq.app {k b:Nat}{t:Array jF}{n s u:jF}{ss:L4}{x:jF}{y:L7}{i:jF}{f:L2}{w2 c:jB}{o:Obj}{a:Int}{cap:Nat}(h:Kq B k b w v t n d s u ss N x y z i f w2)(G:B<=R (Z w))(L:R (Z w)<=b)
  (M:jO c (R<|Z w) 3 1 (Y (Q<|jA hi' 0 U) (T f+1) cap) (T f+1)<|Ak f++[V X a])(hg:(jK w2 o).grownBy c<|jL i)(hat:jL i=Q hi'\/hi'=R (Z w2)+1):
  Ag c b #[n,d,s,u,i] 170/\Kq B k b w v t n d s u ss N x y z (Y (Q<|jA hi' 0 U) (T f+1) cap) (f++[a]) (jJ c (jA b 4 U)<|Y (Q<|jA hi' 0 U) (T f+1) cap):=by
 have H:=h.K.low.size;have E:R (Z<|jK w2 o)=R (Z w2)+1:=Ox;have g:∀q,q<R (Z w2)->jL i≠Q q->(Z c)[q]? =(Z w2)[q]? :=λq A D=>(hg.block q (by rw[E];omega) λe=>D e.symm).trans<|Below.heap_alloc w2 o q A;have l:Ag c b #[n,d,s,u,i] 170:=⟨(g b h.Rr.lt<|Ac h.Rr h.O Ob).trans h.Rr.out⟩
 have sc:∀q,q≠b->(Z<|jJ c (jA b 4 U)<|Y (Q<|jA hi' 0 U) (T f+1) cap)[q]? =(Z c)[q]? :=λq hq=>K0 c (jA b 4 U) q _ hq;have C:=h.C;have I:Ag c k t 121:=⟨(g k h.Tt.lt<|Ac h.Tt h.O Ob).trans h.Tt.out⟩
 have J:k≠b:=λe=>by
  have P:=h.Tt.out;have S:=h.Rr.out
  grind
 have m:Cv c B x N y z:=C.cF (λq hq=>g q (C.bW.1 q hq).2 λe=>Al h.O C.aN Ob q e hq) (λj r q hq=>g q (C.bW.2.1 j r q hq).2 λe=>Al h.O (C.aB j (by rw[<-C.len];exact r) r) Ob q e hq) λj r q hq=>g q (C.bW.2.2 j r q hq).2 λe=>h.apk q e j r hq;have F:=Ad (w':=c) h.Uu λq hq=>g q (h.Uu.lt q hq).2 λe=>Al h.O h.Uu Ob q e hq;refine⟨l,m.cF (λq hq=>sc q<|h.hv q hq) (λj r q hq=>sc q λe=>Ac l (m.aB j (by rw[<-m.len];exact r) r) Ob O9) λj r q hq=>sc q λe=>Ac l (m.aD j (by rw[<-m.bY];exact r) r) Ob O9,⟨?_,λq A D=>?_,h.K.new⟩,I.aF (p:=(jA b 4 U)) J _,l.set 4 _,Ad F λq hq=>sc q λe=>Ac l F Ob O9,?_,h.apu,λq hq=>?_,h.hv⟩
 .exact((h.K.low.alloc (zB G H) o).grown hg (by rw[E];omega) λq hq=>H2<|(h.O.lt q hq).1).setCell (p:=(jA b 4 U)) (Oa:B<=b) _
 .exact(sc q Oa).trans ((g q Oa λe=>H2<|(h.O.lt q e).1).trans<|h.K.block q A D)
 .grind [Ac,Ad,Ak]
 .have e:hi'=q:=O8
  grind [Cv.bW,Kq.apk]
theorem MV (wz:jB)(lo hi B:Nat)(bG:R (Z wz)<=B)(w0:jB)(op num:Int)(text:K9)(an:L3)(nn cn:Nat)(ka:L3)(m kc:Nat)(J:M6)(aV:AO w0 ka J)(aW: 0<m->∀b o,ka=Q (jA b o U)->b<R (Z wz)\/(lo<=b/\b<hi))(aX:T J=m)(h3:m<=3)(aY:Nat)(ss:L4)(aZ:∀a0,Ct wz lo hi w0 a0->Aq a0 an nn aY ss)(a1:nn=T ss)(hs:nn<=1048576)(a:List<|Nat->L6)(a2:T a=m)
  (V:∀j,(h:j<T J)->(aq:j<T a)->PuV wz lo hi B w0 J[j] a[j]):
  PuV wz lo hi B w0 ⟨op,num,text,an,nn,cn,ka,m,kc⟩ (λb=>(Dk a b).1++[⟨op,num,text,ss,(Dk a b).2⟩]):=by
 intro N v y z w ar cv a3 aa ab au;simp only[zC,z1]at au;obtain⟨bH,bI,bJ,bK,bL⟩:=info_parts Zf;obtain⟨bO,bP,bQ,bR,bS⟩:=info_parts If;have av:=AE w<|Bu op num text an nn cn ka m kc;have ac:=av.alloc av.size<|EQ op num text U 0 0 U 0 0;have aw:=(Ag.new w #[jc jd op,jc jd num,jC text,Y an nn cn,Y ka m kc] 121).alloc<|EQ op num text U 0 0 U 0 0;have ae:=Ag.new (jK w<|Bu op num text an nn cn ka m kc) #[jc jd op,jc jd num,jC text,Y U 0 0,Y U 0 0] 170;simp only[G0]at ae;have a4:=(aZ w ar).below ac NLN;have a5:=Ab a3;have bT:=Ab aa;have bU:=Ab aW;have bV:∃af,af=jK (jK w<|Bu op num text an nn cn ka m kc) (EQ op num text U 0 0 U 0 0):=⟨_,rfl⟩
 have bX:=Ab aV;have bY:=Ab aX;have ax:=Ab a2;have bZ:=Ab V;have b0:=Ab ar;have a6:=Ab au;have b1:=Ab a1;clear aV aX a2 V ar aZ au a1 av a3 aW;go_enter func61,ntmps61
 go_wp2_with (at_builtin;refine Lj rfl _ _ rfl _ _ 0 [] rfl (World.ownsRow_nil _ (R (Z w)+1+1) _ _) an nn cn aY ss rfl a4 Oa Ox ?_)
 intro cw A P S;obtain⟨af,ay⟩:=bV;have a7:R (Z af)=R (Z w)+1+1:=by rw[ay];simp
 rw[<-ay]at aw ae ac S;clear ay a4;rw[<-a7]at S P;obtain⟨d,l,rfl,_⟩:=Ae P;have ag:=ae.aA S NLN;have az:=ac.trans<|S.mono ac.size;have aB:Kq B (R<|Z w) (R (Z w)+1) w v #[jc jd op,jc jd num,jC text,Y an nn cn,Y ka m kc] (jc jd op) (jc jd num) (jC text) (Y d nn l) ss N v y z (Y U 0 0) []<|jJ A ⟨R (Z w)+1,3,U⟩<|Y d nn l:=by
  have sc:∀q,q≠R (Z w)+1->(Z<|jJ A ⟨R (Z w)+1,3,U⟩<|Y d nn l)[q]? =(Z A)[q]? :=λq hq=>K0 A ⟨R (Z w)+1,3,U⟩ q _ hq;have a8:∀q,q<R (Z w)->(Z<|jJ A ⟨R (Z w)+1,3,U⟩<|Y d nn l)[q]? =(Z w)[q]? :=λq hq=>(sc q Oa).trans<|az.block q hq;refine⟨aa.bM λk _ aC=>a8 k aC,⟨(az.mono ab).setCell (p:=⟨R (Z w)+1,3,U⟩) (Oa:B<=R (Z w)+1) _,λk ah _=>a8 k ah,λq hq=> .inl hq⟩,(aw.aA S NLN).aF (p:=⟨R (Z w)+1,3,U⟩) (Oa:R (Z w)≠R (Z w)+1) _,ag.set 3 _,?_,H3,λq hq j n e=>?_,λq hq=>Hj,λq hq=>?_⟩
  .have q:=Fq P (Oa:R (Z w)<=R (Z af));have q2:=Ad (w':=jJ A ⟨R (Z w)+1,3,U⟩<|Y d nn l) q λq hq=>sc q<|H2<|(P.lt q hq).1;rw[<-Aa b1];simpa using q2
  .have ah:=(aa.bW.2.1 j n q e).2;have aq:=(P.lt q hq).1;omega
  .have:=(aa.bW.1 q hq).2;omega
 obtain⟨m0,ai,aj,ak,al⟩:=Cm ag;have b2:=λk=>ag.frozen k;obtain⟨b3,b4,b5,b6,b7⟩:=Cm aB.Tt;clear aw ae ac S P ag az aa;go_wp2_with fail
 generalize jJ A ⟨R (Z w)+1,3,U⟩ (Y d nn l)=cy at aB b3 b4 b5 b6 b7|-;clear m0 ai aj ak al b2 a7;go_loopw [1,24] (λnd i wr=>∃ (j:Nat) (a9:jF) (M:L6) (c:L2) (D E:L7),j<=m/\i=jc jd j/\Hid (Dk (a.take j) (T N)=(M,c))/\Kq B (R<|Z w) (R (Z w)+1) w v #[jc jd op,jc jd num,jC text,Y an nn cn,Y ka m kc] (jc jd op) (jc jd num) (jC text) (Y d nn l) ss (N++M) nd (y++D) (z++E) a9 c wr/\(∀j,(n:j<T D)->∀q,jL D[j]=Q q->R (Z w)<=q)/\∀j,(n:j<T E)->∀q,jL E[j]=Q q->R (Z w)<=q) (λ_ i _=>m-(intOf i).toNat)
 case atStart=>exact⟨0,_,[],[],[],[],zE _,rfl,Ab rfl,by simpa using aB,λj n=>H9 n Ox,λj n=>H9 n Ox⟩
 case round=>
  obtain⟨j,a9,M,c,D,E,n,rfl,aD,X,aE,aG⟩:=hrel;obtain⟨F,G,rfl,_⟩:=Ae X.O;have zW:=X.K.low.size;have aI:B<=R (Z wr):=zB ab zW;by_cases ao:j<m
  .have cz:(j:Int)<(m:Int):=Oa;have aJ:j<T J:=by rw[Aa bY];exact ao
   have aK:j<T a:=by rw[Aa ax];exact ao
   have ap:Ct wz lo hi w0 wr:=(Aa b0).trans<|X.K.kepQ (Aa bT) bG<|Aa a5;have ba:∀q,jL u1=Q q->q<lo\/hi<=q:=λq hq=>(X.K.new q hq).elim (Aa a5 q) λh=> .inr Oa;obtain⟨g,cA,rfl,hg,bb⟩:=Bs (Gx ap.1 (Aa bX) λb o e b8=>ap.2.1 b (Aa bU Oa b o e) b8) Oa;obtain⟨c0,c1,c2,c3,c4⟩:=bb j aJ;have aL:=Ab<|Aa bZ j aJ aK;have hF:Dk (a.take<|j+1) (T N)=(M++a[j] (T N+T M),c++[((T N+T M+T (a[j]<|T N+T M):Nat):Int)-1]):=by rw[zT aK,Ud,Aa aD]
   have bc:T (N++M)+T (a[j]<|T<|N++M)<=65535:=by
    have q:=Ue a (T N)<|j+1;rw[hF]at q;simp only[zC]at q|-;have:=Aa a6;omega
   have bd:=Ab hF;have aM:=Ab bc;have bf:=Ab ao;have bg:=Ab (show T c<=3 by have:=XF (a.take j)<|T N;rw[Aa aD]at this;simp at this;have:=Aa ax;omega);generalize J[j]=k at c0 c1 c2 c3 c4 aL;generalize a[j]=f at aL bd aM;obtain⟨bh,bi,bj,bk,bl,bm,bn,bo,bp⟩:=k;dsimp only at c0 c1 c2 c3 c4;have s:=AE wr<|Bu bh bi bj bk bl bm bn bo bp;have br:=Ab<|X.below s aI;have b9:=Ab<|ap.trans<|Ct.aH s;have ca:=Ab ba;have cb:hi<=R (Z<|jK wr<|Bu bh bi bj bk bl bm bn bo bp):=H2 s.size;have cc:=zB aI s.size;clear ao aJ aK bb ap hF bc X s ba;go_wp2_with fail
   refine(Aa aL (N++M) _ (y++D) (z++E) _ (Aa b9) cb (Aa ca) (Aa br).C cc<|Aa aM).mono ?_;rintro r aO ⟨cB,cd,ce,rfl,bs,bt,aP,aQ⟩;have H:=(Aa br).call bs bt aP aQ;obtain⟨L,t⟩:∃L,L=T (N++M++f (T (N++M))):=⟨_,rfl⟩
   obtain⟨cC,cD,ad,_⟩:=Ae H.C.aN;rw[<-t]at ad;subst ad;have cf:L<=65535:=by rw[t,zC];exact Aa aM
   have aR:=Ab t;have cE:R (Z w)<=R (Z aO):=H.K.low.size;have bu:=Ab H;have W:=G1 H.O<|jH #[jc jd<|(L:Int)-1] 3;obtain⟨m0,ai,aj,ak,al⟩:=Cm H.Rr;obtain⟨cg,n1,n2,ch,ci⟩:=Cm<|H.Rr.alloc<|jH #[jc jd<|(L:Int)-1] 3;have cF:=Aa bg;clear bs bt t H c0 c1 c2 c3 c4 bg;go_wp2_with (at_builtin;refine G6 _ rfl _ _ 44 rfl (R<|Z w) 3 bO (jc jd 0) 1 8 underlying44 bP bQ bR bS rfl Ob _ _ _ rfl W ⟨R<|Z aO,0,U⟩ 1 1 [jc jd<|(L:Int)-1] rfl rfl ?c1 ?c2 Ob ?c3 ?c4 ?c5 (R (Z aO)+1) Ox ?_)
   case c1=>exact DP _ _ _ _ Ox
   case c2=>intro u hu;simp at hu;subst hu;rfl
   case c3=>unfold maxLen;simp;omega
   case c4=>first|omega|(simp;omega)
   case c5=>simp;omega
   intro gk cap cG bv I hat cj;obtain⟨aS,aT⟩:=(Aa bu).app ab (zU _) bv I hat;obtain⟨cH,cI,cJ,cK,cL⟩:=Cm aS;have cM:=λk=>aS.frozen k;rw[zl N,zl y,zl z]at aT;have ck:=Ab aT;have cl:=Ab (show Dk (a.take<|j+1) (T N)=(M++f (T<|N++M),c++[(L:Int)-1]) by rw[Aa aR,Aa bd];simp only[zC]);have cm:=Ab<|MP aE<|TW aP (O0:R (Z w)<=_);have co:=Ab<|MP aG<|TW aQ (O0:R (Z w)<=_);clear bv I hat cj aS aT W bu m0 ai aj ak al cg n1 n2 ch ci aP aQ;go_wp2
   go_roundw
   case rel=>exact⟨j+1,_,_,_,D++cd,E++ce,Aa bf,O1,cl,Aa ck,Aa cm,Aa co⟩
   case measure=>have:=Aa bf;simp[intOf];omega
  .have cp:j=m:=Oa;subst cp;have bw:=Ab (show Dk a (T N)=(M,c) by rw[<-Aa aD,zf<|by rw[Aa ax];exact NLN]);obtain⟨L,t⟩:∃L,L=T (N++M):=⟨_,rfl⟩
   have cf:L<=65535:=by have:=Aa a6;rw[Aa bw]at this;rw[t,zC];simp at this;omega
   obtain⟨cq,cx,ad,_⟩:=Ae X.C.aN;rw[<-t]at ad;subst ad;obtain⟨m0,ai,aj,ak,al⟩:=Cm X.Rr;have W:=G1 X.C.aN<|EQ op num text d nn l F (T c) G;have bx:=G4<|G8 wr<|EQ op num text d nn l F (T c) G;rw[<-t]at W;have aR:=Ab t;have bz:=Ab X;have cr:=Ab aE;have cs:=Ab aG;clear t X aE aG;go_wp2_with (at_builtin;refine G6 _ rfl _ _ 67 rfl B 170 bH (jM #[jc jd 0,jc jd 0,jC jW,Y U 0 0,Y U 0 0]) 5 80 underlying67 bI bJ bK bL rfl Ob (Y cq L cx) L (Yv (N++M) (y++D)<|z++E) rfl W ⟨R<|Z wr,0,U⟩ 1 1 [jc jd op,jc jd num,jC text,Y d nn l,Y F (T c) G] rfl rfl bx (by intro u hu;simp at hu;obtain rfl|rfl|rfl|rfl|rfl:=hu<;>rfl) Ob O2 Oa O0 _ rfl ?_)
   intro g7 c7 bA bB I hat ct;have X:=Aa bz;have s:=AE wr<|EQ op num text d nn l F (T c) G;have bC:=X.C.bM (w':=jK wr<|EQ op num text d nn l F (T c) G) λk _ aC=>s.block k aC;have bD:=Fq (Ad (w':=jK wr<|EQ op num text d nn l F (T c) G) X.Uu λq hq=>s.block q (X.Uu.lt q hq).2) ab;have bE:=Fq (Ad (w':=jK wr<|EQ op num text d nn l F (T c) G) X.O λq hq=>s.block q (X.O.lt q hq).2) ab;have aU:=bC.bN (x:=⟨op,num,text,ss,c⟩) bD bE (λj n q hq e=>X.apu q e j n hq) (λj n q hq e=>X.apk q e j n hq) (by rw[<-Aa aR];exact bB) I;rw[zl N,zl y,zl z]at aU;have bF:Pk B v w (Y (Q<|jA g7 0 U) (L+1) c7) bA:=X.K.trans ⟨(s.mono aI).grown I O0 λq hq=>(X.C.bW.1 q hq).1,λk ah aq=>BL I k ah aq,λq hq=>by
    have e:g7=q:=O8;subst e;exact hat.imp id λe=>by rw[e];exact zU _⟩
   have cu:=Ab<|show PuO B N v y z ((λb=>(Dk a b).1++[⟨op,num,text,ss,(Dk a b).2⟩])<|T N) w (jN<|Y (Q<|jA g7 0 U) (L+1) c7) bA from⟨_,_,_,rfl,by dsimp only;rw[Aa bw];exact aU,bF,(MP (Aa cr)<|Xj λq hq=>(X.Uu.lt q hq).1),(MP (Aa cs)<|Xj λq hq=>(X.O.lt q hq).1)⟩;clear bB I hat ct X s bC bD bE aU bF W bx bz;go_wp2
   go_ret
   exact Aa cu
theorem In (e:Ex): 1<=e.aL:=by cases e<;>simp[Ex.aL]<;>omega
theorem GY {wz:jB}{lo hi B:Nat}{w0:jB}(c:R (Z wz)<=B){e:Ex}(d:e.aD=[])(h:Tq w0 e k)(f:Ek e=λ_=> [Ef e]):PuV wz lo hi B w0 k<|Ek e:=by
 have hq:k.op=(Ef e).op/\k.num=(Ef e).num/\k.text=(Ef e).text/\k.kn=0/\SQ w0 k.an k.nn k.cn (Ef e).aB/\(Ef e).aD=[]:=by cases e<;>first|exact⟨h.1,h.2.1,h.2.2.1,h.2.2.2.1,h.2.2.2.2,rfl⟩|cases d
 obtain⟨g,i,h3,n,h5,l⟩:=hq;have q:=MV wz lo hi B c w0 k.op k.num k.text k.an k.nn k.cn k.ka 0 k.kc [] (Dx w0 _) (λh=>H9 h Ob) rfl Ob k.cn (Ef e).aB (λo a=>(T9 a.1 a.2.2 h5.1 h5.2.2).1) h5.1.len (by rw[h5.1.len];exact h5.2.1) [] rfl (λj m=>H9 m Ox);have e0:(λb=>(Dk [] b).1++[(⟨k.op,k.num,k.text,(Ef e).aB,(Dk [] b).2⟩:Nd)])=Ek e:=by
  rw[f]
  funext b
  simp only[Dk,List.nil_append];rw[g,i,h3,<-l]
 rw[e0]at q;obtain⟨p,a1,a2,a3,a4,a5,r,s,t⟩:=k
 grind
theorem NZ (w:jB)(a:L3):Aq w a 0 0 []:=⟨rfl,zE _,zE _,λj h=>H9 h Ox,λj h=>H9 h Ox⟩
theorem Pc {wz:jB}{lo hi B:Nat}{w0:jB}(a:R (Z wz)<=B):∀(e:Ex) (k:K5),NT wz lo hi w0 k e->PuV wz lo hi B w0 k (Ek e)
 |.un i op c,k,h=>by
  obtain⟨d,f,h3,g,h5,m,n,o,s⟩:=h;obtain⟨p,a1,a2,a3,a4,a5,u,A,v⟩:=k;dsimp only at d f h3 g h5 o m;subst d f h3 g h5;have q:=MV wz lo hi B a w0 p 0 ⟨#[]⟩ a3 0 a5 u 1 v [n] o (λ_=>m) rfl Ob 0 [] (λw _=>NZ w _) rfl Ob [Ek c] rfl (λj x C=>by
   match j,x with
   |0,_=>exact Pc a c n s)
  have e0:(λb=>(Dk [Ek c] b).1++[(⟨p,0,⟨#[]⟩,[],(Dk [Ek c] b).2⟩:Nd)])=Ek (.un i p c):=by grind [Dk,Ek,AS,In,Ex.aL]
  grind
 |.bin i op l r,k,h=>by
  obtain⟨d,f,h3,g,h5,m,n,y,o,s,z⟩:=h;obtain⟨p,a1,a2,a3,a4,a5,u,A,v⟩:=k;dsimp only at d f h3 g h5 o m;subst d f h3 g h5;have q:=MV wz lo hi B a w0 p 0 ⟨#[]⟩ a3 0 a5 u 2 v [n,y] o (λ_=>m) rfl Ob 0 [] (λw _=>NZ w _) rfl Ob [Ek l,Ek r] rfl (λj x C=>by
   match j,x with
   |0,_=>exact Pc a l n s
   |1,_=>exact Pc a r y z)
  have e0:(λb=>(Dk [Ek l,Ek r] b).1++[(⟨p,0,⟨#[]⟩,[],(Dk [Ek l,Ek r] b).2⟩:Nd)])=Ek (.bin i p l r):=by grind [Dk,Ek,AS,In,Ex.aL]
  grind
 |.ite i c t e,k,h=>by
  obtain⟨d,f,h3,g,h5,m,n,y,D,o,s,z,E⟩:=h;obtain⟨p,a1,a2,a3,a4,a5,u,A,v⟩:=k;dsimp only at d f h3 g h5 o m;subst d f h3 g h5;have q:=MV wz lo hi B a w0 27 0 ⟨#[]⟩ a3 0 a5 u 3 v [n,y,D] o (λ_=>m) rfl Ob 0 [] (λw _=>NZ w _) rfl Ob [Ek c,Ek t,Ek e] rfl (λj x C=>by
   match j,x with
   |0,_=>exact Pc a c n s
   |1,_=>exact Pc a t y z
   |2,_=>exact Pc a e D E)
  have e0:(λb=>(Dk [Ek c,Ek t,Ek e] b).1++[(⟨27,0,⟨#[]⟩,[],(Dk [Ek c,Ek t,Ek e] b).2⟩:Nd)])=Ek (.ite i c t e):=by grind [Dk,Ek,AS,In,Ex.aL]
  grind
 |.int ..,k,h=>GY a rfl (Tl.tq h) rfl
 |.text ..,k,h=>GY a rfl (Tl.tq h) rfl
 |.bool ..,k,h=>GY a rfl (Tl.tq h) rfl
 |.set ..,k,h=>GY a rfl (Tl.tq h) rfl
 |.name ..,k,h=>GY a rfl (Tl.tq h) rfl
 |.attr ..,k,h=>GY a rfl (Tl.tq h) rfl
 |.lett ..,k,h=>GY a rfl (Tl.tq h) rfl
structure SE (B ob:Nat) (w5:jB) (nd sv:jF) (N:L6) (L:L9) (nv kv:L7) (w:jB):Prop where
 C:Cv w B nd N nv kv
 S:jO w B 113 4 sv (T L)<|EC L
 Rr:Ag w ob #[nd,sv,Y U 0 0] 70
 F:Below B w5 w
 low:B<=ob
theorem SE.below {c:jB}{nd:jF}{g:L7}{w w':jB}(h:SE B b c nd v' N L f g w)(a:Ai w w'):SE B b c nd v' N L f g w':=
 ⟨h.C.bM λk _ i=>a.block k i,Ad h.S λq hq=>a.block q (h.S.lt q hq).2,h.Rr.aA a NLN,h.F.trans<|a.mono<|by have:=h.Rr.lt;have:=h.low;omega,h.low⟩
theorem SE.set {d:jB}{nd c:jF}{i:L7}{w:jB}(h:SE B b d nd c N L f i w){g j:Nat}{u:jF}{k:Array jF}{t:jV}(R:Ag w g k t)(l:t≠170)(m:t≠9)(h3:t≠3)(o:t≠70)(h5:jL c≠Q g)(hg:B<=g):SE B b d nd c N L f i<|jJ w (jA g j U) u:=by
 have sc:∀q,q≠g->(Z<|jJ w (jA g j U) u)[q]? =(Z w)[q]? :=λq hq=>K0 w (jA g j U) q u hq;have n:b≠g:=λe=>by
  have r:=h.Rr.out;have s:=R.out
  grind
 exact⟨h.C.cF (λq hq=>sc q λe=>Ac R h.C.aN l O9) (λj a q hq=>sc q λe=>Ac R (h.C.aB j (by rw[<-h.C.len];exact a) a) m O9) λj a q hq=>sc q λe=>Ac R (h.C.aD j (by rw[<-h.C.bY];exact a) a) h3 O9,Ad h.S λq hq=>sc q λe=>h5 O9,h.Rr.aF (p:=(jA g j U)) n u,h.F.setCell (p:=(jA g j U)) hg u,h.low⟩
theorem SE.put {a:Nat}{k:jB}{nd b f:jF}{g i m:L7}{w w':jB}(h:SE B a k nd f N L g i w)(c:Cv w' B b (N++M) (g++l)<|i++m)(K:Pk B nd w b w'):
  Ag w' a #[nd,f,Y U 0 0] 70/\SE B a k b f (N++M) L (g++l) (i++m) (jJ w' (jA a 0 U) b):=by
 have R':=K.row h.C h.Rr Ob;have sc:∀q,q≠a->(Z<|jJ w' (jA a 0 U) b)[q]? =(Z w')[q]? :=λq hq=>K0 w' (jA a 0 U) q _ hq;have n:jO w' B 113 4 f (T L)<|EC L:=Ad h.S λq hq=>K.block q (h.S.lt q hq).2 λe=>Al h.S h.C.aN Ob q hq e;refine⟨R',c.cF (λq hq=>sc q λe=>Ac R' c.aN Ob O9) (λj d q hq=>sc q λe=>Ac R' (c.aB j (by rw[<-c.len];exact d) d) Ob O9) λj d q hq=>sc q λe=>Ac R' (c.aD j (by rw[<-c.bY];exact d) d) Ob O9,Ad n λq hq=>sc q λe=>Ac R' n Ob O9,R'.set 0 b,(h.F.trans K.low).setCell (p:=(jA a 0 U)) h.low b,h.low⟩
theorem SE.stm {n:jB}{nd i:jF}{l m:L7}{w c:jB}{o:Obj}{s:St}(h:SE B b n nd i N L l m w)(t:jO c B 113 4 d (T L+1)<|EC L++[V X s.aC,jC s.name,V X s.cond,V X s.aG])(hg:(jK w o).grownBy c<|jL i):
  Ag c b #[nd,i,Y U 0 0] 70/\SE B b n nd d N (L++[s]) l m (jJ c (jA b 1 U) d):=by
 have k:=BL hg;have g:Ag c b #[nd,i,Y U 0 0] 70:=⟨(k b h.Rr.lt<|Ac h.Rr h.S Ob).trans h.Rr.out⟩
 have sc:∀q,q≠b->(Z<|jJ c (jA b 1 U) d)[q]? =(Z c)[q]? :=λq hq=>K0 c (jA b 1 U) q _ hq;have f:Cv c B nd N l m:=h.C.cF (λq hq=>k q (h.C.bW.1 q hq).2 λe=>Al h.S h.C.aN Ob q e hq) (λj a q hq=>k q (h.C.bW.2.1 j a q hq).2 λe=>Al h.S (h.C.aB j (by rw[<-h.C.len];exact a) a) Ob q e hq) λj a q hq=>k q (h.C.bW.2.2 j a q hq).2 λe=>Al h.S (h.C.aD j (by rw[<-h.C.bY];exact a) a) Ob q e hq;have r:B<=R (Z w):=by have:=h.Rr.lt;have:=h.low;omega
 refine⟨g,f.cF (λq hq=>sc q λe=>Ac g f.aN Ob O9) (λj a q hq=>sc q λe=>Ac g (f.aB j (by rw[<-f.len];exact a) a) Ob O9) λj a q hq=>sc q λe=>Ac g (f.aD j (by rw[<-f.bY];exact a) a) Ob O9,?_,g.set 1 d,((h.F.alloc r o).grown hg O0 λq hq=>(h.S.lt q hq).1).setCell (p:=(jA b 1 U)) h.low d,h.low⟩
 grind [Ach,Ac,Ad]
theorem XH {n:Nat}{e:jV}{a:L3}{L:L2}(h:jO w B e 1 (Y a n c) n<|Ak L)(d:T L=n)(hs:n<=1048576):AP w a n c L:=by
 refine⟨d,hs,λj f=>?_⟩;obtain⟨x,c',b,hx⟩:=Ae h;simp only[Value.slice.injEq]at b;obtain⟨rfl,_,_⟩:=b;obtain⟨g,rfl,_,hc⟩:=hx Oa;refine⟨g,0,rfl,(h.lt g rfl).2,?_⟩
 grind [Ak]
theorem AhK {K:List (Sx×Int)}{t:Nat}(h:t<T K):Dr (K.take<|t+1)=Dr (K.take t)++(if K[t].1.aC=1 then [K[t].2]else []):=by
 unfold Dr;rw[zT h,List.filter_append,zk]
 grind
theorem Ajo (K:List<|Sx×Int):T (Dr K)<=T K:=by grind [Dr]
theorem Afi (X:M0)(t:Nat):Di (X.take t)<=Di X:=by grind [z8,Di,Xi]
structure TyM (B Bt:Nat) (nd sv tv:jF) (N:L6) (L:L9) (T:L2) (nv kv:L7) (w:jB):Prop where
 C:Cv w B nd N nv kv
 S:jO w B 113 4 sv (ja L)<|EC L
 Tt:jO w Bt 3 1 tv (ja T)<|Ak T
theorem TyM.set {nd c:jF}{T:L2}{i:L7}(h:TyM B b nd c d N L T f i w){g:Nat}{k:Array jF}(R:Ag w g k 70)(j:Nat)(u:jF):TyM B b nd c d N L T f i<|jJ w (jA g j U) u:=by
 have sc:∀q,q≠g->(Z<|jJ w (jA g j U) u)[q]? =(Z w)[q]? :=λq hq=>K0 w (jA g j U) q u hq;exact⟨h.C.cF (λq hq=>sc q λe=>Ac R h.C.aN Ob O9) (λj a q hq=>sc q λe=>Ac R (h.C.aB j (by rw[<-h.C.len];exact a) a) Ob O9) λj a q hq=>sc q λe=>Ac R (h.C.aD j (by rw[<-h.C.bY];exact a) a) Ob O9,Ad h.S λq hq=>sc q λe=>Ac R h.S Ob O9,Ad h.Tt λq hq=>sc q λe=>Ac R h.Tt Ob O9⟩
def CkT (T:L2) (w:jB) (r:Ending) (w':jB):Prop:=(∃ (Bt:Nat) (tv p:jF) (f0 f1:Int),r=jN (jQ #[tv,p,jM #[V X f0,V X f1]])/\jO w' Bt 3 1 tv (ja T) (Ak T))/\Ai w w'
set_option maxHeartbeats 12800000
theorem Ub (wz w0:jB)(dc:R (Z wz)<=R (Z w0))(cw:L3)(cx cy:Nat)(ls:L8)(w:jB)(bA:Ai w0 w)(a aw:Int)(ax:K9)(ay:L3)(az aB:Nat)(cz:L3)(m aC:Nat)(N:M6)(cA:AO w0 cz N)(cB:T N=m)(dO: 1<=m)(h3:m<=3)(dP:m<=2)(cC:a≠7)(zs:L8)(cD:T zs=m)(cE:∀z∈zs,Bp z=jD)(e:Ex)(hF:Rv a 0 ⟨#[]⟩ [] zs e)(cF:∀i e0,e= .un i a e0->8<=a/\a<=10)(cG:∀i e0 e1,e= .bin i a e0 e1->11<=a/\a<=26)
  (cH:∀ag f ka kc,T f=m->AO ag ka f->(∀j,(h:j<T zs)->(bZ:j<T f)->Tq ag zs[j] f[j])->zs.all Ex.bD=jD->Calls jZ 127 #[jc X a,Y ka m kc] ag (PrA (AQ e) ag))(cI:zs.all Ex.bD=jE->AQ e=U)
  (V:∀j,(h:j<T N)->(bZ:j<T zs)->∀ag,Ai w ag->Calls jZ 98 #[jM #[jc X N[j].op,jc X N[j].num,jC N[j].text,Y N[j].an N[j].nn N[j].cn,Y N[j].ka N[j].kn N[j].kc],Y cw cx cy] ag (Yx wz zs[j] ag)):
  Calls jZ 98 #[jM #[jc X a,jc X aw,jC ax,Y ay az aB,Y cz m aC],Y cw cx cy] w (Yx wz (Im ls e) w):=by
 obtain⟨dd,de,df,dg,dh⟩:=info_parts Nw;obtain⟨g,P,rfl,hg,hc⟩:=Bs cA Oa;have dQ:(a==7)=jE:=zA.2 cC;have dR:((m:Int)==0)=jE:=zA.2 Oa;have b0:=((AE w<|jH #[jc X a,jc X aw,jC ax,Y ay az aB,Y (Q<|jA g P U) m aC] 121).alloc Ox Gg)
 have bn:=Ag.new (jK w<|jH #[jc X a,jc X aw,jC ax,Y ay az aB,Y (Q<|jA g P U) m aC] 121) #[jc X 0,jc X 0,jC ⟨#[]⟩,Y U 0 0,Y U 0 0] 121;have b5:=(Ag.new w #[jc X a,jc X aw,jC ax,Y ay az aB,Y (Q<|jA g P U) m aC] 121).alloc Gg;have b6:R (Z<|jK (jK w<|jH #[jc X a,jc X aw,jC ax,Y ay az aB,Y (Q<|jA g P U) m aC] 121) Gg)=R (Z w)+2:=Ox;simp only[World.size_alloc]at bn;have di:=Ab V;have bB:=Ab cH;have bC:=Ab cI;have cJ:=Ab hF;have cK:=Ab cF;have cL:=Ab cG;have cM:=Ab hc;have cN:=Ab cB;have aS:=Ab cD;have bo:=Ab cE;have b7:=Ab bA;have dj:R (Z wz)<=R (Z w):=zB dc bA.size;have dk:R (Z w0)<=R (Z w):=bA.size;clear V hc cB cD cE bA cA cC cH cI hF cF cG;go_enter func98,ntmps98
 go_wp2_with fail
 generalize jK (jK w (jH #[jc X a,jc X aw,jC ax,Y ay az aB,Y (Q (jA g P U)) m aC] 121)) Gg=dl at b0 b5 bn b6|-;have b8:Tt wz (R (Z w)+2) (Y U 0 0) [] [] dl:=⟨World.ownsRow_nil _ _ _ _,rfl,λj h=>absurd h Ox⟩
 generalize cO:R (Z w)=al at b0 b5 bn b6 b8 dj dk|-;have a9:=Ab cO;generalize dm:al+1=aT at bn|-;generalize dn:al+2=B at b6 b8|-;have dS:al<aT/\aT<B:=Oa
 clear cO dm dn;go_loopw [5,6,39] (λdp bE i wr=>∃ (j:Nat) (f:M6),j<=m/\i=jc X j/\bE= .bool ((zs.take j).all Ex.bD)/\Hid (T f=j)/\Ag wr al #[jc X a,jc X aw,jC ax,Y ay az aB,Y (Q<|jA g P U) m aC] 121/\Ag wr aT #[jc X 0,jc X 0,jC ⟨#[]⟩,Y U 0 0,Y U 0 0] 121/\Tt wz B dp f (zs.take j) wr/\Below al w wr/\B<=R (Z wr)) (λ_ _ i _=>m-(intOf i).toNat)
 case atStart=>exact⟨0,[],zE _,rfl,rfl,Ab rfl,b5,bn,b8,b0,Oa⟩
 case round=>
  obtain⟨j,f,dT,rfl,rfl,b9,RT,aD,O,ah,dU⟩:=hrel;obtain⟨I,s,rfl,_⟩:=Ae O.aN;by_cases bp:j<m
  .have dV:(j:Int)<(m:Int):=Oa;have ca:j<T N:=by rw[Aa cN];exact bp
   have bF:j<T zs:=by rw[Aa aS];exact bp
   have bG:Ai w wr:=by show Below _ _ _;rw[Aa a9];exact ah
   have ba:=(Aa b7).trans<|bG.mono (Aa b7).size;obtain⟨S,a1,a2,a3,a4⟩:=Aa cM j ca;have bH:=Ab<|Aa di j ca bF;have cP:=Ab<|Aa bo _<|zI bF;have cb:=Ab<|show zs.take (j+1)=zs.take j++[zs[j]]from zT bF;generalize N[j]=k at S a1 a2 a3 a4 bH;generalize zs[j]=z at bH cP cb;replace S:=(ba.cell (p:=⟨g,P+j*5,U⟩) hg).trans S;replace a1:=(ba.cell (p:=⟨g,P+j*5+1,U⟩) hg).trans a1;replace a2:=(ba.cell (p:=⟨g,P+j*5+2,U⟩) hg).trans a2;replace a3:=(ba.cell (p:=⟨g,P+j*5+3,U⟩) hg).trans a3;replace a4:=(ba.cell (p:=⟨g,P+j*5+4,U⟩) hg).trans a4;have bI:=Ab bp;have ao:=Ab<|Aa bH _<|bG.alloc bG.size<|CX k;have dW:T f<=1048576:=H2<|Aa b9;generalize aU:(zs.take j).all Ex.bD=bE;have dq:=Ab aU;clear bp ca bF aU ba;go_wp2_with fail
   refine(Aa ao).mono ?_;rintro r W ⟨dr,rfl,cc,cd⟩;obtain⟨t,v,x,y,A,C,D,E,F⟩:=dr;dsimp only at cc|-;have bJ:∀q,jL (Value.slice I (T f) s)=Q q->B<=q/\q<R (Z wr):=λq hq=>O.aN.lt q hq;have ds:R (Z<|jK wr<|CX k)=R (Z wr)+1:=Ox
   have br:=(AE wr<|CX k).trans<|cd.mono Oa;have dX:R (Z wr)<R (Z W):=H2 cd.size;have bs:=(O.below br).below<|AE W<|Bu t v x y A C D E F;have cQ:NT wz (R (Z wr)+1) (R<|Z<|jK W<|Bu t v x y A C D E F) (jK W<|Bu t v x y A C D E F) ⟨t,v,x,y,A,C,D,E,F⟩ z:=(cc.aM<|Ct.aH<|AE W<|Bu t v x y A C D E F).mono (λb ap=>by rw[ds]at ap;rw[World.size_alloc];omega);have cS:=(RT.aA br NLN).alloc<|Bu t v x y A C D E F;have cT:=(aD.aA br NLN).alloc<|Bu t v x y A C D E F;have ce:=Ag.new W #[jc X t,jc X v,jC x,Y y A C,Y D E F] 121;have cU:=(ah.trans<|br.mono Oa).alloc Oa<|Bu t v x y A C D E F;have dt:R (Z<|jK W<|Bu t v x y A C D E F)=R (Z W)+1:=Ox;obtain⟨du,n1,n2,dv,dw,-⟩:=Ap ce;clear O RT aD ah bG cc cd br ao bH S a1 a2 a3 a4;have cV:=World.ownsRow.alloc bs.aN<|Bu t v x y A C D E F;have cf:=World.news_of_block<|heap_alloc_new (jK W<|Bu t v x y A C D E F)<|Bu t v x y A C D E F;simp only[World.size_alloc]at cf;go_wp2_with (at_builtin;refine wpList_append_lies _ rfl _ _ 117 rfl B 121 dd (jM #[jc X 0,jc X 0,jC jW,Y U 0 0,Y U 0 0]) 5 80 underlying117 de df dg dh rfl Ob (Y I (T f) s) (T f) (f.flatMap K5.cs) rfl cV ⟨R (Z W)+1,0,U⟩ 1 1 (K5.cs ⟨t,v,x,y,A,C,D,E,F⟩) rfl rfl cf (by intro u hu;simp[K5.cs]at hu;obtain rfl|rfl|rfl|rfl|rfl:=hu<;>rfl) Ob O2 Oa O0 _ rfl ?_)
   intro g7 c7 bt cW aV hat dx;have cX:∀q,q<B->Q q≠jL (Value.slice I (T f) s):=λq hq e=>H2<|(bJ q e.symm).1;have dy:Q (R<|Z W)≠jL (Value.slice I (T f) s):=λe=>H2<|(bJ _ e.symm).2;have cg:=(cS.alloc<|Bu t v x y A C D E F).grown aV<|cX al Oa;have ch:=(cT.alloc<|Bu t v x y A C D E F).grown aV<|cX aT Oa;have cY:=(ce.alloc<|Bu t v x y A C D E F).grown aV dy;have ci:=(cU.alloc (by rw[dt];omega)<|Bu t v x y A C D E F).grown aV O0 λq hq=>H2<|(bJ q hq).1;have cZ:B<=R (Z bt):=by have:=aV.size;simp at this;omega
   have cj:=bs.bN (k:=⟨t,v,x,y,A,C,D,E,F⟩) (b:=z) Oa Oa (λq hq=>H2<|(bJ q hq).2) cQ cW aV<|hat.imp id λe=>Hk;have ck:=Ab (show Tt wz B (Y (Q<|jA g7 0 U) (T f+1) c7) (f++[(⟨t,v,x,y,A,C,D,E,F⟩:K5)]) (zs.take<|j+1) bt by rw[Aa cb];exact cj);have c0:=Ab (show T (f++[(⟨t,v,x,y,A,C,D,E,F⟩:K5)])=j+1 by rw[zC,Aa b9];rfl);have c1:=Ab (show(zs.take<|j+1).all Ex.bD=(bE&&z.bD) by rw[Aa cb,List.all_append,Aa dq];simp);have dz:=Ab (show Tq bt z ⟨t,v,x,y,A,C,D,E,F⟩ by
    have q:=cj.bT (T f) Ox (by rw[List.length_append,bs.len];simp);obtain⟨_,_,_,_,_,q⟩:=q;have q2:=Tl.tq q;have dY:=bs.len;rw[z5 NLN,z5 Oa]at q2;simpa using q2)
   have dA:=Ab<|DY (Aa dz)<|Aa cP;obtain⟨aW,aX,aY,aZ,a0,-⟩:=Ap cY;clear bs cj cW aV hat dx cQ cV cf cS cT ce cU du n1 n2 dv dw cY;generalize R (Z W)=dZ at aW aX aY aZ a0|-;cases bE with
   |false=>
    go_wp2
    go_roundw
    case rel=>exact⟨j+1,_,Aa bI,O1,by rw[Aa c1];rfl,c0,cg,ch,Aa ck,ci,cZ⟩
    case measure=>have:=Aa bI;simp[intOf];omega
   |true=>
    go_wp2_with fail
    refine(Aa dA).mono ?_;rintro r aq ⟨rfl,bb⟩;have bu:=cg.aA bb NLN;have bc:=ch.aA bb NLN;have aE:=ci.trans<|bb.mono Oa;have dB:=Ab<|(Aa ck).below bb;have dC:B<=R (Z aq):=zB cZ bb.size;clear cg ch ci ck bb aW aX aY aZ a0;go_wp2
    go_roundw
    case rel=>exact⟨j+1,_,Aa bI,O1,by rw[Aa c1];simp,c0,bu,bc,Aa dB,aE,dC⟩
    case measure=>have:=Aa bI;simp[intOf];omega
  .have c2:j=m:=Oa;have c3:zs.take j=zs:=zf (by rw[Aa aS];omega);rw[c3]at O|-;have bv:T f=m:=by rw[Aa b9];exact c2
   have ai:=En (by have:=O.aN;rw[bv]at this;exact this) bv;have bK:=Ab ai;have bL:=Ab (λ(i:Nat) (h:i<T zs) (bZ:i<T f)=>by
    obtain⟨_,_,_,_,_,q⟩:=O.bT i bZ h;exact(Tl.tq q))
   rw[bv];have bd:=Ab bv;have d0: ¬ ((j:Int)<(m:Int)):=Oa;obtain⟨aF,aG,aI,aJ,aK,-⟩:=Ap RT;clear ai bv c3 bp c2;go_upto_if 56 with fail
   go_cut [6] (λ_ a5=>Ag a5 al #[jc X a,jc X aw,jC ax,Y ay az aB,Y (Q<|jA g P U) m aC] 121/\Ag a5 aT #[jc X 0,jc X 0,jC ⟨#[]⟩,Y U 0 0,Y U 0 0] 121/\Tt wz B (Y I m s) f zs a5/\Ai w a5/\Hid (AQ e=U))
   case first=>
    cases aU:zs.all Ex.bD with
    |true=>
     have ao:=Ab<|Aa bB wr f I s (Aa bd) (Aa bK) (Aa bL) aU;clear aU bB bC;go_wp2_with fail
     refine(Aa ao).mono ?_;rintro r aq ⟨⟨c,b,rfl,ap,cl⟩,bf⟩;have aE:Ai w aq:=(show Ai w wr by show Below _ _ _;rw[Aa a9];exact ah).trans<|bf.mono ah.size;have bu:=RT.aA bf NLN;have bc:=aD.aA bf NLN;have cm:=O.below bf;have bg:=Aa a9;cases aL:AQ e with
     |some z=>
      rw[aL]at ap;subst ap;have ae:=Ab (show Im ls e=z by rw[Im,aL]);have af:=bc.alloc<|CX c;have o:=Ab<|Eg (w0:=wz) (B:=B) (c:=c) (z:=z) Oa (aE.alloc aE.size<|CX c) af Oa Oa<|Io (RL aL)<|(cl z aL).below (AE aq<|CX c) NLN;obtain⟨aW,aX,aY,aZ,a0,-⟩:=Ap af;obtain⟨bM,f1,f2,bO,bP⟩:=Fg af;clear af bc bu cm aE cl aL bf bg O RT aD ah;go_wp2
      exact bodyPost_ret (Gf results98 rfl (Aa o).2.1) rfl (by rw[Aa ae];exact⟨c,rfl,(Aa o).2.2,(Aa o).1⟩)
     |none=>
      rw[aL]at ap;subst ap;have co:=Ab (⟨bu.alloc<|CX c,bc.alloc<|CX c,by have q:=cm.below<|AE aq<|CX c;rw[Aa bd]at q;exact q,aE.alloc aE.size<|CX c,Ab aL⟩:Ag (jK aq<|CX c) al _ _/\Ag (jK aq<|CX c) aT _ _/\Tt wz B (Y I m s) f zs (jK aq<|CX c)/\Ai w (jK aq<|CX c)/\Hid (AQ e=U));clear bc bu cm aE cl bf O RT aD ah ao bL bK aF aG aI aJ aK aL;go_wp2
      go_meet
      exact Aa co
    |false=>
     have co:=Ab (⟨RT,aD,by have q:=O;rw[Aa bd]at q;exact q,by show Below _ _ _;rw[Aa a9];exact ah,Ab<|Aa bC aU⟩:Ag wr al _ _/\Ag wr aT _ _/\Tt wz B (Y I m s) f zs wr/\Ai w wr/\Hid (AQ e=U));clear RT aD O ah bL bK aU bB bC aF aG aI aJ aK;go_wp2
     go_meet
     exact Aa co
   case rest=>
    obtain⟨aO,af,bh,aP,bi⟩:=hcut;have bg:=Aa a9;clear bB bC bK bL aF aG aI aJ aK RT aD O ah;cases Aa cJ with
    |leaf e dD hx=>have:=Aa aS;simp at this;omega
    |un i n a6=>
     have cp:m=1:=(Aa aS).symm;subst cp;have dE:(a==27)=jE:=zA.2<|H2<|Aa cK i n rfl;obtain⟨G,rfl⟩:∃G,f=[G]:=by
      have:=Aa bd
      match f,this with
      |[G],_=>exact⟨G,rfl⟩
     have aa:=bh.below<|AE wc<|jH #[jc X a,jc X 0,jC ⟨#[]⟩,Y U 0 0,Y I 1 s] 121;have aj:=aP.alloc aP.size<|jH #[jc X a,jc X 0,jC ⟨#[]⟩,Y U 0 0,Y I 1 s] 121;have ar:=aO.alloc<|jH #[jc X a,jc X 0,jC ⟨#[]⟩,Y U 0 0,Y I 1 s] 121;have J:=af.alloc<|jH #[jc X a,jc X 0,jC ⟨#[]⟩,Y U 0 0,Y I 1 s] 121;have aQ:=Ag.new wc #[jc X a,jc X 0,jC ⟨#[]⟩,Y U 0 0,Y I 1 s] 121;have ai:=En (m:=1) aa.aN rfl;have au:=aa.all (m:=1) rfl NLN a 0 ⟨#[]⟩ U 0 0 [] ⟨⟨rfl,NLN,zE _,λj h=>absurd h Ox,λj h=>absurd h Ox⟩,zE _,λ_=>rfl,λdF e=>O5⟩ _ (.un i n a6);have ab:=aa.kid 0 Ox Ox;obtain⟨L,M,cq,ac,aR⟩:=Bs ai Ox;subst cq;obtain⟨S,a1,a2,a3,a4⟩:=aR 0 Ox;simp only[z0,zu,zX]at S a1 a2 a3 a4 ab;obtain⟨dG,s1,s2,dH,dI,-⟩:=Ap aO;obtain⟨aF,aG,aI,aJ,aK,-⟩:=Ap ar;have bQ:=Aa bo n Ox;obtain⟨d5,d6,d7,d8,d9,-⟩:=Ap aQ;by_cases bR:a=9
     .subst bR;by_cases bj:G.op=9
      .have cr:(G.op==9)=jD:=zD.2 bj;obtain⟨a7,H,rfl⟩:∃a7 H,n= .un a7 9 H:=by
        have bS:=(Tl.tq ab).op;rw[bj]at bS;cases n with
        |un a7 op H=>exact⟨a7,H,by rw[show op=9 from bS.symm]⟩
        |bin a7 op l r=>simp only[Bp,zF,zG]at bQ;have:op=9:=bS.symm;omega
        |_=>exact absurd bS (by simp[FC,Ef])
       have ae:=Ab (show Im ls (.un i 9<|.un a7 9 H)=H by rw[Im,Aa bi];simp[A5,SZ]);obtain⟨u1,u2,u3,u4,u5,u6,K,u7,u8⟩:=ab;obtain⟨ea,eb,c4,ec,c5⟩:=Bs u7 Ox;obtain⟨a8,b1,b2,b3,b4⟩:=c5 0 Ox;simp only[z0,zu,zX]at a8 b1 b2 b3 b4;rw[c4,u5]at a4;have o:=Ab<|Eg (w0:=wz) (B:=B) (c:=K) Oa aj J Oa Oa u8;obtain⟨aW,aX,aY,aZ,a0,-⟩:=Ap J;obtain⟨bM,f1,f2,bO,bP⟩:=Fg J;clear au J ar aQ aO af bh aa aj aP bg ai aR c5 u1 u2 u3 u4 u5 u6 u7 u8 c4 bj bQ a6;go_wp2
       exact bodyPost_ret (Gf results98 rfl (Aa o).2.1) rfl Q8
      .have cr:(G.op==9)=jE:=zA.2 bj;have ae:=Ab (show Im ls (.un i 9 n)= .un i 9 n by
        rw[Im,Aa bi];have:SZ n=U:=by
         cases n with
         |un a7 op H=>exact if_neg λe=>bj<|(Tl.tq ab).op.trans e
         |_=>rfl
        simp[A5,this])
       have o:=Ab<|Eg (w0:=wz) (B:=B) (c:=⟨9,0,⟨#[]⟩,U,0,0,Q<|jA L M U,1,s⟩) Oa aj J Oa Oa au;obtain⟨aW,aX,aY,aZ,a0,-⟩:=Ap J;obtain⟨bM,f1,f2,bO,bP⟩:=Fg J;clear au ab J ar aQ aO af bh aa aj aP bg ai aR bj bQ a6;go_wp2
       exact bodyPost_ret (Gf results98 rfl (Aa o).2.1) rfl Q8
     .have cr:(a==9)=jE:=zA.2 bR;have ae:=Ab (show Im ls (.un i a n)= .un i a n by rw[Im,Aa bi];simp[A5,bR]);have o:=Ab<|Eg (w0:=wz) (B:=B) (c:=⟨a,0,⟨#[]⟩,U,0,0,Q<|jA L M U,1,s⟩) Oa aj J Oa Oa au;obtain⟨aW,aX,aY,aZ,a0,-⟩:=Ap J;obtain⟨bM,f1,f2,bO,bP⟩:=Fg J;clear au ab J ar aQ aO af bh aa aj aP bg ai aR bR bQ a6;go_wp2
      exact bodyPost_ret (Gf results98 rfl (Aa o).2.1) rfl Q8
    |bin i n H a6=>
     have cp:m=2:=(Aa aS).symm;subst cp;have c6:=Aa cL i n H rfl;have dE:(a==27)=jE:=zA.2 Oa;have cr:(a==9)=jE:=zA.2 Oa;obtain⟨G,K,rfl⟩:∃G K,f=[G,K]:=by
      have:=Aa bd
      match f,this with
      |[G,K],_=>exact⟨G,K,rfl⟩
     have aa:=bh.below<|AE wc<|jH #[jc X a,jc X 0,jC ⟨#[]⟩,Y U 0 0,Y I 2 s] 121;have aj:=aP.alloc aP.size<|jH #[jc X a,jc X 0,jC ⟨#[]⟩,Y U 0 0,Y I 2 s] 121;have ar:=aO.alloc<|jH #[jc X a,jc X 0,jC ⟨#[]⟩,Y U 0 0,Y I 2 s] 121;have J:=af.alloc<|jH #[jc X a,jc X 0,jC ⟨#[]⟩,Y U 0 0,Y I 2 s] 121;have aQ:=Ag.new wc #[jc X a,jc X 0,jC ⟨#[]⟩,Y U 0 0,Y I 2 s] 121;have ai:=En (m:=2) aa.aN rfl;have au:=aa.all (m:=2) rfl NLN a 0 ⟨#[]⟩ U 0 0 [] ⟨⟨rfl,NLN,zE _,λj h=>absurd h Ox,λj h=>absurd h Ox⟩,zE _,λ_=>rfl,λdF e=>O5⟩ _ (.bin i n H a6);have ab:=aa.kid 0 Ox Ox;have bw:=aa.kid 1 Ox Ox;obtain⟨L,M,cq,ac,aR⟩:=Bs ai Ox;subst cq;obtain⟨S,a1,a2,a3,a4⟩:=aR 0 Ox;obtain⟨a8,b1,b2,b3,b4⟩:=aR 1 Ox;simp only[z0,List.getElem_cons_succ,zu,Nat.one_mul,zX]at S a1 a2 a3 a4 a8 b1 b2 b3 b4 ab bw;obtain⟨dG,s1,s2,dH,dI,-⟩:=Ap aO;obtain⟨aF,aG,aI,aJ,aK,-⟩:=Ap ar;have ct:=Tl.tq ab;have cu:=Tl.tq bw;have dJ:(Tryz.f129.name== "runtime.NumGoroutine")=jE:=Oy;have dK: Tryz.f129.body.isNone=jE:=Oy;clear ai aR bh aP aO af aa;go_upto_region 29 with fail
     generalize dL:jK wc (jH #[jc X a,jc X 0,jC ⟨#[]⟩,Y U 0 0,Y (Q (jA L M U)) 2 s] 121)=ak at ab bw au aj ar J aQ ct cu S a1 a2 a3 a4 a8 b1 b2 b3 b4 ac aF aG aI aJ aK|-;clear dL;have ad:=(AE ak Gg)
     have ed:=(ad.cell (p:=(jA L M U)) ac).trans S;have ee:=(ad.cell (p:=⟨L,M+1,U⟩) ac).trans a1;have ef:=(ad.cell (p:=⟨L,M+2,U⟩) ac).trans a2;have eg:=(ad.cell (p:=⟨L,M+3,U⟩) ac).trans a3;have eh:=(ad.cell (p:=⟨L,M+4,U⟩) ac).trans a4;have ei:=(ad.cell (p:=⟨L,M+5,U⟩) ac).trans a8;have ej:=(ad.cell (p:=⟨L,M+5+1,U⟩) ac).trans b1;have ek:=(ad.cell (p:=⟨L,M+5+2,U⟩) ac).trans b2;have el:=(ad.cell (p:=⟨L,M+5+3,U⟩) ac).trans b3;have em:=(ad.cell (p:=⟨L,M+5+4,U⟩) ac).trans b4;obtain⟨en,eo,ep,eq,er,-⟩:=Ap<|ar.alloc Gg;have ao:=Ab λag (c8:Ai ak ag)=>GH (Ajh a c6 (ct.below c8 NLN) (cu.below c8 NLN) (Aa bo n Ox)<|Aa bo H Ox) λe w' ⟨⟨_,_,h,_⟩,_⟩=>⟨_,h⟩;have bk:=Ab (⟨ab,bw,au⟩:_/\_/\_);have bx:=Ab aj;have bU:=Ab J;have bV:=Ab aQ;clear ct cu c6 aj ar J aQ ab bw au;go_cut [13,14] (λr ok a5=>∃ (d:K5) (b:Bool) (p:Nat),r=jP (Q<|jA p 0 U)/\ok= .bool b/\Hid (b=(Da a n H).isSome/\∀z,Da a n H=Q z->PrW n H G K z d)/\Ag a5 p #[jc X d.op,jc X d.num,jC d.text,Y d.an d.nn d.cn,Y d.ka d.kn d.kc] 121/\Ai ak a5)
     case first=>
      have dM:=Ab ad;clear ad bk bx bU bV bi bg bd cJ bo cK cL cM cN aS b7 a9;go_region_law ((refine XE rfl 129 _ func129 dJ dK _ _ _ _ rfl (jc X a) (jM #[jc X G.op,jc X G.num,jC G.text,Y G.an G.nn G.cn,Y G.ka G.kn G.kc]) (jM #[jc X K.op,jc X K.num,jC K.text,Y K.an K.nn K.cn,Y K.ka K.kn K.kc]) rfl rfl rfl _ (Aa ao _ (by first|exact BRN.drew|exact(Aa dM).drew)) ?_;rintro es bt ⟨⟨d,b,dN,et,c9⟩,bW⟩;obtain rfl:=Bi dN;first|(have bX:=(Ag.new ak #[jc X 0,jc X 0,jC ⟨#[]⟩,Y U 0 0,Y U 0 0] 121).aA ((Below.refl (R<|Z<|jK ak Gg)<|jK ak Gg).drew.trans<|bW.mono NLN) NLN;obtain⟨eu,ev,ew,ex,ey,-⟩:=Ap bX;obtain⟨g0,g1,g2,g3,ez⟩:=Fg bX)|skip))
      all_goals (go_wp2;go_meet)
      all_goals first
       |(have dD:=bX;have da:=Rz d ((AE ak Gg).drew.trans<|bW.mono<|Nat.le_of_lt<|by show R (Z ak)<R (Z<|jK ak Gg);simp) bX NLN;exact⟨d,_,_,rfl,rfl,Ab ⟨rfl,c9⟩,da.2,da.1⟩)
       |exact⟨d,_,_,rfl,rfl,Ab ⟨rfl,c9⟩,Ag.new bt _ _,((SH ak).drew.trans<|bW.mono NLN).alloc bW.size _⟩
     case rest=>
      obtain⟨d,b,p,rfl,rfl,bz,cv,av⟩:=hcut;have bY:=(Aa bx).trans<|av.mono (Aa bx).size;have bl:=(Aa bU).aA av NLN;obtain⟨aW,aX,aY,aZ,a0,-⟩:=Ap bl;obtain⟨bM,f1,f2,bO,bP⟩:=Fg bl;obtain⟨eA,eB,eC,eD,eE,-⟩:=Ap<|(Aa bV).aA av NLN;obtain⟨eF,d1,d2,d3,d4,-⟩:=Ap cv;have eG:=av.size;cases b with
      |true=>
       obtain⟨z,bm⟩:=Z7.1 (Aa bz).1.symm;have ae:=Ab (show Im ls (.bin i a n H)=z by rw[Im,Aa bi];show(A5 ls<|.bin i a n H).getD _=_;rw[A5,bm];rfl);have db:NT wz B (R<|Z wc) wc d z:=by
        rcases(Aa bz).2 z bm with⟨rfl,rfl⟩|⟨rfl,rfl⟩|⟨c,rfl,rfl⟩|⟨rfl,rfl⟩
        .exact((Aa bk).1.aM<|Ct.aH av).mono (λb ap=>Oa)
        .exact((Aa bk).2.1.aM<|Ct.aH av).mono (λb ap=>Oa)
        .exact Io rfl (Aa4 _ c)
        .exact Io rfl (Ae9 _)
       have o:=Ab<|Eg (w0:=wz) (B:=B) (c:=d) Oa bY bl Oa Oa db;clear bY bl cv av bz db bk bx bU bV ao bm S a1 a2 a3 a4 a8 b1 b2 b3 b4 aF aG aI aJ aK;go_wp2
       exact bodyPost_ret (Gf results98 rfl (Aa o).2.1) rfl Q8
      |false=>
       have bm:Da a n H=U:=by cases h:Da a n H with
        |none=>rfl
        |some z=>have:=(Aa bz).1;rw[h]at this;cases this
       have ae:=Ab (show Im ls (.bin i a n H)= .bin i a n H by rw[Im,Aa bi];show(A5 ls<|.bin i a n H).getD _=_;rw[A5,bm];rfl);have o:=Ab<|Eg (w0:=wz) (B:=B) (c:=⟨a,0,⟨#[]⟩,U,0,0,Q<|jA L M U,2,s⟩) Oa bY bl Oa Oa<|((Aa bk).2.2.aM<|Ct.aH av).mono λb ap=>Oa;clear bY bl cv av bz bk bx bU bV ao bm S a1 a2 a3 a4 a8 b1 b2 b3 b4 aF aG aI aJ aK;go_wp2
       exact bodyPost_ret (Gf results98 rfl (Aa o).2.1) rfl Q8
    |ite i n H eH eI a6=>have:=Aa aS;simp at this;omega
theorem Rl {m:Int} :∀(e:Ex) (t:Int),AX ts e=Q t->usE m e=jD->0<=m/\m.toNat<T ts:=by intro e;induction e<;>intros<;>grind [AX,usE]
theorem TZ {m:Int}{g:M3}(h:tyG ts g)(hu:usO m g=jD): 0<=m/\m.toNat<T ts:=by
 cases g with
 |none=>cases hu
 |some e=>exact Rl e 4 h hu
theorem PG:∀(a:M0) (ts:L2),Mi ts a->∀q∈Ic (T ts:Nat) a,∀m,usS m q.1=jD->(0<=m/\m.toNat<T ts)\/m∈Dr (Ic (T ts:Nat) a)
 |[],_,_,q,hq,_,_=>Hj
 |x ::a,ts,h,q,hq,m,hm=>by
  obtain⟨k,e,t,c,d,h3,b⟩|⟨k,⟨e,c,d⟩,h3,b⟩|⟨k,c,h3,b⟩:=h
  .have en:((T ts:Nat):Int)+1=(T (ts++[t]):Nat):=Ox;rw[Ic,H8 k,en]at hq|-;have f:=PG a (ts++[t]) b
   grind [usO,usS,U9,Rl]
  .rw[Ic,H7 Oa]at hq|-;rw[Je Oa];obtain e1|e1:=zh.1 hq
   .subst e1;rw[usS,c,Bool.or_eq_true]at hm;exact .inl<|hm.elim (Rl e 1 d)<|TZ h3
   .exact PG a ts b q e1 m hm
  .rw[Ic,H7 Oa]at hq|-;rw[Je Oa];obtain e1|e1:=zh.1 hq
   .subst e1;rw[usS,c,Bool.or_eq_true]at hm;exact .inl<|hm.elim (λq=>by cases q)<|TZ h3
   .exact PG a ts b q e1 m hm
theorem Zx:∀(a:M0) (n:Int),(∀m∈Dr (Ic n a),n<=m)/\(Dr<|Ic n a).Nodup
 |[],n=>⟨λm h=>Qy,List.nodup_nil⟩
 |x ::a,n=>by
  rw[Ic];by_cases k:x.aC=1
  .rw[H8 k];obtain⟨b,c⟩:=Zx a (n+1)
   grind [U9]
  .rw[H7 k,Je k];exact Zx a n
theorem AaQ {e:Ex}(h:e.bD=jD):e.aL=1:=by cases e<;>first|rfl|cases h
theorem Ahs (v:Vv):v.ex.aL=1:=by cases v<;>rfl
theorem Acj {x z:Ex}(h:Da op x y=Q z):z.aL<=x.aL+y.aL:=by
 have hx:=In x;have hy:=In y;have Mt:∀{z:Ex},z=x\/z=y->z.aL<=x.aL+y.aL:=λq=>q.elim (λe=>by rw[e];omega) (λe=>by rw[e];omega);have i:∀{z:Ex},(∃c,z= .bool 0 c)->z.aL<=x.aL+y.aL:=λ⟨c,e⟩=>by rw[e];simp[Ex.aL];omega
 by_cases a:op=25
 .subst a;exact Mt<|Fe h
 by_cases b:op=26
 .subst b;exact Mt<|Fe h
 by_cases d:op=16
 .subst d;exact Mt<|GV h
 by_cases f:op=17
 .subst f;exact Mt<|JC h
 by_cases g:op=18
 .subst g;obtain e|e:=GW h
  all_goals grind [Ex.aL]
 by_cases j:op=11
 all_goals grind [Da,JB,LT,DX,JD,Gn,Bl]
theorem T7 {e c:Ex}(h:AQ e=Q c):c.aL=1:=by grind [AQ,Ahs]
theorem Aht (e:Ex):(Im ls e).aL<=e.aL:=by
 unfold Im;cases b:AQ e with
 |some c=>rw[T7 b];exact In e
 |none=>
   cases a:A5 ls e with
   |none=>grind
   |some c=>
     show c.aL<=e.aL;cases e with
     |lett i n=>
       rw[A5]at a;split at a
       .split at a
        .cases a;rename_i hc;rw[AaQ hc];exact NLN
        .cases a
       .cases a
     |un i op k=>
       rw[A5]at a;split at a
       .cases k<;>grind [SZ,Ex.aL]
       .cases a
     |bin i op x y=>rw[A5]at a;have:=Acj a;simp[Ex.aL];omega
     |ite i x y z=>grind [A5,Ex.aL]
     |_=>cases a
theorem Ahu  :∀(e:Ex),(BP ls e).aL<=e.aL:=by intro e;induction e<;>intros<;>grind [Aht,BP,Ex.aL]
theorem Ai6 (left:L2):∀(e:Ex),(Eu left e).aL=e.aL:=by intro e;induction e<;>intros<;>grind [Ex.aL,Eu]
theorem AaR (o:M3):BK (o.map<|BP ls)<=BK o:=by
 cases o with
 |none=>grind
 |some e=>exact Ahu e
theorem AaS {l:L2}(o:M3):BK (o.map<|Eu l)=BK o:=by
 cases o with
 |none=>rfl
 |some e=>exact Ai6 l e
theorem Xq:∀(a:M0) (ls:L8),Di (Et ls a)<=Di a
 |[],_=>NLN
 |x ::a,ls=>by
  rw[Et,Ci,Ci];have b:=AaR (ls:=ls) x.cond;have c:=AaR (ls:=ls) x.aG;have h3:=Xq a<|TX ls<|FX ls x;show BK (x.cond.map<|BP ls)+BK (x.aG.map<|BP ls)+_<=_;omega
theorem AeY:∀(X:M0),Di (Ei X)<=Di X:=by intro X;induction X<;>intros<;>grind [Ei,Ci,BK,Di]
theorem Vb (l:L2):∀(a:M0) (n:Int),Di ((Ic n a).map λq=>PF l q.1)<=Di a
 |[],_=>NLN
 |x ::a,n=>by
  have b:∀(m:Int) (K:List<|Sx×Int),Di (((x,m) ::K).map λq=>PF l q.1)=BK x.cond+BK x.aG+Di (K.map λq=>PF l q.1):=λm K=>by
   rw[List.map_cons,Ci];show BK (x.cond.map<|Eu l)+BK (x.aG.map<|Eu l)+_=_;rw[AaS,AaS]
  rw[Ic,Ci];split
  .have h:=Vb l a (n+1)
   grind
  .have h:=Vb l a n
   grind
theorem AeZ (X:M0):Di (DF X)<=Di X:=
 zB (Vb _ _ 0) (zB (AeY _)<|Xq X [])
def gdV:Vv->Prop
 |.text s=>Co s=jD
 |.set ss=>Ay ss=jD
 |_=>True
def LV:Ex->Prop
 |.text _ s=>Co s=jD
 |.set _ _ _ _ ss=>Ay ss=jD
 |.name .. =>False
 |.attr _ n=>0<=n/\n<6
 |.un _ op k=>(8<=op/\op<=10)/\LV k
 |.bin _ op l r=>(11<=op/\op<=26)/\LV l/\LV r
 |.ite _ c t e=>LV c/\LV t/\LV e
 |_=>True
theorem Ai7 (v:Vv)(h:gdV v):LV v.ex:=by cases v<;>exact h
theorem T8 {p:Int×Int}{v:Vv}(h:CG p= .ok v):gdV v:=by
 unfold CG at h;split at h<;>cases h
 trivial
theorem Ahv {v:Vv}(hv:gdV v)(h:GI op v= .ok u):gdV u:=by
 cases v with
 |int n=>grind [GI,T8]
 |bool b=>simp only[GI]at h;split at h<;>cases h;trivial
 |set ss=>simp only[GI]at h;split at h<;>cases h;trivial
 |text s=>cases h
theorem Ae0 {ss tt:L4}{v:Vv}(h:Fa (IE ss tt)= .ok v):gdV v:=by
 unfold Fa at h;split at h
 .cases h;rename_i b;unfold IE at*;split at b
  .rename_i a;rw[dif_pos a];have q:=Classical.choose_spec a;cases hv:(Ay ss&&Ay tt)with
   |false=>grind [AB.bad]
   |true=>
     obtain⟨M,c,d,f⟩:=q.bL hv;rw[zF]at hv;by_cases g:T M<=64
     .show Ay (Classical.choose a).1=jD
      grind [Xr]
     omega
  .cases b
 .cases h
theorem Rm {v w u:Vv}(hv:gdV v)(a:gdV w)(h:Cc op v w= .ok u):gdV u:=by
 unfold Cc at h;split at h
 .cases h;trivial
 split at h
 .cases h;trivial
 split at h
 .split at h<;>cases h;trivial
 .split at h
  .exact Ae0 h
  split at h
  .cases h;exact Ack hv a
  split at h
  .cases h;exact Xs hv a
  split at h<;>cases h
  trivial
 .split at h
  .cases h;trivial
  split at h
  .cases h;trivial
  grind [T8]
 .cases h
theorem JF {e:Ex}{v:Vv}(hc:e.bD=jD)(a:LV e)(h:Js rq0 [] e= .ok v):gdV v:=by cases e<;>first|(cases h;exact a)|(cases h;trivial)|cases hc
theorem Ae1 {e c:Ex}(a:LV e)(h:AQ e=Q c):LV c:=by
 unfold AQ at h;split at h
 .cases h
 split at h
 .rename_i g;split at h
  .rename_i v hv;cases h;refine Ai7 v ?_;cases e with
   |un i op k=>
     rw[Js]at hv;have m:k.bD=jD:=Hg;cases hq:Js rq0 [] k with
     |err c=>grind
     |ok x=>rw[hq]at hv;exact Ahv (JF m a.2 hq) hv
   |bin i op l r=>
     rw[Js]at hv;have d:l.bD=jD/\r.bD=jD:=Hg;cases hq:Js rq0 [] l with
     |err c=>grind
     |ok x=>
       rw[hq]at hv;dsimp only at hv;split at hv
       .cases hv;exact JF d.1 a.2.1 hq
       .cases f:Js rq0 [] r with
        |err c=>grind
        |ok y=>
          rw[f]at hv;dsimp only at hv
          first
          |exact Rm (JF d.1 a.2.1 hq) (JF d.2 a.2.2 f) hv
          |split at hv
           .cases hv;exact JF d.2 a.2.2 f
           .exact Rm (JF d.1 a.2.1 hq) (JF d.2 a.2.2 f) hv
   |ite i x y z=>
     rw[Js]at hv;have j:x.bD=jD/\y.bD=jD/\z.bD=jD:=Hg;cases hq:Js rq0 [] x with
     |err c=>grind
     |ok b=>
       rw[hq]at hv;cases b with
       |bool b=>
         cases b
         .exact JF j.2.2 a.2.2 hv
         .exact JF j.2.1 a.2.1 hv
       |_=>cases hv
   |_=>simp[Ex.aD]at*
  .cases h
 .cases h
theorem Ae2 (D:∀c∈ls,LV c){e c:Ex}(a:LV e)(h:A5 ls e=Q c):LV c:=by
 cases e with
 |lett i n=>grind [A5]
 |un i op k=>
   rw[A5]at h;split at h
   .cases k with
    |un E o j=>
      rw[SZ]at h;split at h<;>cases h
      exact a.2.2
    |_=>cases h
   .cases h
 |bin i op x y=>
   rw[A5]at h;have Mt:∀{z:Ex},z=x\/z=y->LV z:=λq=>q.elim (λe=>e ▸ a.2.1) λe=>e ▸ a.2.2;by_cases d:op=25
   .subst d;exact Mt<|Fe h
   by_cases f:op=26
   .subst f;exact Mt<|Fe h
   by_cases g:op=16
   .subst g;exact Mt<|GV h
   by_cases l:op=17
   .subst l;exact Mt<|JC h
   by_cases m:op=18
   .subst m;obtain e|e:=GW h
    .grind
    .rw[e];rfl
   by_cases p:op=11
   .subst p;exact Mt<|LT h
   by_cases r:op=12
   .subst r;exact Mt<|Gn h
   by_cases s:op=13
   .subst s;exact Mt<|JD h
   by_cases t:op=14
   .subst t;exact Mt<|Gn h
   by_cases u:op=19
   .subst u;obtain⟨b,rfl⟩:=Bl h;trivial
   by_cases v:op=22
   .subst v;obtain⟨b,rfl⟩:=Bl h;trivial
   by_cases w:op=20
   .subst w;obtain⟨b,rfl⟩:=Bl h;trivial
   by_cases A:op=21
   .subst A;obtain⟨b,rfl⟩:=Bl h;trivial
   by_cases B:op=24
   .subst B;obtain⟨b,rfl⟩:=DX h;trivial
   by_cases C:op=23
   .subst C;obtain⟨b,rfl⟩:=JB h;trivial
   grind [Da]
 |ite i x y z=>
   rw[A5]at h
   repeat' split at h
   all_goals first|(cases h;first|exact a.2.1|exact a.2.2)|cases h
 |_=>cases h
theorem Ai8 (b:∀c∈ls,LV c){e:Ex}(a:LV e):LV<|Im ls e:=by
 unfold Im;cases d:AQ e with
 |some c=>exact Ae1 a d
 |none=>
   cases f:A5 ls e with
   |none=>exact a
   |some c=>exact Ae2 b a f
theorem Ai9 (a:∀c∈ls,LV c):∀(e:Ex),LV e->LV (BP ls e):=by intro e;induction e<;>intros<;>grind [BP,Ai8,LV]
theorem Rp (l:L2):∀(e:Ex),LV e->LV (Eu l e)
 |.un ..,h=>⟨h.1,Rp l _ h.2⟩
 |.bin ..,h=>⟨h.1,Rp l _ h.2.1,Rp l _ h.2.2⟩
 |.ite ..,h=>⟨Rp l _ h.1,Rp l _ h.2.1,Rp l _ h.2.2⟩
 |.int ..,h=>h
 |.text ..,h=>h
 |.bool ..,h=>h
 |.set ..,h=>h
 |.name ..,h=>h
 |.attr ..,h=>h
 |.lett ..,h=>h
theorem NS {a:L2}(h: 8<=op)(b:(T a:Int)=BY op):Bf ⟨op,0,⟨#[]⟩,[],a⟩=jD:=by
 have e1:Jq ⟨op,0,⟨#[]⟩,[],a⟩=jD:=by
  rw[Jq,H7 (Oa:¬ op=5),H7 (Oa:¬ op=6),H7 (Oa:¬ (op=7\/op=1)),VG,H7 (Oa:¬ op=1),H7 (Oa:¬ op=2),H7 (Oa:¬ op=3),H7 (Oa:¬ op=4),H7 (Oa:¬ op=5),H7 (Oa:¬ (op=6\/op=7))];rfl
 grind [Bf]
theorem Fv:∀(e:Ex) (b:Nat),LV e->∀x∈Ek e b,Bf x=jD
 |.un i op k,b,h,x,hx=>by
  rw[Ek]at hx;obtain q|q:=zO.1 hx
  .exact Fv k b h.2 x q
  .rw[zR.1 q];have d:=h.1
   grind [NS,BY]
 |.bin i op l r,b,h,x,hx=>by
  rw[Ek]at hx;obtain q|q:=zO.1 hx
  .obtain q|q:=zO.1 q
   .exact Fv l b h.2.1 x q
   .exact Fv r _ h.2.2 x q
  .rw[zR.1 q];have d:=h.1
   grind [NS,BY]
 |.ite i c t e,b,h,x,hx=>by
  rw[Ek]at hx;obtain q|q:=zO.1 hx
  .obtain q|q:=zO.1 q
   .obtain q|q:=zO.1 q
    .exact Fv c b h.1 x q
    .exact Fv t _ h.2.1 x q
   .exact Fv e _ h.2.2 x q
  grind [NS,BY]
 |.int i n,b,h,x,hx=>by rw[zR.1 hx];rfl
 |.text i s,b,h,x,hx=>by
  rw[zR.1 hx];have:Co s=jD:=h;show(decide (((0 :Nat):Int)=BY 2)&&Jq ⟨2,0,s,[],[]⟩)=jD;have e1:Jq ⟨2,0,s,[],[]⟩=Co s:=by simp[Jq,VG]
  rw[e1,this];rfl
 |.bool i c,b,h,x,hx=>by rw[zR.1 hx];cases c<;>rfl
 |.set i a n c ss,b,h,x,hx=>by
  rw[zR.1 hx];have:Ay ss=jD:=h;show(decide (((0 :Nat):Int)=BY 4)&&Jq ⟨4,0,⟨#[]⟩,ss,[]⟩)=jD;have e1:Jq ⟨4,0,⟨#[]⟩,ss,[]⟩=jD:=by
   show(Ay ss&&jD&&jD)=jD
   grind
  rw[e1];rfl
 |.name ..,b,h,x,hx=>h.elim
 |.attr i n,b,h,x,hx=>by
  rw[zR.1 hx];have d: 0<=n/\n<6:=h;show(decide (((0 :Nat):Int)=BY 6)&&Jq ⟨6,n,⟨#[]⟩,[],[]⟩)=jD;have e1:Jq ⟨6,n,⟨#[]⟩,[],[]⟩=jD:=by
   show(decide (0<=n/\n<6)&&jD&&jD)=jD
   grind
  rw[e1];rfl
 |.lett i n,b,h,x,hx=>by rw[zR.1 hx];rfl
theorem Ahw {x z:Ex}(h:Da op x y=Q z):ER z<=ER (.bin 0 op x y):=by
 have hy:=(Gi y).1;have j:=OM 0<|ER x;have k:=OM (mx 0<|ER x)<|ER y;have Mt:∀{z:Ex},z=x\/z=y->ER z<=ER (.bin 0 op x y):=λq=>by grind [ER]
 have l:∀{z:Ex},(∃c,z= .bool 0 c)->ER z<=ER (.bin 0 op x y):=λ⟨c,e⟩=>by rw[e];show(1 :Int)<=mx (mx 0<|ER x) (ER y)+1;omega
 by_cases a:op=25
 .subst a;exact Mt<|Fe h
 by_cases b:op=26
 .subst b;exact Mt<|Fe h
 by_cases d:op=16
 .subst d;exact Mt<|GV h
 by_cases f:op=17
 .subst f;exact Mt<|JC h
 by_cases g:op=18
 .subst g;obtain e|e:=GW h
  all_goals grind [ER,mx]
 by_cases i:op=11
 .subst i;exact Mt<|LT h
 by_cases m:op=12
 all_goals grind [Da,JB,DX,JD,Gn,Bl]
theorem AaT {e:Ex}(h:e.aL=1):ER e=1:=H2<|Gi e
theorem IJ (e:Ex):ER (Im ls e)<=ER e:=by
 have b:=(Gi e).1;unfold Im;cases d:AQ e with
 |some c=>grind [ER,AaT,T7]
 |none=>
   cases a:A5 ls e with
   |none=>grind
   |some c=>
     show ER c<=ER e;cases e with
     |lett i n=>grind [A5,AaT,AaQ]
     |un i op k=>
       rw[A5]at a;split at a
       .cases k<;>grind [ER,SZ,mx,OM]
       .cases a
     |bin i op x y=>rw[A5]at a;exact Ahw a
     |ite i x y z=>grind [A5,ER,mx,OM]
     |_=>cases a
theorem EA {a b c d:Int}(f:a<=c)(g:b<=d):mx a b<=mx c d:=by grind [mx]
theorem LW {ls:L8} :∀(e:Ex),ER (BP ls e)<=ER e
 |.un i op k=>by
  rw[BP];refine Int.le_trans (IJ _) ?_;rw[ER,ER];have:=EA (zp 0)<|LW (ls:=ls) k;omega
 |.bin i op x y=>by
  rw[BP];refine Int.le_trans (IJ _) ?_;rw[ER,ER];have:=EA (EA (zp 0)<|LW (ls:=ls) x)<|LW (ls:=ls) y;omega
 |.ite i x y z=>by
  rw[BP];refine Int.le_trans (IJ _) ?_;rw[ER,ER];have:=EA (EA (EA (zp 0)<|LW (ls:=ls) x)<|LW (ls:=ls) y)<|LW (ls:=ls) z;omega
 |.int i n=>Hn
 |.text i n=>Hn
 |.bool i n=>Hn
 |.set i a n c ss=>Hn
 |.name i n=>Hn
 |.attr i n=>Hn
 |.lett i n=>Hn
theorem Akv (l:L2):∀(e:Ex),ER (Eu l e)=ER e:=by intro e;induction e<;>intros<;>grind [ER,Eu]
theorem UX (a b:L3)(n c m d:Nat)(N:L6)(L:L9)(w:jB)(f:IN w a n c N)(g:Po w b m d L):
  Calls jZ 97 #[Y a n c,Y b m d,.bool jD] w λe w'=>Er Cp n m N L e/\Ai w w':=
 OP jD Cp ST (λx h=>by rw[Cp,zF]at h;exact K8 h.1) a b n c m d N L w f g
def sV:Vv->Prop
 |.set ss=>Ay ss=jD
 |_=>True
theorem evS {v x:Vv}(hv:sV v)(hu:sV u)(h:Cc op v u= .ok x):sV x:=by
 have g:gdV x->sV x:=λh=>by cases x<;>first|exact h|trivial
 cases v<;>cases u
 case set.set=>exact g<|Rm (v:= .set _) (w:= .set _) hv hu h
 all_goals (unfold Cc CG at h;grind [sV])
theorem Vt {st:M4}(h:∀v∈st,sV v):sV (FZ st)/\sV (GZ st):=by
 constructor
 .unfold FZ;cases e:st.getLast?<;>grind [sV,List.mem_of_getLast?]
 .unfold GZ;rw[zj];cases e:st[T st-2]?<;>grind [sV,zn]
theorem AkI {st:M4}(h:∀v∈st,sV v)(e:opS op st= .ok x):sV x:=by
 obtain⟨a,b⟩:=Vt h;unfold opS at e;split at e
 .unfold GI CG at e;grind [sV]
 .exact evS b a e
theorem AfK (x:K9):∀K:L4,BM K=jD->∃c,BM c=jD/\∀y,y∈c↔y=x\/y∈K
 |[],_=>⟨[x],by simp[BM],Ox⟩
 |k ::K,h=>by
  have d:(k ::K).Pairwise λa b=>sl a b=jD:=K8 h;obtain⟨g,f⟩:=List.pairwise_cons.1 d;obtain e|e|e:=Sg x k
  .exact⟨x ::k ::K,zJ<|List.pairwise_cons.2 ⟨λy hy=>by grind [Jc],d⟩,S4⟩
  .exact⟨k ::K,h,S4⟩
  .obtain⟨c,a,b⟩:=AfK x K<|zJ f;exact⟨k ::c,zJ<|List.pairwise_cons.2 ⟨λy hy=>S4,K8 a⟩,S4⟩
theorem AcK (l:L4):∃K,Ba l K:=by
 induction l with
 |nil=>exact⟨[],Ob,Ox⟩
 |cons x l c=>
  obtain⟨K,d,g⟩:=c;obtain⟨f,a,b⟩:=AfK x K d;exact⟨f,a,S4⟩
theorem XW {ss tt:L4}(a:Ay ss=jD)(b:Ay tt=jD):(IE ss tt).2=0\/(IE ss tt).2=3:=by
 obtain⟨M,d⟩:=AcK<|ss++tt;by_cases f:T M<=64
 .exact .inl (by rw[IW (K:=M) (c:=0) ⟨by simp[a,b],λ_=>⟨M,d,λh=>Oa,λ_=>⟨rfl,rfl⟩⟩⟩])
 .exact .inr (by rw[IW (K:= []) (c:=3) ⟨by simp[a,b],λ_=>⟨M,d,λ_=>⟨rfl,rfl⟩,λh=>Oa⟩⟩])
theorem Uk {a b:Int}(h0: 1<=op)(c:op<=5):(AV op a b).2=0\/(AV op a b).2=1\/(AV op a b).2=2:=by
 unfold AV UL SI JV
 grind
theorem Ah3 {t:Int}{v:Vv}(h:nz (By op [v.ty,u.ty])=Q t)(hc:op≠25/\op≠26)(hv:sV v)(hu:sV u){c:Int}(e:Cc op v u= .err c):c=1\/c=2\/c=3:=by
 obtain⟨b,hv,a,rfl⟩|⟨b,hv,a,rfl⟩|⟨b,hv,rfl⟩|⟨b,hv,a,rfl⟩|⟨rfl,hv,a,rfl⟩|⟨rfl,hv,a,rfl⟩|⟨b,hv,a,rfl⟩:=Ch h
 all_goals (cases v<;>cases u<;>simp only[Vv.ty]at*<;>unfold Cc CG Fa at e<;>grind [Uk,XW,sV])
theorem Ah4 {t:Int}{v:Vv}(h:nz (By op [v.ty])=Q t){c:Int}(e:GI op v= .err c):c=1\/c=2\/c=3:=by
 obtain⟨rfl,hv,rfl⟩|⟨rfl,hv,rfl⟩|⟨rfl,hv,rfl⟩:=EJ h
 all_goals (cases v<;>simp only[Vv.ty]at*<;>unfold GI CG at e<;>grind [Uk])
def GsV (st:M4) (sl:List M7):Prop:=(∀v∈st,sV v)/\∀v,Q v∈sl->sV v
theorem Ah5 {R:Rq}{i:Be}{at_:Nat}{st:M4}(c:∀v∈P,CW v=jD)(g:Ay R.s1=jD)(j:Ay R.s2=jD)(hg:GsV st sl){a:Nat}{st':M4}{b:List M7}(e:Fo R P i at_ st sl= .inr (a,st',b)):GsV st' b:=by
 obtain⟨g1,g2⟩:=hg;have ht:=Vt g1;have d:∀(k:Nat) (v:Vv),sV v->GsV (st.take k++[v]) sl:=λk v hv=>⟨by grind [Z9],g2⟩
 have f:∀(v:Vv),sV v->GsV (st++[v]) sl:=λv hv=>⟨S4,g2⟩
 have l:sV<|EO<|P.getD i.aY.toNat ⟨0,0,⟨#[]⟩,[]⟩:=by
  rw[zj];cases e:P[i.aY.toNat]? with
  |none=>exact(by decide:Ay []=jD)
  |some v=>
    have:=c v<|zn e
    grind [CW,EO,sV]
 have attr:sV<|IV R i.aY:=by unfold IV;grind [sV]
 have m:sV<|(sl.getD i.aY.toNat U).getD<|.bool jE:=by
  rw[zj];cases e:sl[i.aY.toNat]? with
  |none=>trivial
  |some o=>cases o with
   |none=>trivial
   |some v=>exact g2 v<|zn e
 unfold Fo at e
 repeat' split at e
 all_goals cases e
 all_goals first
  |exact f _ Q4
  |exact⟨λv hv=>g1 v<|Z9 hv,g2⟩
  |exact⟨λv hv=>g1 v<|Z9 hv,λv hv=>by obtain h|h:=List.mem_or_eq_of_mem_set hv<;>grind⟩
  |exact⟨g1,g2⟩
  |(rename_i h;exact d _ _<|AkI g1 h)
theorem ZP {R:Rq}{S M at_:Nat}{i:Be}{s:Vs}{st:M4}(hi:EF i=jD)(h:(As (P.map Vl.aC) S M at_ i s).1=0)(a:OkS s st sl)(hg:GsV st sl)(j:i.op≠24)(k:i.op≠25){c:Int}(e:Fo R P i at_ st sl= .inl c):c=1\/c=2\/c=3:=by
 obtain⟨l,f,ht,m,n⟩:=Gy h;have g:T st=T s.stack:=by rw[<-a.1,zN]
 have o: 1<=i.op/\i.op<=25:=by grind [EF]
 unfold Fo at e
 repeat' split at e
 all_goals cases e
 rename_i n1 n2 p q r u he;have ht:(FQ i.op s.stack).isSome=jD:=by grind [AJ]
 obtain⟨t,ht⟩:=Z7.1 ht;unfold opS at he;unfold FQ at ht;by_cases cp:AM i.op=1
 .rw[H8 cp]at he ht;have b:st≠ []:=λe=>by rw[e]at g;rw[cp,<-g]at f;exact H9 f Ob
  rw[<-a.1,Cf st b]at ht;exact Ah4 (Og Oa (by grind [AM]) ht) he
 .rw[H7 cp]at he ht;have v: 8<=i.op/\AM i.op=2:=by grind [AM]
  have d: 2<=T st:=Oa;have b:st≠ []:=λe=>by rw[e]at d;exact H9 d Ob
  rw[<-a.1,Cf st b,Of st d]at ht;obtain⟨g1,g2⟩:=Vt hg.1;exact Ah3 (Oh Oa Oa ht) Oa g2 g1 he
def AjF (I:M2) (b:Int) (n m:Nat) (X:Rn):Prop:=
 ((X.out.1=1/\X.out.2.2=[])\/(X.out.1=2/\Ay X.out.2.2=jD)\/(X.out.1=3/\(X.out.2.1=1\/X.out.2.1=2\/X.out.2.1=3)))/\n<X.dD/\X.dD<=n+m/\(X.peak:Int)<=b
theorem XX {R:Rq}{P:M1}{S:Nat}{I:M2}{K:List M5}{b:Int}(k:∀v∈P,CW v=jD)(o:∀j,j<T I->EF (I.getD j ⟨0,0⟩)=jD)(p:Ay R.s1=jD)(q:Ay R.s2=jD)(r:Kst (P.map Vl.aC) S I 0 K)
  (t:∀j s,j<T I->K.getD j U=Q s->(T s.stack:Int)<=b):
  ∀(f at_:Nat) (st:M4) (sl:List M7) (n d:Nat) (s:Vs),K.getD at_ U=Q s->T s.aE=S->OkS s st sl->GsV st sl->at_<T I->T I-at_<=f->(d:Int)<=b->AjF I b n (T I-at_) (Oe R P I f at_ st sl n d)
 |0,at_,st,sl,n,d,s,hs,hS,ho,hg,ha,hf,hp=>Oa
 |f+1,at_,st,sl,n,d,s,hs,hS,ho,hg,ha,hf,hp=>by
  obtain⟨E,u,g,w⟩:=r at_ (zE _) ha;obtain rfl:s=E:=by rw[hs]at u;exact K7 u
  have hi:=o at_ ha;rw[Oe];generalize I.getD at_ ⟨0,0⟩=i at hi g w|-;split
  .exact⟨.inl ⟨rfl,rfl⟩,(Oa:n<n+1),(Oa:n+1<=_),hp⟩
  split
  .rename_i l h;obtain⟨J,x,ht,_,_⟩:=Gy g;have m:CA s.stack=4:=by grind [AJ]
   have F:st≠ []:=λe=>by
    have:=ho.1;rw[e]at this;rw[<-this,h]at x;exact H9 x Ob
   rw[<-ho.1,Cf st F]at m;have y:=(Vt hg.1).1;refine⟨.inr<|.inl ⟨rfl,?_⟩,(Oa:n<n+1),(Oa:n+1<=_),hp⟩;cases e:FZ st with
   |set ss=>rw[e]at y;exact y
   |_=>rw[e]at m;cases m
  rename_i l h;split
  .rename_i c e;exact⟨.inr<|.inr ⟨rfl,ZP hi g ho hg l h e⟩,(Oa:n<n+1),(Oa:n+1<=_),hp⟩
  .rename_i a st' z e;obtain⟨A,B⟩:=XL k hi g hS ho l h a st' z e;obtain⟨C,D⟩:=w a B;have L:=Abi g a B;have M:(T st':Int)<=b:=by
    have:=t a _ C D;rw[<-A.1,zN]at this;exact this
   obtain⟨G,N,O,H⟩:=XX k o p q r t f a st' z (n+1) (max d<|T st') _ D (It.trans hS) A (Ah5 k p q hg e) C Oa Oa;exact⟨G,Oa,Oa,H⟩
theorem Ul {PK:L2}{S:Nat}{I:M2} :∀(r at_:Nat) (k:List M5) (b:Nat),at_+r=T I->T k=T I->(Gp PK S I r at_ k b).2=0->∃K:List M5,(∀n s,k.getD n U=Q s->K.getD n U=Q s)/\Kst PK S I at_ K/\(b:Int)<=(Gp PK S I r at_ k b).1/\∀n s,at_<=n->n<T I->K.getD n U=Q s->(T s.stack:Int)<=(Gp PK S I r at_ k b).1
 |0,at_,k,b,hr,hl,h=>⟨k,λ_ _ h=>h,λn a g=>Oa,zp _,λn s a g=>Oa⟩
 |r+1,at_,k,b,hr,hl,h=>by
  rw[Gp]at h|-;cases c:k.getD at_ U with
  |none=>rw[c]at h;exact H9 h Ox
  |some s=>
    rw[c]at h;dsimp only at h|-;by_cases c1:(As PK S (T I) at_ (I.getD at_ ⟨0,0⟩) s).1≠0
    .rw[H8 c1]at h;exact H9 h c1
    rw[H7 c1]at h|-;by_cases c2:(G3 (As PK S (T I) at_ (I.getD at_ ⟨0,0⟩) s).2 (AI at_<|I.getD at_ ⟨0,0⟩) k).1≠0
    .rw[H8 c2]at h;exact H9 h c2
    rw[H7 c2]at h|-;have a:(As PK S (T I) at_ (I.getD at_ ⟨0,0⟩) s).1=0:=Decidable.not_not.1 c1;obtain⟨g1,g2,g3⟩:=KU (Decidable.not_not.1 c2) (by rw[hl];exact Abh a Oa);obtain⟨K,d,i,o,j⟩:=Ul r (at_+1) _ _ Oa (g1.trans hl) h;refine⟨K,λn u l=>d n u<|g2 n u l,λn m f=>?_,Oa,λn u m f hu=>?_⟩
    all_goals by_cases en:n=at_
    .subst en;exact⟨s,d _ _<|g2 _ _ c,a,λx hx=>⟨H2<|(g3 x hx).1,d _ _ (g3 x hx).2⟩⟩
    .exact i n Oa f
    .subst en;rw[d _ _<|g2 _ _ c]at hu;cases hu;omega
    .exact j n u Oa f hu
theorem AfL {s:Int}{I:M2}{R:Rq}(h:(DG P s I).2=0)(d:Ay R.s1=jD)(f:Ay R.s2=jD):AjF I (DG P s I).1 0 (T I)<|Oe R P I (T I) 0 [] (List.replicate s.toNat U) 0 0:=by
 obtain⟨hs,b,_⟩:=Sb h;have c: 0<T I:=List.length_pos_iff.2 b;unfold DG at h|-;rw[H7 (by simp[hs]),H7 b]at h|-;obtain⟨K,g,i,k,l⟩:=Ul (T I) 0 _ _ Oa Ox h;unfold DO at hs;simp only[zF,zq]at hs;refine XX hs.1.2 (λj a=>hs.2 _<|by rw[zj,zM a];exact zI a) d f i (λj u a hu=>l j u (zE _) a hu) (T I) 0 [] _ 0 0 ⟨[],List.replicate s.toNat 0⟩ (g _ _<|by rw[zj,Z2<|by simpa using c];rfl) Ox ⟨rfl,Ox,λj a=> .inl Ox⟩ ⟨Ox,Ox⟩ c Oa k
end Go.Proofs.YtnjpihpohilnjaaGreatDoor

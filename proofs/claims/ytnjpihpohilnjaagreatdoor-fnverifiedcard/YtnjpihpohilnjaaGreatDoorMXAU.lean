import Derived.Test.YtnjpihpohilnjaaGreatDoorMXAY
import Derived.Laws.AppendOwnNone
open List renaming length->T
open Option renaming none->U,some->Q
open Array renaming size->R,size->jh
open Go renaming World->jB,Value->jF,Addr->jG,TypeId->jV
open Bool renaming true->jD,false->jE
open ByteArray renaming empty->jW
namespace Go.Proofs.YtnjpihpohilnjaaGreatDoor
open Proofs.Tryz
open Value renaming int->V,int->jc,slice->Y,string->jC,ownBlock->jL,pointer->jP,tuple->jQ
open IntKind renaming i64->X
open World renaming heap->Z,cell?->jI,alloc->jK,ownsRow->jO
open Addr renaming mk->jA
open Obj renaming cells->jH
open Ending renaming returned->jN
open Proofs.Tryz renaming prog->jZ
set_option linter.unusedVariables false
set_option maxRecDepth 100000
set_option maxHeartbeats 3200000
variable{b:Array jF}{top:Int}{f:Int->L2->L2}{K M:L4}{zs:L2}{base n c cx:Nat}{x:L3}{t:jV}{v v':jF}{w w' w2:jB}
section
open Go.RowKit Go.ChangeShapes
structure Rd (w:jB) (R:Nat) (a:L3) (n c p:Nat):Prop where
 row:Ag w R #[Y a n c,V X (p:Int)] 64
 le:p<=n
 aJ:n<=1048576
 cells:∀j,j<n->∃b off z,a=Q (jA b off U)/\b<R/\jI w ⟨b,off+j,U⟩=Q (V .u8 z)/\0<=z/\z<=255
end
section
open Go.RowKit
def IH (k:Nat):K9:=⟨(Lib.decDigits k).toArray⟩
theorem LO {k:Nat}(h:k<10):IH k=Aar (48+(k:Int)):=by
 have e:(48+(k:Int)).toNat=48+k:=Oa;unfold IH Aar;rw[Lib.decDigits,dif_pos h,e];rfl
theorem WQ {k:Nat}(h: 10<=k):IH k=IH (k / 10)++IH (k % 10):=by
 apply Ja
 grind [Go.Lib.decDigits.eq_def,IH,ByteArray.data_append]
theorem Ft (k:Nat):(IH k).size<=k+1:=by
 induction k using Nat.strongRecOn with
 |_ k a=>
   by_cases h:k<10
   .rw[LO h,Qc];omega
   .rw[WQ Oa,GE,LO (k:=k % 10) Oa,Qc]
    grind
theorem QM (m:Nat)(x:Int){Q:Ending->jB->Prop}(h:Calls jZ 91 #[V X m] w Q)(e:x=m):Calls jZ 91 #[V X x] w Q:=S4
theorem SS (k:Nat)(w:jB)(i:k<=9999999):
  Calls jZ 91 #[V X k] w λe w'=>e=jN (jC<|IH k)/\Ai w w':=by
 induction k using Nat.strongRecOn generalizing w with
 |_ k b=>
  by_cases h:k<10
  .have c:(k:Int)<10:=Oa;have j:=Aka;go_enter func91,ntmps91
   go_wp2
   go_ret
   exact⟨by rw[Aa<|Ab<|LO h];rfl,BRN.alloc NLN _⟩
  .have c:(10 :Int)<=(k:Int):=Oa;have d:=Ab<|WQ (k:=k) Oa;have l:=Ft<|k / 10;have n:=Ft<|k % 10;have Hi:Hid<|∀(m:Nat),m<k->∀(w:jB),m<=9999999->Calls jZ 91 #[V X m] w λe w'=>e=jN (jC<|IH m)/\Ai w w':=b;go_enter func91,ntmps91
   go_wp2_with fail
   refine(QM (k / 10) _ (Aa Hi (k / 10) Oa w Oa) Oa).mono ?_;rintro e f ⟨rfl,a⟩;go_wp2_with fail
   refine(QM (k % 10) _ (Aa Hi (k % 10) Oa f Oa) Oa).mono ?_;rintro e w2 ⟨rfl,g⟩;go_wp2
   go_ret
   exact⟨by rw[Aa d];rfl,a.trans<|g.mono a.size⟩
theorem Ep (x:Int)(w:jB)(h0: 0<=x)(a:x<=9999999):
  Calls jZ 91 #[V X x] w λe w'=>e=jN (jC<|IH x.toNat)/\Ai w w':=by
 obtain⟨k,rfl⟩:=zo h0
 grind [SS]
set_option linter.unusedVariables false
theorem AU.drewN {lo hi:Nat}(w:jB)(k:Nat):AU lo hi w<|w.drewN k:=AU.aH (below_drewN (SH w) k) NLN
theorem AU.aV {lo hi B:Nat}{a:jB}(t:AU lo hi w a)(h:Below B a w2)(d:R (Z w)<=B):AU lo hi w w2:=
 ⟨h.os.trans t.os,h.tape.trans t.tape,h.output.trans t.output,zB t.size h.size,λk b c=>(h.block k Oa).trans<|t.block k b c⟩
theorem Aq.bX {a:jG}{n c:Nat}{ss:L4}(hq:Aq w (Q a) n c ss):∀j u,(ss.map Value.string)[j]? =Q u->jI w (a.add j)=Q u:=λj u hu=>by
 rw[zr,Option.map_eq_some_iff]at hu;obtain⟨s,hs,rfl⟩:=hu;have b:j<T ss:=(zP.1 hs).1;obtain⟨b1,d,f,_,hc⟩:=hq.cells j<|H2 hq.len;simp only[Option.some.injEq]at f;subst f;have g:((jA b1 d U):jG).add j=⟨b1,d+j,U⟩:=Qx;rw[g,hc,Dd _ j b];rw[zM b]at hs;cases hs;rfl
theorem On {ops:Array Oper}{rest:List Oper}{o:Oper}{a:Act}{Q:Exit->Act->jB->Prop}(g:o.guard=U)(s x:Operand)
  (j:o.op= .call { callee:= .builtin .append,args:=#[s,x],argTypes:=#[30,30] })
  (base:Nat)(v:jF)(n:Nat)(d:L7)(hs:a.eval s=v)(f:jO w base 9 1 v n d)
  (b:L3)(m c:Nat)(ss:L4)(hx:a.eval x=Y b m c)(hq:Aq w b m c ss)(k:b=U->c=0)
  (A:n+m<=1048576)(l:base<=R (Z w))
  (h:∀v' w',jO w' base 9 1 v' (n+m) (d++ss.map Value.string)->w.grownBy w' (jL v)->wpList jZ ops Q rest (a.put o.dst v') w'):wpList jZ ops Q (o ::rest) a w:=by
 obtain⟨i,hi,p,q,r⟩:=info_parts GB;cases b with
 |none=>
   obtain rfl:=k rfl;have hm:m=0:=H2 hq.cap;subst hm;have t:ss=[]:=zd<|H2 hq.len;subst t;refine wpList_append_own_none g s x 30 j base 9 i 1 underlying30 hi v n d hs f hx<|h v w (by simpa using f) ?_;exact⟨rfl,rfl,rfl,NLN,λ_ _ _=>rfl⟩
 |some b=>
   refine G7 _ g s x 30 j base 9 i (jC jW) 1 16 underlying30 hi p q r rfl Ob v n d hs f b m c (ss.map Value.string) hx ?_ hq.bX ?_ ?_ ?_ l (λv' w' y z _=>h v' w' y z)
   .grind [Aq.len]
   .intro u hu;obtain⟨s,_,rfl⟩:=zc.1 hu;rfl
   .unfold maxLen;omega
   .omega
theorem VJ {a:L7}(h:jO w base 9 1 (Y x n c) n a):x=U->c=0:=λe=>by
 obtain⟨hv,_⟩|⟨g,cap,b,hv,_⟩:=h.2
 .simp only[Value.slice.injEq]at hv;exact hv.2.2
 .subst e;simp only[Value.slice.injEq]at hv;cases hv.1
structure A6 (w:jB) (base:Nat) (x:L3) (K:L4) (cx:Nat):Prop where
 aN:jO w base 9 1 (Y x (T K) cx) (T K)<|K.map Value.string
 aJ:∀s∈K,s.size<=1000
theorem A6.bC {cx:Nat}(h:A6 w base x K cx):∀j,j<T K->(AG K j).size<=maxLen:=λj a=>by
 rw[Dd K j a];have:=h.aJ _<|zI a;unfold maxLen;omega
theorem A6.cZ {cx:Nat}(h:A6 w base x K cx):Aq w x (T K) cx K:=Aq.bG h.aN h.bC
theorem A6.nil (w:jB)(base:Nat):A6 w base U [] 0:=⟨H3,Ox⟩
theorem A6.aR {lo hi:Nat}(h:A6 w base x K cx)(t:AU lo hi w w')(a:hi<=base):A6 w' base x K cx:=
 ⟨Fz h.aN λy hy=>by subst hy;have:=h.aN.lt _ rfl;exact t.block _ this.2<|.inr Oa,h.aJ⟩
theorem A6.below {B cx:Nat}(h:A6 w base x K cx)(a:Below B w w')(b:R (Z w)<=B):A6 w' base x K cx:=
 ⟨Fz h.aN λy hy=>by subst hy;have:=h.aN.lt _ rfl;exact a.block _ Oa,h.aJ⟩
theorem A6.mono {base' cx:Nat}(h:A6 w base x K cx)(a:base'<=base):A6 w base' x K cx:=⟨CF h.aN a,h.aJ⟩
theorem Mq (h:Ba K M)(hs:∀s∈K,s.size<=1000):∀s∈M,s.size<=1000:=by grind [Ba.mem]
theorem A6.bN {cx:Nat}{s:K9}(h:jO w base 9 1 (Y x (T K+1) cx) (T K+1)<|K.map Value.string++[jC s])(a:∀u∈K,u.size<=1000)(hs:s.size<=1000):A6 w base x (K++[s]) cx:=
 ⟨by rw[zk,zC];exact h,λu hu=>by
  obtain hu|hu:=zO.1 hu
  .exact a u hu
  .simp only[zR]at hu;subst hu;exact hs⟩
theorem A6.app {cx:Nat}{L:L4}(h:jO w base 9 1 (Y x (T K+T L) cx) (T K+T L)<|K.map Value.string++L.map Value.string)(a:∀u∈K,u.size<=1000)(b:∀u∈L,u.size<=1000):A6 w base x (K++L) cx:=
 ⟨by rw[zk,zC];exact h,λu hu=>by
  obtain hu|hu:=zO.1 hu
  .exact a u hu
  .exact b u hu⟩
end
section
open Go.RowKit Go.ChangeShapes
structure DI (w:jB) (a:L3) (n c:Nat) (zs:L2):Prop where
 len:n=T zs
 cap:n<=c
 aJ:c<=maxLen
 cells:∀j,j<n->∃b off,a=Q (jA b off U)/\b<R (Z w)/\jI w ⟨b,off+j,U⟩=Q (V .u8<|zs.getD j 0)/\0<=zs.getD j 0/\zs.getD j 0<=255
theorem DI.below {B:Nat}{a:L3}(h:DI w a n c zs)(d:Below B w w')(i:R (Z w)<=B):DI w' a n c zs:=
 ⟨h.len,h.cap,h.aJ,λj k=>by
  obtain⟨b,f,l,g,hc,m⟩:=h.cells j k;exact⟨b,f,l,zL g d.size,by rw[<-hc];exact d.cell (p:=⟨b,f+j,U⟩)<|zL g i,m⟩⟩
theorem DI.dL {i:Type}{enc:jV×jF->i}{P:Program}{o:Bool}{e:jV}{fuel:Nat}{x:DataW i×List MemPlace}{a:L3}
  (ht:P.underlying t=Q (.slice e))(he:P.underlying e=Q (.int .u8))(hc:P.cellsOf e=1)
  (h:DataW.trod enc P w 0 (λ_=>jD) o fuel t [.slice a n c]=Q x):∃zs,DI w a n c zs:=by
 obtain⟨d,_⟩|⟨p,len,cap,zs,d,_,q,hm,r,_,k,s⟩:=open_ints ht he hc h
 .simp only[List.cons.injEq,Value.slice.injEq,and_true]at d;obtain⟨rfl,rfl,rfl⟩:=d;exact⟨[],rfl,NLN,zE _,λj l=>Oa⟩
 .simp only[List.cons.injEq,Value.slice.injEq,and_true]at d;obtain⟨rfl,rfl,rfl⟩:=d;simp only[if_true]at r;refine⟨zs.take n,O0,q,hm,λj l=>?_⟩;have hg:(zs.take n).getD j 0=zs.getD j 0:=by simp[List.getD,l]
  rw[hg];have hs:=World.cell?_spot<|k 0 Oa;obtain⟨b,f,y⟩:=p;simp only[Addr.add,if_true]at hs;subst hs;have g:=k j Oa;have u:((jA b f U):jG).add j=⟨b,f+j,U⟩:=Qx;rw[u]at g;have m:=bounds_u8 (s (zs.getD j 0)<|by simp[List.getD,show j<T zs from Oa]);refine⟨b,f,rfl,?_,g,m.1,m.2⟩;by_cases v:b<R (Z w)
  .exact v
  .have:(Z w)[b]? =U:=Array.getElem?_eq_none Oa;simp[jI,this]at g
structure JU (w:jB) (R:Nat) (a:L3) (n c:Nat) (zs:L2) (p:Nat):Prop where
 row:Ag w R #[Y a n c,V X (p:Int)] 64
 len:n=T zs
 le:p<=n
 aJ:n<=1048576
 cells:∀j,j<n->∃b off,a=Q (jA b off U)/\b<R/\jI w ⟨b,off+j,U⟩=Q (V .u8<|zs.getD j 0)/\0<=zs.getD j 0/\zs.getD j 0<=255
theorem JU.aA {B R:Nat}{a:L3}{n c:Nat}{p:Nat}(h:JU w R a n c zs p)(d:Below B w w')(g:R<B):JU w' R a n c zs p:=
 ⟨h.row.below d g,h.len,h.le,h.aJ,λj i=>by
  obtain⟨b,f,k,l,hc,m⟩:=h.cells j i;exact⟨b,f,k,l,by rw[<-hc];exact d.cell (p:=⟨b,f+j,U⟩) (Oa:b<B),m⟩⟩
theorem JU.step {R:Nat}{a:L3}{p:Nat}(h:JU w R a n c zs p)(d:p<n):JU (World.setCell w (jA R 1 U)<|V X ((p+1 :Nat):Int)) R a n c zs<|p+1:=
 ⟨by simpa using h.row.set 1<|V X ((p+1 :Nat):Int),h.len,d,h.aJ,λj f=>by
  obtain⟨b,g,i,k,hc,l⟩:=h.cells j f;refine⟨b,g,i,k,?_,l⟩;rw[<-hc];exact G9<|K0 w (jA R 1 U) b _ (Oa:b≠R)⟩
theorem JU.lt {w:jB}{R:Nat}{a:L3}{n c:Nat}{zs:L2}{p:Nat}(h:JU w R a n c zs p):R<jh (Z w):=h.row.lt
def nx (zs:L2) (p:Nat):Int×Nat:=if p<T zs then (zs.getD p 0,p+1)else (0,p)
theorem BN (R:Nat)(a:L3)(n c:Nat)(zs:L2)(p:Nat)(w:jB)(h:JU w R a n c zs p):
  Calls jZ 26 #[jP<|Q<|jA R 0 U] w λe w'=>∃ (r:Int) (q:Nat),e=jN (V X r)/\Hid (nx zs p=(r,q))/\0<=r/\r<=255/\JU w' R a n c zs q/\AU R (R+1) w w':=by
 have c0:=h.row.cell 0;have c1:=h.row.cell 1;have f1:=h.row.frozen 1;simp at c0 c1;have m:=h.aJ;by_cases f:p<n
 .obtain⟨b,o,j,s,k,g,i⟩:=h.cells p f;have d:=Ab (show nx zs p=(zs.getD p 0,p+1) by rw[nx,H8 Q2]);generalize zs.getD p 0=z at k g i d;subst j;have l:(p:Int)<(n:Int):=Oa;go_enter func26,ntmps26
  go_wp2
  go_quiet (fail)
  go_wp2
  go_quiet (fail)
  go_wp2
  go_ret
  refine⟨_,p+1,rfl,d,g,i,?_,?_⟩
  .rw[show((p:Int)+1)=((p+1 :Nat):Int)from Oa];exact(h.aA (below_drewN (Below.refl (R+1) w) _) Oa).step f
  .exact(AU.drewN w _).trans (AU.setCell _ (jA R 1 U) _ (zy R)<|Nat.lt_succ_self R)
 .have d:=Ab (show nx zs p=(0,p) by rw[nx,H7 Q2]);have l:(n:Int)<=(p:Int):=Oa;go_enter func26,ntmps26
  go_wp2
  go_quiet (fail)
  go_wp2
  go_ret
  exact⟨_,p,rfl,d,Oa,Oa,h.aA (below_drewN (Below.refl (R+1) w) _) Oa,AU.drewN w _⟩
def WM (k:Nat):K9:= [⟨#[114,101,97,100]⟩,⟨#[119,114,105,116,101]⟩,⟨#[97,100,109,105,110]⟩,⟨#[109,97,105,108]⟩,⟨#[97]⟩,⟨#[98]⟩,⟨#[99,46,100]⟩,⟨#[122,95,57]⟩].getD k ⟨#[]⟩
theorem Aei (w:jB)(k:Nat)(a:k<8):(WM k).size<=10/\jI (jK w<|jH #[jC ⟨#[114,101,97,100]⟩,jC ⟨#[119,114,105,116,101]⟩,jC ⟨#[97,100,109,105,110]⟩,jC ⟨#[109,97,105,108]⟩,jC ⟨#[97]⟩,jC ⟨#[98]⟩,jC ⟨#[99,46,100]⟩,jC ⟨#[122,95,57]⟩] 9) ⟨R<|Z w,k,U⟩=Q (jC<|WM k):=by
 have h:=(Ag.new w #[jC ⟨#[114,101,97,100]⟩,jC ⟨#[119,114,105,116,101]⟩,jC ⟨#[97,100,109,105,110]⟩,jC ⟨#[109,97,105,108]⟩,jC ⟨#[97]⟩,jC ⟨#[98]⟩,jC ⟨#[99,46,100]⟩,jC ⟨#[122,95,57]⟩] 9).cell k
 match k,a with
 |0,_=>exact⟨Ob,h⟩
 |1,_=>exact⟨Ob,h⟩
 |2,_=>exact⟨Ob,h⟩
 |3,_=>exact⟨Ob,h⟩
 |4,_=>exact⟨Ob,h⟩
 |5,_=>exact⟨Ob,h⟩
 |6,_=>exact⟨Ob,h⟩
 |7,_=>exact⟨Ob,h⟩
def Gb (zs:L2) (p:Nat):K9×Nat:=
 if (nx zs p).1 % 8=6 then ((((⟨#[115]⟩:K9)++IH ((nx zs p).1 / 8).toNat)++⟨#[58]⟩)++IH (nx zs (nx zs p).2).1.toNat,(nx zs (nx zs p).2).2)
 else if (nx zs p).1 % 8=7 then
  if 240<(nx zs p).1 then (⟨#[97,45,110,97,109,101,45,116,104,97,116,45,105,115,45,116,104,105,114,116,121,45,116,119,111,45,98,121,116,101,115,46]⟩,(nx zs p).2)
  else ((⟨#[120,46]⟩:K9)++IH ((nx zs (nx zs p).2).1 % 90).toNat,(nx zs (nx zs p).2).2)
 else (WM ((nx zs p).1 / 8 % 8).toNat,(nx zs p).2)
def Akg (R:Nat) (a:L3) (n c:Nat) (zs:L2) (p:Nat) (w:jB) (e:Ending) (w':jB):Prop:=
 ∃ (s:K9) (q:Nat),e=jN (jC s)/\Hid (Gb zs p=(s,q))/\s.size<=1000/\JU w' R a n c zs q/\AU R (R+1) w w'
theorem JY (R:Nat)(a:L3)(n c:Nat)(zs:L2)(p:Nat)(w:jB)(h:JU w R a n c zs p):
  Calls jZ 79 #[jP<|Q<|jA R 0 U] w λe w'=>Akg R a n c zs p w e w':=by
 go_enter func79,ntmps79
 go_wp2_with fail
 refine(BN R a n c zs p w h).mono ?_;rintro e l ⟨x,f,rfl,j,F,G,g,b⟩;by_cases e6:x % 8=6
 .have q:(x % 8==6)=jD:=zD.2 e6;have k:=Ab e6;go_wp2_with fail
  refine(BN R a n c zs f _ g).mono ?_;rintro e w2 ⟨y,m,rfl,o,A,B,i,d⟩;go_wp2_with fail
  refine(Ep _ _ Oa Oa).mono ?_;rintro e C ⟨rfl,hb3⟩;have D:=Ft (x / 8).toNat;have H:(⟨#[115]⟩:K9).size=1:=rfl;have I:(⟨#[58]⟩:K9).size=1:=rfl;go_wp2_with fail
  refine(Ep _ _ Oa Oa).mono ?_;rintro e J ⟨rfl,r⟩;have K:=Ft y.toNat;have t:=i.lt;go_wp2
  go_ret
  refine⟨_,m,rfl,Ab ?_,?_,(i.aA hb3 t).aA r<|zL t hb3.size,((b.trans d).aV hb3<|zB b.size d.size).aV r<|zB (zB b.size d.size) hb3.size⟩
  .rw[Gb,Aa j,H8<|Aa k,Aa o]
  .rw[GE,GE,GE];omega
 by_cases e7:x % 8=7
 .have q:(x % 8==6)=jE:=zA.2 e6;have E:(x % 8==7)=jD:=zD.2 e7;have k:=Ab e6;have u:=Ab e7;by_cases v: 240<x
  .go_wp2
   go_ret
   exact⟨_,f,rfl,Ab<|by rw[Gb,Aa j,H7<|Aa k,H8<|Aa u,H8 v],Ob,g,b⟩
  .have L: ¬ (240<x):=v;go_wp2_with fail
   refine(BN R a n c zs f _ g).mono ?_;rintro e w2 ⟨y,m,rfl,o,A,B,i,d⟩;go_wp2_with fail
   refine(Ep _ _ Oa Oa).mono ?_;rintro e C ⟨rfl,hb3⟩;have D:=Ft (y % 90).toNat;go_wp2
   go_ret
   refine⟨_,m,rfl,Ab ?_,?_,i.aA hb3 i.lt,(b.trans d).aV hb3<|zB b.size d.size⟩
   .rw[Gb,Aa j,H7<|Aa k,H8<|Aa u,H7 Oa,Aa o]
   .rw[GE];have:(⟨#[120,46]⟩:K9).size=2:=rfl;omega
 have q:(x % 8==6)=jE:=zA.2 e6;have E:(x % 8==7)=jE:=zA.2 e7;obtain⟨hs,hc⟩:=Aei l (x / 8 % 8).toNat Oa;have z:=Ab (show Gb zs p=(WM (x / 8 % 8).toNat,f) by rw[Gb,Aa j,H7<|Aa<|Ab e6,H7<|Aa<|Ab e7]);generalize WM (x / 8 % 8).toNat=s at hs hc z;go_wp2
 go_ret
 exact⟨s,f,rfl,z,Oa,g.aA (AE l _) g.lt,b.aV (AE l _) b.size⟩
end
section
open Go.RowKit
def OJ (m:Nat) (f:Int):L4:=(List.range m).map λ(i:Nat)=>(⟨#[119]⟩:K9)++IH (f+(i:Int)).toNat
theorem Zh (m:Nat)(f:Int):OJ (m+1) f=OJ m f++[(⟨#[119]⟩:K9)++IH (f+(m:Int)).toNat]:=by simp[OJ,List.range_succ]
def Aim (w:jB) (m:Nat) (f:Int) (e:Ending) (w':jB):Prop:=∃x cx K,e=jN (Y x (T K) cx)/\Hid (K=OJ m f)/\T K<=m/\A6 w' (R<|Z w) x K cx/\Ai w w'
theorem Aej (m:Nat)(f:Int)(w:jB)(hm:m<=64)(F: 0<=f)(f1:f<=200):
  Calls jZ 81 #[V X m,V X f] w λe w'=>Aim w m f e w':=by
 obtain⟨i,hi,p,q,r⟩:=info_parts GB;go_enter func81,ntmps81
 go_wp2_with fail
 go_loopw [5,6] (λv a wr=>∃ (k:Nat) (K:L4) (x:L3) (cx:Nat),k<=m/\a=V X k/\v=Y x (T K) cx/\Hid (K=OJ k f)/\T K<=k/\A6 wr (R<|Z w) x K cx/\Ai w wr) (λ_ a _=>m-(intOf a).toNat)
 case atStart=>exact⟨0,[],U,0,zE _,rfl,rfl,Ab rfl,NLN,A6.nil _ _,BRN⟩
 case round=>
  obtain⟨k,K,x,cx,d,rfl,rfl,g,s,h,b⟩:=hrel;by_cases G:k<m
  .have t:(k:Int)<(m:Int):=Oa;go_wp2_with fail
   refine(Ep _ _ Oa Oa).mono ?_;rintro e y ⟨rfl,j⟩;have H:=Ft (f+(k:Int)).toNat;have I:(⟨#[119]⟩:K9).size=1:=rfl;have l:=b.trans<|j.mono b.size;have n:=h.below j NLN;have o:=n.aN;have z:=l.size;go_wp2_with (at_builtin;refine G7 _ rfl _ _ 30 rfl (R<|Z w) 9 i (jC jW) 1 16 underlying30 hi p q r rfl Ob _ _ _ rfl (o.alloc _) ⟨R<|Z y,0,U⟩ 1 1 [jC<|⟨#[119]⟩++IH (f+(k:Int)).toNat] rfl rfl ?c1 ?c2 ?c3 ?c4 ?c5 ?_)
   case c1=>exact K4 _ _ _
   case c2=>intro u hu;simp at hu;subst hu;rfl
   case c3=>unfold maxLen;omega
   case c4=>omega
   case c5=>simp;omega
   intro v' w2 c A _;have B:Ai w w2:=(l.alloc z _).grown A O0 λk d=>(o.lt k d).1;obtain⟨C,D,E⟩:=AA c;rw[E]at c|-;go_wp2
   go_roundw
   case rel=>exact⟨k+1,K++[⟨#[119]⟩++IH (f+(k:Int)).toNat],C,D,Oa,O1,by rw[zC];rfl,Ab<|by rw[Zh,Aa g],O0,A6.bN c n.aJ<|by rw[GE];omega,B⟩
   case measure=>simp[intOf]<;>omega
  .have t: ¬ ((k:Int)<(m:Int)):=Oa;obtain rfl:k=m:=Oa;go_wp2
   go_ret
   exact⟨x,cx,K,rfl,g,s,h,b⟩
theorem TI (m f:Int)(w:jB)(m0: 0<=m)(hm:m<=64)(a: 0<=f)(f1:f<=200):
  Calls jZ 81 #[V X m,V X f] w λe w'=>Aim w m.toNat f e w':=by grind [Aej]
def DT (zs:L2):Nat->Nat->L4×Nat
 |0,p=>([],p)
 |k+1,p=>((Gb zs p).1 ::(DT zs k (Gb zs p).2).1,(DT zs k (Gb zs p).2).2)
def Nq (zs:L2) (p:Nat) (K:L4) (q:Nat):Prop:=
 ((nx zs p).1 % 13=12->Ba (OJ (64-(nx zs p).1 / 13 % 3).toNat<|(nx zs (nx zs p).2).1 % 40) K/\q=(nx zs (nx zs p).2).2)/\
 ((nx zs p).1 % 13≠12->Ba (DT zs ((nx zs p).1 % 13 % 7).toNat (nx zs p).2).1 K/\q=(DT zs ((nx zs p).1 % 13 % 7).toNat (nx zs p).2).2)
def Akh (R:Nat) (a:L3) (n c:Nat) (zs:L2) (S:L4->Nat->Prop) (w:jB) (top:Nat) (e:Ending) (w':jB):Prop:=
 ∃x cx K q,e=jN (Y x (T K) cx)/\Hid (S K q)/\T K<=top/\A6 w' (jh<|Z w) x K cx/\JU w' R a n c zs q/\AU R (R+1) w w'
theorem Pw (R:Nat)(a:L3)(n c:Nat)(zs:L2)(p:Nat)(w:jB)(h:JU w R a n c zs p):
  Calls jZ 80 #[jP<|Q<|jA R 0 U] w λe w'=>Akh R a n c zs (Nq zs p) w 64 e w':=by
 obtain⟨i,hi,aa,ab,ac⟩:=info_parts GB;have ad:=h.lt;go_enter func80,ntmps80
 go_wp2_with fail
 refine(BN R a n c zs p w h).mono ?_;rintro e ae ⟨x,b,rfl,g,aw,ax,H,I⟩;by_cases j:x % 13=12
 .have af:(x % 13==12)=jD:=zD.2 j;have r:=Ab j;go_wp2_with fail
  refine(BN R a n c zs b ae H).mono ?_;rintro e w2 ⟨y,ag,rfl,ah,ay,az,l,m⟩;have f:=I.trans m;go_wp2_with fail
  refine(TI _ _ _ Oa Oa Oa Oa).mono ?_;rintro e J ⟨aB,c3,ai,rfl,aj,aC,L,b3⟩;have aD:T ai<=64:=Oa;go_wp2_with fail
  refine(Jt _ _ _ _ _ L.cZ Oa).mono ?_;rintro e ak ⟨t,c4,z,rfl,A,b4,d⟩;have M:=b3.trans<|b4.mono b3.size;have al:=d.len;go_wp2
  go_ret
  refine⟨t,c4,z,ag,rfl,Ab ⟨λ_=>?_,λN=>?_⟩,Oa,⟨CF A<|zB f.size b3.size,Mq d L.aJ⟩,l.aA M l.lt,f.aV M f.size⟩
  .rw[Aa g,Aa ah,<-Aa aj];exact⟨d,rfl⟩
  .rw[Aa g]at N;exact H9 (Aa r) N
 .have af:(x % 13==12)=jE:=zA.2 j;have r:=Ab j;go_wp2_with fail
  go_loopw [4,5] (λv B wr=>∃ (k:Int) (K:L4) (y:L3) (C:Nat) (q:Nat),0<=k/\k<=6/\(T K:Int)+k<=6/\B=V X k/\v=Y y (T K) C/\Hid (K++(DT zs k.toNat q).1=(DT zs (x % 13 % 7).toNat b).1/\(DT zs k.toNat q).2=(DT zs (x % 13 % 7).toNat b).2)/\A6 wr (jh<|Z w) y K C/\JU wr R a n c zs q/\AU R (R+1) w wr) (λ_ B _=>(intOf B).toNat)
  case atStart=>exact⟨x % 13 % 7,[],U,0,b,Oa,Oa,O0,rfl,rfl,Ab ⟨rfl,rfl⟩,A6.nil _ _,H,I⟩
  case round=>
   obtain⟨k,K,y,C,q,aE,aF,aG,rfl,rfl,O,D,E,ht⟩:=hrel;by_cases F: 0<k
   .go_wp2_with fail
    refine(JY R a n c zs q wr E).mono ?_;rintro e w2 ⟨s,q2,rfl,S2,ao,l,m⟩;have P:=D.aR m Oa;have f:=ht.trans m;have S:=P.aN;have ap:=f.size;have o:=Ab (show(K++[s])++(DT zs (k-1).toNat q2).1=(DT zs (x % 13 % 7).toNat b).1/\(DT zs (k-1).toNat q2).2=(DT zs (x % 13 % 7).toNat b).2 by
     have hh:=Aa O;rw[(Oa:k.toNat=(k-1).toNat+1)]at hh;simp only[DT,Aa S2]at hh;exact⟨by rw[<-hh.1];simp,hh.2⟩)
    go_wp2_with (at_builtin;refine G7 _ rfl _ _ 30 rfl (jh<|Z w) 9 i (jC jW) 1 16 underlying30 hi aa ab ac rfl Ob _ _ _ rfl (S.alloc _) ⟨jh<|Z w2,0,U⟩ 1 1 [jC s] rfl rfl ?c1 ?c2 ?c3 ?c4 ?c5 ?_)
    case c1=>exact K4 _ _ _
    case c2=>intro u hu;simp at hu;subst hu;rfl
    case c3=>unfold maxLen;omega
    case c4=>omega
    case c5=>simp;omega
    intro v' J G aq _;have W:Below (jh<|Z w) w2 J:=((Below.refl (jh<|Z w) w2).alloc ap _).grown aq O0 λk F=>(S.lt k F).1;obtain⟨ar,au,av⟩:=AA G;rw[av]at G|-;go_wp2
    go_roundw
    case rel=>exact⟨k-1,K++[s],ar,au,q2,Oa,Oa,O0,O1,by rw[zC];rfl,o,A6.bN G P.aJ ao,l.aA W ad,f.aV W NLN⟩
    case measure=>simp[intOf]<;>omega
   .have aH: ¬ (0<k):=F;have aI:T K<=6:=Oa;have o:=Ab (show K=(DT zs (x % 13 % 7).toNat b).1/\q=(DT zs (x % 13 % 7).toNat b).2 by
     have hh:=Aa O;rw[(Oa:k.toNat=0)]at hh;simp only[DT,List.append_nil]at hh;exact hh)
    go_wp2_with fail
    refine(Jt _ _ _ _ _ D.cZ Oa).mono ?_;rintro e ak ⟨t,c4,z,rfl,A,b4,d⟩;have al:=d.len;go_wp2
    go_ret
    refine⟨t,c4,z,q,rfl,Ab ⟨λhe=>?_,λ_=>?_⟩,Oa,⟨CF A ht.size,Mq d D.aJ⟩,E.aA b4 E.lt,ht.aV b4 ht.size⟩
    .rw[Aa g]at he;exact H9 he<|Aa r
    .rw[Aa g,<-(Aa o).1];exact⟨d,(Aa o).2⟩
set_option maxHeartbeats 6400000
def Ds (op:Int):L2×Int:=
 if op=1 then ([],2)
 else if op=2 then ([],3)
 else if op=3 then ([],1)
 else if op=4 then ([],4)
 else if op=8 then ([2],2)
 else if op=9 then ([1],1)
 else if op=10 then ([4],2)
 else if op=11 then ([2,2],2)
 else if op=12 then ([2,2],2)
 else if op=13 then ([2,2],2)
 else if op=14 then ([2,2],2)
 else if op=15 then ([2,2],2)
 else if op=16 then ([4,4],4)
 else if op=17 then ([4,4],4)
 else if op=18 then ([4,4],4)
 else if op=19 then ([0,0],1)
 else if op=20 then ([0,0],1)
 else if op=21 then ([2,2],1)
 else if op=22 then ([2,2],1)
 else if op=23 then ([3,4],1)
 else if op=24 then ([4,4],1)
 else if op=25 then ([1,1],1)
 else if op=26 then ([1,1],1)
 else if op=27 then ([1,0,0],0)
 else ([1,0,0],0)
theorem Af9 (w:jB)(t:jV)(L:L2)(a:T L<=1048576):AP (jK w<|jH (L.map<|Value.int X).toArray t) (Q ⟨R<|Z w,0,U⟩) (T L) (T L) L:=by
 refine⟨rfl,a,λj b=>⟨R<|Z w,0,rfl,Ox,?_⟩⟩
 simp_all
theorem Ada (w:jB):AP w U 0 0 []:=⟨rfl,Oa,λj h=>H9 h Ox⟩
def Iy (op:Int):Prop:=(1<=op/\op<=4)\/(8<=op/\op<=27)
def Aiv (op:Int) (w:jB) (r:Ending) (w':jB):Prop:=(∃x n c,r=jN (jQ #[Y x n c,V X (Ds op).2])/\AP w' x n c (Ds op).1)/\Ai w w'
def RwF (op:Int) (w:jB) (r:Ending) (w':jB):Prop:=∃x n c,r=jN (jQ #[Y x n c,V X (Ds op).2])/\AP w' x n c (Ds op).1/\(∀ad,x=Q ad->R (Z w)<=Addr.block ad)/\Ai w w'
theorem AjN {a:Func}(op:Int)(c:∀V:jB,(results a b).run jZ V= .ok (jQ #[Y (Q ⟨R<|Z w,0,U⟩) (T (Ds op).1)<|T (Ds op).1,jc X (Ds op).2]) V)(d:T (Ds op).1<=3):bodyPost jZ a (RwF op w) Exit.ret { tmps:=b,defers:= [] }<|jK w<|jH ((Ds op).1.map<|Value.int X).toArray t:=
 G2 (c _) rfl ⟨_,_,_,rfl,Af9 w t _ Oa,λf e=>(by cases e;exact NLN),AE w _⟩
theorem Af3 (op:Int)(h:Iy op)(w:jB):Calls jZ 70 #[jc X op] w<|RwF op w:=by
 have h:op=1\/op=2\/op=3\/op=4\/op=8\/op=9\/op=10\/op=11\/op=12\/op=13\/op=14\/op=15\/op=16\/op=17\/op=18\/op=19\/op=20\/op=21\/op=22\/op=23\/op=24\/op=25\/op=26\/op=27:=by unfold Iy at h;omega
 obtain rfl|rfl|rfl|rfl|h:=h
 case' inr.inr.inr.inr=>
  obtain rfl|rfl|rfl|rfl|rfl|rfl|rfl|rfl|rfl|rfl|rfl|rfl|rfl|rfl|rfl|rfl|rfl|rfl|rfl|rfl:=h
  all_goals
   go_enter func70,ntmps70
   go_wp2_with fail
   exact AjN _ (λV=>by simp[results,results70,go_sem,Ds]) Ob
 all_goals
  go_enter func70,ntmps70
  go_wp2
  exact G2 (v:= jQ #[Y U 0 0,jc X (Ds _).2]) (by simp[results,results70,go_sem,Ds]) rfl ⟨_,_,_,rfl,Ada w,λa e=>O5,BRN⟩
theorem Tf (op:Int)(h:Iy op)(w:jB):Calls jZ 70 #[V X op] w<|Aiv op w:=(Af3 op h w).mono λ_ _ ⟨x,n,c,e,a,_,b⟩=>⟨⟨x,n,c,e,a⟩,b⟩
set_option maxHeartbeats 1600000
theorem EU (n:Int)(w:jB):Calls jZ 69 #[V X n] w λr w'=>r=jN (V X<|BI n)/\w'=w:=by
 by_cases b:n<2
 .have a:=Ab (show BI n=3 by rw[BI,H8 b]);go_enter func69,ntmps69
  go_wp2
  go_ret
  exact⟨by rw[Aa a];rfl,rfl⟩
 by_cases c:n<4
 .have a:=Ab (show BI n=2 by rw[BI,H7 b,H8 c]);go_enter func69,ntmps69
  go_wp2
  go_ret
  exact⟨by rw[Aa a];rfl,rfl⟩
 .have a:=Ab (show BI n=4 by rw[BI,H7 b,H7 c]);go_enter func69,ntmps69
  go_wp2
  go_ret
  exact⟨by rw[Aa a];rfl,rfl⟩
def JM:Int->L2->L2->N7
 |any,[],_=>Q any
 |any,w ::ws,ks=>match ks with
  |[]=>U
  |k ::ks=>if w=0 then (if any=0 then JM k ws ks else if k=any then JM any ws ks else U)else if k=w then JM any ws ks else U
def Eo (op:Int) (K:L2):Int:=match JM 0 (Ds op).1 K with
 |none=>0
 |some any=>if (Ds op).2=0 then any else (Ds op).2
theorem Abx {a K:L2}{k:Nat}(b:k<T a)(c:k<T K):JM top (a.drop k) (K.drop k)=
  if a[k]=0 then (if top=0 then JM K[k] (a.drop<|k+1) (K.drop<|k+1)else if K[k]=top then JM top (a.drop<|k+1) (K.drop<|k+1)else U)else if K[k]=a[k]then JM top (a.drop<|k+1) (K.drop<|k+1)else U:=by grind [JM,z4]
theorem Y6 (op:Int)(h:Iy op)(a:L3)(n c:Nat)(K:L2)(w:jB)(z:AP w a n c K)(A:T (Ds op).1<=n):
  Calls jZ 148 #[V X op,Y a n c] w λr w'=>r=jN (V X<|Eo op K)/\Ai w w':=by
 have B:=Ab<|Tf op h w;obtain⟨d,s⟩:∃d,d=(Ds op).1:=⟨_,rfl⟩
 obtain⟨o,C⟩:∃o,o=(Ds op).2:=⟨_,rfl⟩
 have D:=Ab (show Eo op K=match JM 0 d K with|none=>0|some any=>if o=0 then any else o by rw[s,C];rfl)
 unfold Aiv at B;rw[<-s,<-C]at B;rw[<-s]at A;have M:=Ab A;have J:=Ab z.len;have S:=z.aJ;clear s C A h;go_enter func148,ntmps148
 go_wp2_with fail
 refine(Aa B).mono ?_;rintro r N ⟨⟨x,m,c1,rfl,E⟩,g⟩;have L:=Ab E.len;have O:=z.below g NLN;have hm:=E.aJ;dsimp only;go_wp2_with fail
 go_loopw [7,17] (λv i wr=>∃ (k:Nat) (any:Int),k<=m/\v=V X any/\i=V X k/\Ai N wr/\Hid (JM 0 d K=JM any (d.drop k) (K.drop k))) (λ_ i _=>m-(intOf i).toNat)
 case atStart=>exact⟨0,0,Oa,rfl,rfl,BRN,Ab rfl⟩
 case round=>
  obtain⟨k,any,W,rfl,rfl,j,G⟩:=hrel;by_cases H:k<m
  .have aa:(k:Int)<(m:Int):=Oa;have t:k<T d:=by rw[Aa L];exact H
   have y:k<T K:=by have:=Aa M;rw[Aa J];omega
   have i2:(k:Int)<(n:Int):=H2<|Aa J;obtain⟨b1,ab,rfl,ac,c0⟩:=(E.below j NLN).cells k t;obtain⟨b2,ad,rfl,ae,c2⟩:=(O.below j NLN).cells k y;have f:=Ab<|(Aa G).trans<|Abx t y;have l:=Ab (show(if d[k]=0 then (if any=0 then JM K[k] (d.drop<|k+1) (K.drop<|k+1)else if K[k]=any then JM any (d.drop<|k+1) (K.drop<|k+1)else U)else if K[k]=d[k]then JM any (d.drop<|k+1) (K.drop<|k+1)else U)=U->Eo op K=0 from λe=>by rw[Aa D,Aa G,Abx t y,e]);have p:=Ab H;generalize JM 0 d K=F at f D;generalize d[k]=u at c0 f l;generalize K[k]=v at c2 f l;clear H t y;by_cases hu:u=0
   .subst hu;by_cases q:any=0
    .subst q;have b:=Ab ((Aa f).trans<|by rw[H8 rfl,H8 rfl]);clear f l;go_wp2
     go_roundw
     case rel=>exact⟨k+1,v,Aa p,rfl,O1,j,b⟩
     case measure=>have:=Aa p;simp[intOf];omega
    .have af:(any==0)=jE:=zA.2 q;by_cases hv:v=any
     .have I:(v !=any)=jE:=by simp[hv]
      have b:=Ab ((Aa f).trans<|by rw[H8 rfl,H7 q,H8 hv]);clear f l q hv;go_wp2
      go_roundw
      case rel=>exact⟨k+1,any,Aa p,rfl,O1,j,b⟩
      case measure=>have:=Aa p;simp[intOf];omega
     .have I:(v !=any)=jD:=zV.2 hv;have b:=Ab (Aa l<|by rw[H8 rfl,H7 q,H7 hv]);clear f l q hv;go_wp2
      go_ret
      exact⟨by rw[Aa b];rfl,g.trans<|j.mono g.size⟩
   .have ag:(u==0)=jE:=zA.2 hu;by_cases hv:v=u
    .have I:(v !=u)=jE:=by simp[hv]
     have b:=Ab ((Aa f).trans<|by rw[H7 hu,H8 hv]);clear f l hu hv;go_wp2
     go_roundw
     case rel=>exact⟨k+1,any,Aa p,rfl,O1,j,b⟩
     case measure=>have:=Aa p;simp[intOf];omega
    .have I:(v !=u)=jD:=zV.2 hv;have b:=Ab (Aa l<|by rw[H7 hu,H7 hv]);clear f l hu hv;go_wp2
     go_ret
     exact⟨by rw[Aa b];rfl,g.trans<|j.mono g.size⟩
  .have e:k=m:=Oa;subst e;have b:=Ab (show Eo op K=if o=0 then any else o by
    rw[Aa D,Aa G,List.drop_of_length_le<|by rw[Aa L];omega];rfl)
   by_cases h0:o=0
   .subst h0;have b:=Ab<|(Aa b).trans<|H8 rfl;go_wp2
    go_ret
    exact⟨by rw[Aa b];rfl,g.trans<|j.mono g.size⟩
   .have e0:(o==0)=jE:=zA.2 h0;have P:=Ab h0;clear h0;go_wp2
    go_ret
    exact⟨by rw[Aa b,H7<|Aa P];rfl,g.trans<|j.mono g.size⟩
set_option maxHeartbeats 6400000
theorem AcO {M:Nat}(b:∀k O,T (f k O)<=max (T O) M+1)(top:Int):∀(a O:L2),T (DZ f top a O)<=max (T O) M+T a+1:=by intro a;induction a<;>intros<;>grind [DZ]
theorem Oj {K:List L2}(h3:∀a∈K,T a<=3):∀(n:Nat) (top:Int) (O:L2),T (Bc K n top O)<=max (T O) (T K+3*n)+1
 |0,top,O=>by grind [Bc]
 |n+1,top,O=>by
  rw[Bc];dsimp only;split
  .grind
  .rename_i hc;have b:=AcO (M:=T K+3*n) (Oj h3 n) top (K.getD top.toNat []) O
   grind
def GL (w:jB) (v:jF) (w':jB) (v':jF):Prop:=(∀k,k<R (Z w)->Q k≠jL v->(Z w')[k]? =(Z w)[k]?)/\(∀q,jL v'=Q q->jL v=Q q\/R (Z w)<=q)/\R (Z w)<=R (Z w')
theorem GL.refl (w:jB)(v:jF):GL w v w v:=⟨λ_ _ _=>rfl,λq h=> .inl h,NLN⟩
theorem GL.trans {a:jB}{b c:jF}(h:GL w v a b)(k:GL a b w2 c):GL w v w2 c:=by grind [GL]
theorem EK {o:Obj}{g:Nat}(hg:(jK w o).grownBy w'<|jL v)(a:jL v=Q g\/g=R (Z w)+1):GL w v w'<|Y (Q<|jA g 0 U) n c:=
 ⟨λk b d=>(hg.block k O0 d).trans<|Below.heap_alloc w o k b,λq hq=>by
  have:g=q:=O8;subst this;obtain e|e:=a
  .exact .inl e
  .right;omega,by have:=hg.size;simp at this;omega⟩
theorem Ag.aM {b:Nat}{a:Array jF}(R:Ag w b a t)(h:GL w v w' v')(c:jL v≠Q b):Ag w' b a t:=⟨(h.1 b R.lt λe=>c e.symm).trans R.out⟩
def Abs (B:Nat) (w:jB) (v:jF) (R:L2) (e:Ending) (w':jB):Prop:=∃v',e=jN v'/\jO w' B 3 1 v' (T R) (Ak R)/\Below B w w'/\GL w v w' v'
theorem Fp {B:Nat}{x:Int}(h:jO w B 3 1 v (T zs+1)<|Ak zs++[V X x]):jO w B 3 1 v (T<|zs++[x])<|Ak<|zs++[x]:=by grind [Ak]
theorem Si {K:List L2}(h:top<0\/(T K:Int)<=top\/T K<T zs):∀fuel,Bc K fuel top zs=zs++[-1]
 |0=>rfl
 |n+1=>by rw[Bc];exact H8 h
theorem Nk (a:L3)(n c:Nat)(B:Nat)(top:Int)(O:L2)(v:jF)(w:jB)(y:n<=4000)(h:top<0\/(n:Int)<=top\/n<T O)(z:T O<=100000)(k:B<=R (Z w))(d:jO w B 3 1 v (T O)<|Ak O):
  Calls jZ 124 #[Y a n c,V X top,v] w λe w'=>Abs B w v (O++[-1]) e w':=by
 obtain⟨i,hi,l,m,o⟩:=info_parts If;obtain⟨A,C,rfl,_⟩:=Ae d;rcases(Oa:top<0\/(0<=top/\(n:Int)<=top)\/(0<=top/\top<n/\n<T O))with t|⟨h0,x⟩|⟨h0,x,h3⟩
 .have p:top<0:=t;go_enter func124,ntmps124
  go_wp2_with (at_builtin;refine G6 _ rfl _ _ 44 rfl B 3 i (V X 0) 1 8 underlying44 hi l m o rfl Ob _ _ _ rfl (G1 d _) ⟨R<|Z w,0,U⟩ 1 1 [V X<|-1] rfl rfl ?a1 ?a2 Ob ?a3 ?a4 ?a5 _ rfl ?_)
  first|(case a1=>exact DP _ _ _ _ Ox)|skip
  case a2=>first|(intro u hu;simp at hu;subst hu;rfl)|rfl
  case a3=>unfold maxLen;omega
  case a4=>omega
  case a5=>first|(simp;omega)|omega
  intro g cap r f b hat s;have j:=((Below.refl B w).alloc k<|jH #[V X<|-1] 3).grown b O0 λq hq=>(d.lt q hq).1;go_wp2
  go_ret
  exact⟨_,rfl,(Fp f),j,(EK (n:=T O+1) (c:=cap) b hat)⟩
 .have p: ¬ top<0:=Oa;go_enter func124,ntmps124
  go_wp2_with (at_builtin;refine G6 _ rfl _ _ 44 rfl B 3 i (V X 0) 1 8 underlying44 hi l m o rfl Ob _ _ _ rfl (G1 d _) ⟨R<|Z w,0,U⟩ 1 1 [V X<|-1] rfl rfl ?b1 ?b2 Ob ?b3 ?b4 ?b5 _ rfl ?_)
  first|(case b1=>exact DP _ _ _ _ Ox)|skip
  case b2=>first|(intro u hu;simp at hu;subst hu;rfl)|rfl
  case b3=>unfold maxLen;omega
  case b4=>omega
  case b5=>first|(simp;omega)|omega
  intro g cap r f b hat s;have j:=((Below.refl B w).alloc k<|jH #[V X<|-1] 3).grown b O0 λq hq=>(d.lt q hq).1;go_wp2
  go_ret
  exact⟨_,rfl,(Fp f),j,(EK (n:=T O+1) (c:=cap) b hat)⟩
 .have p: ¬ top<0:=Oa;have D:(n:Int)<(T O:Int):=Oa;go_enter func124,ntmps124
  go_wp2_with (at_builtin;refine G6 _ rfl _ _ 44 rfl B 3 i (V X 0) 1 8 underlying44 hi l m o rfl Ob _ _ _ rfl (G1 d _) ⟨R<|Z w,0,U⟩ 1 1 [V X<|-1] rfl rfl ?c1 ?c2 Ob ?c3 ?c4 ?c5 _ rfl ?_)
  first|(case c1=>exact DP _ _ _ _ Ox)|skip
  case c2=>first|(intro u hu;simp at hu;subst hu;rfl)|rfl
  case c3=>unfold maxLen;omega
  case c4=>omega
  case c5=>first|(simp;omega)|omega
  intro g cap r f b hat s;have j:=((Below.refl B w).alloc k<|jH #[V X<|-1] 3).grown b O0 λq hq=>(d.lt q hq).1;go_wp2
  go_ret
  exact⟨_,rfl,(Fp f),j,(EK (n:=T O+1) (c:=cap) b hat)⟩
theorem ZT {a:L2}{j:Nat}(b:j<T a)(O:L2):DZ f top (a.drop j) O=if top<=a[j]then O++[-1]else DZ f top (a.drop<|j+1) (f a[j] O):=by rw[z4 b,DZ]
theorem H4 (a:L3)(n c:Nat)(N:L6)(w0:jB)(B:Nat)(D:IN w0 a n c N)(au:jh (Z w0)<=B)(ac:n<=4000)(h3:∀av∈N.map Nd.aD,T av<=3):
  ∀(fuel:Nat) (top:Int) (O:L2) (v:jF) (w:jB),fuel<=4000->(T N<=fuel\/top<fuel)->T O<=100000->Ai w0 w->B<=jh (Z w)->jO w B 3 1 v (T O) (Ak O)->
  Calls jZ 124 #[Y a n c,V X top,v] w λe w'=>Abs B w v (Bc (N.map Nd.aD) fuel top O) e w':=by
 have E:=Ab D.len;have G:=Ab (show T (N.map Nd.aD)=n by rw[zN,D.len]);have ad:=Ab h3;obtain⟨i,hi,ae,af,ag⟩:=info_parts If;intro fuel
 induction fuel with
 |zero=>
  intro top O v w _ aw H I z m;have aK:=Aa E;rw[Si (K:=N.map Nd.aD) (by rw[zN];omega) 0];exact Nk a n c B top O v w ac Oa H z m
 |succ fuel ah=>
  intro top O v w aL aw H I z m;by_cases hu:top<0\/(n:Int)<=top\/n<T O
  .rw[Si (K:=N.map Nd.aD) (by rw[Aa G];exact hu)<|fuel+1];exact Nk a n c B top O v w ac hu H z m
  .obtain⟨t,rfl⟩:∃t:Nat,top=(t:Int):=⟨top.toNat,Oa⟩
   have ax:t<n:=Oa;have aM:T O<=n:=Oa;have J:t<T N:=by rw[Aa E];exact ax
   have aN: ¬ ((t:Int)<0):=Oa;have i2: ¬ ((n:Int)<=(t:Int)):=Oa;have aO:(t:Int)<(n:Int):=Oa;have aP: ¬ ((n:Int)<(T O:Int)):=Oa;have aQ:t<=fuel:=H2<|Aa E;have ay:=Ab (show Bc (N.map Nd.aD) (fuel+1) (t:Int) O=DZ (Bc (N.map Nd.aD) fuel) (t:Int) (N[t].aD) O by
    rw[Bc];dsimp only;rw[H7<|by rw[Aa G];exact hu,zS,zj,zr,zM J];rfl)
   have ai:T N[t].aD<=3:=Aa ad _<|List.mem_map_of_mem<|zI J;rw[Aa ay];obtain⟨b,az,rfl,aA,an,nn,cn,aR,h,aS,c0,c1,c2,c3,c4,aB,A⟩:=D.cells t J;have c4:=(I.cell (p:=⟨b,az+t*5+4,U⟩) aA).trans c4;have L:=Ab λk O=>Oj (K:=N.map Nd.aD) (Aa ad) fuel k O;rw[Aa G]at L;generalize N[t]=x at c0 c1 c2 c3 c4 aB A ai|-;generalize Bc (N.map Nd.aD) fuel=F at ah L|-;have aj:=Ab A.len;have aT:h<=3:=by rw[<-A.len];exact ai
   obtain⟨aC,aE,rfl,_⟩:=Ae m;have ak:=Ab (show DZ F (t:Int) (x.aD.drop 0) O=DZ F (t:Int) x.aD O by rw[List.drop_zero]);generalize DZ F (t:Int) x.aD O=R at ak|-;go_enter func124,ntmps124
   go_wp2_with fail
   go_loopw [2,33] (λu i wr=>∃ (j:Nat) (d:L2),j<=h/\i=V X j/\Hid (DZ F (t:Int) (x.aD.drop j) d=R)/\T d<=n+3*fuel+j/\jO wr B 3 1 u (T d) (Ak d)/\Below B w wr/\GL w (Y aC (T O) aE) wr u) (λ_ i _=>h-(intOf i).toNat)
   case atStart=>exact⟨0,O,Oa,rfl,ak,Oa,m,BRN,GL.refl _ _⟩
   case round=>
    obtain⟨j,d,aU,rfl,al,aV,l,o,M⟩:=hrel;obtain⟨aW,aX,rfl,_⟩:=Ae l;have P:=zB z o.size;have ao:=I.trans<|o.mono au;by_cases ap:j<h
    .have aY:(j:Int)<(h:Int):=Oa;have aq:j<T x.aD:=by rw[Aa aj];exact ap
     obtain⟨aZ,ok,rfl,a0,aF⟩:=(A.below ao NLN).cells j aq;have C:=Ab<|ZT (f:=F) (top:=(t:Int)) aq d;rw[Aa al]at C;have ar:=Ab ap;generalize x.aD[j]=y at aF C;by_cases hy:(t:Int)<=y
     .have r:=Ab (show R=d++[-1] by rw[Aa C,H8 hy]);go_wp2_with (at_builtin;refine G6 _ rfl _ _ 44 rfl B 3 i (V X 0) 1 8 underlying44 hi ae af ag rfl Ob _ _ _ rfl (G1 l _) ⟨jh<|Z wr,0,U⟩ 1 1 [V X<|-1] rfl rfl ?d1 ?d2 Ob ?d3 ?d4 ?d5 _ rfl ?_)
      first|(case d1=>exact DP _ _ _ _ Ox)|skip
      case d2=>first|(intro u hu;simp at hu;subst hu;rfl)|rfl
      case d3=>unfold maxLen;omega
      case d4=>omega
      case d5=>first|(simp;omega)|omega
      intro g cap aG S s hat aH;have W:=EK (n:=T d+1) (c:=cap) s hat;have aa:=(o.alloc P<|jH #[V X<|-1] 3).grown s O0 λq hq=>(l.lt q hq).1;have ab:=Fp S;go_wp2
      go_ret
      exact⟨_,rfl,by rw[Aa r];exact ab,aa,M.trans W⟩
     .have r:=Ab (show DZ F (t:Int) (x.aD.drop<|j+1) (F y d)=R by rw[Aa C,H7 hy]);have a1:=Aa L y d;go_wp2_with (go_at_call 124;refine(ah y d _ wr Oa Oa Oa ao P l).mono ?_;rintro e w2 ⟨a2,rfl,aI,aJ,K2⟩)
      go_roundw
      case rel=>exact⟨j+1,F y d,Aa ar,O1,r,Oa,aI,o.trans aJ,M.trans K2⟩
      case measure=>have:=Aa ar;simp[intOf];omega
    .have e:j=h:=Oa;subst e;have r:=Ab (show R=d++[(t:Int)] by
      rw[<-Aa al,List.drop_of_length_le<|by rw[Aa aj];exact NLN,DZ])
     go_wp2_with (at_builtin;refine G6 _ rfl _ _ 44 rfl B 3 i (V X 0) 1 8 underlying44 hi ae af ag rfl Ob _ _ _ rfl (G1 l _) ⟨jh<|Z wr,0,U⟩ 1 1 [V X (t:Int)] rfl rfl ?e1 ?e2 Ob ?e3 ?e4 ?e5 _ rfl ?_)
     first|(case e1=>exact DP _ _ _ _ Ox)|skip
     case e2=>first|(intro u hu;simp at hu;subst hu;rfl)|rfl
     case e3=>unfold maxLen;omega
     case e4=>omega
     case e5=>first|(simp;omega)|omega
     intro g cap aG S s hat aH;have W:=EK (n:=T d+1) (c:=cap) s hat;have aa:=(o.alloc P<|jH #[V X (t:Int)] 3).grown s O0 λq hq=>(l.lt q hq).1;have ab:=Fp S;go_wp2
     go_ret
     exact⟨_,rfl,by rw[Aa r];exact ab,aa,M.trans W⟩
set_option maxHeartbeats 800000
theorem Od (a:L3)(n c:Nat)(ss:L4)(s:K9)(w:jB)(h:Aq w a n c ss):
  Calls jZ 160 #[Y a n c,jC s] w λe w'=>e=jN (.bool<|Lg ss s)/\w'=w:=by
 have p:n<=9223372036854775807:=Q1;go_enter func160,ntmps160
 go_wp2
 go_loop [6,9] (λ_ i=>∃k:Nat,k<=n/\i=V X k/\∀j,j<k->eqS (AG ss j) s=jE) (λ_ i=>n-(intOf i).toNat)
 case atStart=>exact⟨0,zE _,rfl,λj d=>Oa⟩
 case round=>
  obtain⟨k,q,rfl,f⟩:=hrel;have g:=Ab f;clear f;by_cases l:k<n
  .obtain⟨b,r,m,_,hc⟩:=h.cells k l;subst m;cases hv:((AG ss k).toList==s.toList)
   .go_wp2
    go_round
    case rel=>
     refine⟨k+1,Oa,O1,λj d=>?_⟩;by_cases e:j=k
     .subst e;exact hv
     .exact Aa g j Oa
    case measure=>simp[intOf];omega
   .have o:=Ab<|AaP ss s k Q2 hv;go_wp2
    go_ret
    exact⟨Af (Aa o).symm,rfl⟩
  .go_wp2
   go_ret
   exact⟨Af (NQ ss s λj d=>Aa g j Q2).symm,rfl⟩
set_option maxHeartbeats 1600000
theorem LS (a:L3)(n c:Nat)(ss:L4)(j:L3)(n' c':Nat)(tt:L4)(q:Bool)(w:jB)(h:Aq w a n c ss)(t:Aq w j n' c' tt)(K:n<=1048576):
  Calls jZ 176 #[Y a n c,Y j n' c',.bool q] w λe w'=>∃x cx,e=jN (Y x (T<|DU ss tt q) cx)/\jO w' (R<|Z w) 9 1 (Y x (T<|DU ss tt q) cx) (T<|DU ss tt q) ((DU ss tt q).map Value.string)/\Ai w w':=by
 obtain⟨i,hi,y,z,A⟩:=info_parts GB;have l:=Ab h.len;go_enter func176,ntmps176
 go_wp2
 go_loopw [7,9,12] (λv _ i wr=>∃k:Nat,k<=n/\i=V X k/\jO wr (R<|Z w) 9 1 v (T<|DU (ss.take k) tt q) ((DU (ss.take k) tt q).map Value.string)/\Ai w wr) (λ_ _ i _=>n-(intOf i).toNat)
 case atStart=>exact⟨0,zE _,rfl,H3,BRN⟩
 case round=>
  obtain⟨k,m,rfl,d,f⟩:=hrel;by_cases B:k<n
  .obtain⟨b,L,C,M,hc⟩:=(h.below f NLN).cells k B;have o:=t.below f NLN;subst C;have p:k<T ss:=Q7;have N:T (DU (ss.take k) tt q)<=k:=zB (Jb _ _ _)<|List.length_take_le _ _;generalize D:DU (ss.take k) tt q=P at*;have r:=Ab D;cases hv:(Lg tt (AG ss k)==q)
   .have g:=Ab<|U8 ss tt q k p hv;go_wp2_with (go_at_call 160;refine(Od _ _ _ _ _ _ o).mono ?_;rintro e w' ⟨rfl,rfl⟩)
    go_roundw
    case rel=>exact⟨k+1,Oa,O1,by rw[Aa g,Aa r];exact d,f⟩
    case measure=>simp[intOf];omega
   .have g:=Ab<|QY ss tt q k p hv;have E:=f.size;go_wp2_with (first
     |(go_at_call 160;refine(Od _ _ _ _ _ _ o).mono ?_;rintro e w2 ⟨rfl,s⟩;rw[s];clear s)
     |(at_builtin;refine G7 _ rfl _ _ 30 rfl (R<|Z w) 9 i (jC jW) 1 16 underlying30 hi y z A rfl Ob _ _ _ rfl (d.alloc _) ⟨R<|Z wr,0,U⟩ 1 1 [jC<|AG ss k] rfl rfl ?c1 ?c2 ?c3 ?c4 ?c5 ?_))
    case c1=>exact K4 _ _ _
    case c2=>intro u hu;simp at hu;subst hu;rfl
    case c3=>unfold maxLen;omega
    case c4=>omega
    case c5=>simp;omega
    intro v' F G H _;have I:Ai w F:=(f.alloc E _).grown H O0 λk m=>(d.lt k m).1;go_wp2
    go_roundw
    case rel=>exact⟨k+1,Oa,O1,by rw[Aa g,Aa r,zk,zC];exact G,I⟩
    case measure=>simp[intOf];omega
  .have e:k=n:=Oa;subst e;go_wp2
   go_ret
   have e1:ss.take k=ss:=zf Q7;rw[e1]at d;obtain⟨x,cx,J⟩:=AA d;subst J;exact⟨x,cx,rfl,d,f⟩
set_option maxHeartbeats 800000
theorem XQ (a:L3)(n c:Nat)(ss:L4)(g:L3)(n' c':Nat)(tt:L4)(w:jB)(h:Aq w a n c ss)(d:Aq w g n' c' tt):
  Calls jZ 161 #[Y a n c,Y g n' c'] w λe w'=>e=jN (.bool<|Ey ss tt)/\Ai w w':=by
 cases f:Ay ss
 .go_enter func161,ntmps161
  go_wp2_with fail
  refine(AC _ _ _ _ _ h).mono ?_;rintro e b ⟨rfl,rfl⟩;go_wp2
  go_ret
  exact⟨Af<|by simp[Ey,f],BRN⟩
 .cases i:Ay tt
  .go_enter func161,ntmps161
   go_wp2_with fail
   refine(AC _ _ _ _ _ h).mono ?_;rintro e b ⟨rfl,rfl⟩;go_wp2_with fail
   refine(AC _ _ _ _ _ d).mono ?_;rintro e b ⟨rfl,rfl⟩;go_wp2
   go_ret
   exact⟨Af<|by simp[Ey,i],BRN⟩
  .have l:=(Dj f).1;go_enter func161,ntmps161
   go_wp2_with fail
   refine(AC _ _ _ _ _ h).mono ?_;rintro e b ⟨rfl,rfl⟩;go_wp2_with fail
   refine(AC _ _ _ _ _ d).mono ?_;rintro e b ⟨rfl,rfl⟩;go_wp2_with fail
   refine(LS _ _ _ _ _ _ _ _ _ _ h d Q2).mono ?_;rintro e b ⟨x,cx,rfl,j,k⟩;clear j;go_wp2
   go_ret
   refine⟨Af ?_,k⟩;simp only[Ey,f,i,zm];rw[zQ];simp
structure K5 where
 op:Int
 num:Int
 text:K9
 an:L3
 nn:Nat
 cn:Nat
 ka:L3
 kn:Nat
 kc:Nat
abbrev M6:=List K5
abbrev CX (k:K5):Obj:= jH #[V X k.op,V X k.num,jC k.text,Y k.an k.nn k.cn,Y k.ka k.kn k.kc] 121
abbrev Gg:Obj:= jH #[V X 0,V X 0,jC ⟨#[]⟩,Y U 0 0,Y U 0 0] 121
def K5.cs (k:K5):L7:= [V X k.op,V X k.num,jC k.text,Y k.an k.nn k.cn,Y k.ka k.kn k.kc]
def IP (lo hi:Nat) (w W:jB):Prop:=hi<=R (Z W)/\∀q,lo<=q->q<hi->(Z W)[q]? =(Z w)[q]?
theorem IP.trans {lo hi:Nat}{w a w2:jB}(h:IP lo hi w a)(k:IP lo hi a w2):IP lo hi w w2:=⟨k.1,λq b c=>(k.2 q b c).trans<|h.2 q b c⟩
theorem IP.aH {lo hi B:Nat}{a:jB}(h:Below B w a)(c:hi<=B)(b:hi<=R (Z w)):IP lo hi w a:=⟨zB b h.size,λq _ h3=>h.block q Oa⟩
theorem IP.sub {lo hi lo' hi':Nat}{a:jB}(h:IP lo hi w a)(c:lo<=lo')(b:hi'<=hi):IP lo' hi' w a:=⟨zB b h.1,λq h3 d=>h.2 q Oa Oa⟩
theorem AfE (a:M6)(j:Nat)(h:j<T a):∀r,r<5->(a.flatMap K5.cs)[j*5+r]? =(a[j].cs)[r]? :=by
 induction a generalizing j with
 |nil=>simp at h
 |cons k a b=>
   intro r c;have d:T k.cs=5:=rfl
   grind
def AO (w:jB) (ka:L3) (vs:M6):Prop:=∀j,(h:j<T vs)->∃b off,ka=Q (jA b off U)/\b<R (Z w)/\∀r,r<5->jI w ⟨b,off+j*5+r,U⟩=(vs[j].cs)[r]?
theorem AO.below {B:Nat}{a:M6}(h:AO w x a)(c:Below B w w')(l:R (Z w)<=B):AO w' x a:=λj f=>by
 obtain⟨b,d,g,i,h3⟩:=h j f;exact⟨b,d,g,zL i c.size,λr k=>(c.cell (p:=⟨b,d+j*5+r,U⟩) (Oa:b<B)).trans<|h3 r k⟩
end
end Go.Proofs.YtnjpihpohilnjaaGreatDoor

import Derived.Test.YtlcfoihgfcmfeaaGreatDoorOQT
import Derived.Test.YtlcfoihgfcmfeaaGreatDoorMXBG
import Derived.Test.YtlcfoihgfcmfeaaGreatDoorMXBE
import Derived.Test.YtlcfoihgfcmfeaaGreatDoorMXBA
open Option renaming none->V,some->Z
open List renaming length->Y,length->je
open Array renaming size->R
open Go renaming World->jD,Value->jF,Addr->jH
namespace Go.Proofs.YtlcfoihgfcmfeaaGreatDoor
open Proofs.Tryz
open Value renaming int->T,int->ja,slice->X,slice->jd,string->jA,agg->jL,ownBlock->jO
open IntKind renaming i64->U
open World renaming heap->Q,cell?->jE,alloc->jK,setCell->jM
open Addr renaming mk->jB
open Proofs.Tryz renaming prog->jZ
open Go.RowKit
set_option linter.unusedVariables false
set_option maxRecDepth 100000
set_option maxHeartbeats 12800000
variable{Es:M8}{ts:M4}{N:M7}{L:Nz}{S:M9}{lo hi:Nat}{G:Nat->Prop}{a:M3}{t:TypeId}
def Ajp(N:M7)(L:Nz)(T:M4)(o:M7×Nz×M4):Prop:=(KW N L T false/\o=([],[],[]))\/(KW N L T true/\∃Es:M8,Y Es=Y N/\(∀j,(h:j<Y Es)->Be N j Es[j])/\o=(AV 0<|BU<|GQ Es 0 L,CC 0<|BU<|GQ Es 0 L,Jz []<|BU<|GQ Es 0 L))
theorem Alz(Es:M8):∀(L:Nz)(i j:Nat)(h:j<Y L),(GQ Es i L)[j]?=Z ⟨((i+j:Nat):Int),L[j].aF,L[j].name,BS Es L[j].cond,BS Es L[j].aD⟩:=by intro L;induction L<;>intros<;>grind[GQ]
structure WtX(N:M7)(L:Nz)(X:M9):Prop where
 ty:JD [] X
 gd:UF X
 en:Ku X
 nm:nmX X
 lt:WA AE X
 aL:CB X<=4000
 len:Y X=Y L
 sm:Y L<=600
theorem AgD{T:M4}(o:KW N L T true)(A:∀x∈N,Cf x.num/\Y x.aE<=1048576)(h1:Y Es=Y N)(h2:∀j,(h:j<Y Es)->Be N j Es[j]):Bt N L=true/\WtX N L (GQ Es 0 L):=by
 obtain⟨_,h⟩|⟨c,B,r,t,h⟩:=o
 .cases h
 have a:=BR c;rw[KH (no5 c) r h1 t h2]at h;cases hc:AC Es (AE,[],[]) L with|none=>rw[hc]at h;cases h|some st=>
   have f:=c;simp only[Bt,zF,zO]at f;obtain⟨⟨⟨_,_,g⟩,_⟩,b⟩:=f;obtain⟨c1,c2,c3⟩:=AcQ Es L 0 AE [] [] st hc g (λs hs=>by have q:=a.stm s hs;have C:=a.cQ s hs;exact⟨λh3=>Oa,Oa⟩);obtain⟨S,i,ht⟩:∃S,CD (N.map Nd.aC) (Y N) [] 0=Z S/\Al S=L.flatMap Aj:=by rw[Dy]at b;cases hq:CD (N.map Nd.aC) (Y N) [] 0 with|none=>rw[hq]at b;cases b|some S=>rw[hq]at b;exact⟨S,rfl,M0 b⟩
   obtain⟨u,hd⟩:=De (Y N) (.nil 0) (λp d=>(by cases d)) i;have GM:∀s∈L,∀k∈Aj s,∀e,BS Es k=Z e->FH e/\Ln e/\Eu e<=64:=λs hs k v e he=>by
    have hm:k∈Al S:=by rw[ht];exact List.mem_flatMap.2 ⟨s,hs,v⟩
    rw[Al]at hm;obtain⟨p,d,e1⟩:=zU.1 hm;have e2:k=(p.1:Int):=e1.symm;subst e2;rw[BS,K0 Oa,zP]at he;obtain⟨w,he⟩:=zL.1 he;have l:=h2 p.1 w;rw[he]at l;have:=Aed u p d e l;grind[Gh.bX,Be.gd,Be.ok]
   refine⟨c,c1,λx hx=>?_,AcP Es L 0 g a.m0,c2,c3,?_,MA Es L 0,a.m⟩
   .obtain⟨s,hs,y,z,D,E⟩:=Ab7 hx;have hq:=a.stm s hs;have i:=a.cQ s hs;refine⟨λe he=>?_,λe he=>?_⟩
    .rw[y]at he;by_cases h3:s.aF=3
     .have:s.cond=-1:=Oa;grind[BS]
     exact GM s hs s.cond (by rw[Aj,K1 h3];exact z3 _ zR) e he
    rw[z]at he;by_cases h3:s.aD=-1
    .grind[BS]
    exact GM s hs s.aD (by rw[Aj,K1 h3];exact yC _ zR) e he
   grind[Kk,Gh.n,PJ]
theorem AaS{x:Nd}(h:AR x=true):okN x/\x.text.size<=1048576:=by
 rw[AR,zF,zO]at h;obtain⟨b,hq⟩:=h;have a:Y x.aC<=1048576:=by
  have:Ci x.op<=3:=by unfold Ci;repeat' split;all_goals omega
  omega
 have nn:Y x.aE=0->okN x:=λh0=>⟨Oa,a,λs hs=>by rw[z4 h0]at hs;cases hs⟩;unfold Px wfB at hq;repeat' split at hq
 all_goals first|(cases hq;done)|(simp only[zF,zO]at hq;exact⟨nn Oa,Oa⟩)|(simp only[zF,zO]at hq;have q:=hq.1.1;rw[BM,zF,zO]at q;exact⟨nn Oa,Oa⟩)|(simp only[zF,zO]at hq;obtain⟨s1,s2⟩:=GV hq.1.1;exact⟨⟨Oa,a,λs hs=>by have:=s2 s hs;unfold maxLen;omega⟩,Oa⟩)
theorem Ad9:∀(X:M9)(b:Nat),∀s∈CC b X,∃x∈X,s.aF=x.aF/\s.name=x.name:=by intro X;induction X<;>intros<;>grind[CC]
theorem KS(o:N5):AQ (o.map Ex.st)=AQ o:=by cases o with|none=>rfl|some e=>exact Kr e
theorem AlF(o:N5)(b:Nat):PL (o.map Ex.st) b=PL o b:=by cases o with|none=>rfl|some e=>exact Rz e b
theorem AlG(o:N5)(b:Nat):Jx (o.map Ex.st) b=Jx o b:=by cases o with|none=>rfl|some e=>simp only[Option.map,Jx,Kr]
theorem PU:∀(X:M9)(b:Nat),AV b (X.map Cu)=AV b X:=by intro X;induction X<;>intros<;>grind[AV,KS,AlF,Cu]
theorem PV:∀(X:M9)(b:Nat),CC b (X.map Cu)=CC b X:=by intro X;induction X<;>intros<;>grind[KS,CC,AlG,Cu]
theorem AlH(ts:M4)(o:N5):Ni ts (o.map Ex.st)=Ni ts o:=by cases o with|none=>rfl|some e=>exact fC ts e
theorem AlI(ts:M4)(o:N5):(o.map Ex.st).bind (An ts)=o.bind (An ts):=by cases o with|none=>rfl|some e=>exact Kq ts e
theorem We:∀(X:M9)(ts:M4),Jz ts (X.map Cu)=Jz ts X:=by intro X;induction X<;>intros<;>grind[AlI,AlH,Jz,Cu]
theorem AgG{X Y:M9}(h:X.map Cu=Y.map Cu):AV 0 (BU X)=AV 0 (BU Y)/\CC 0 (BU X)=CC 0 (BU Y)/\Jz [] (BU X)=Jz [] (BU Y):=by
 have e:(BU X).map Cu=(BU Y).map Cu:=by rw[<-AcZ X,h,AcZ Y]
 exact⟨by rw[<-PU,e,PU],by rw[<-PV,e,PV],by rw[<-We,e,We]⟩
theorem AaR{N:M7}{Es:M8}(d:Y Es=Y N)(g:∀j,(h:j<Y Es)->Be N j Es[j]):∀(a:M9)(b i:Nat),EQ N b (AV b a)->UF a->(GQ Es i<|CC b a).map Cu=a.map Cu
 |[],_,_,_,_=>rfl|x::a,b,i,hR,hG=>by
  rw[AV]at hR;have r3:=hR.right (k:=AQ x.cond+AQ x.aD) (by rw[zC,Fg,Fg]);rw[<-Nat.add_assoc]at r3;have hx:=hG x zR;have l:∀(o:N5) (c:Nat),EQ N c (PL o c)->gdO o->(BS Es<|Jx o c).map Ex.st=o.map Ex.st:=λo c p hg=>by cases o with|none=>rfl|some e=>
    obtain⟨f,m,q⟩:=Kh e c p (hg e rfl).1;have r:=m.lt;have n:c+e.aL-1<Y Es:=by rw[d];exact r
    have e1:Jx (Z e) c=((c+e.aL-1:Nat):Int):=rfl;rw[BS,e1,K0 Oa,zP,zE n];exact congrArg Z<|((g _ n).st_one m).trans q
  rw[CC,GQ,List.map_cons,List.map_cons,AaR d g a _ (i+1) r3 λz hz=>hG z<|zV _ hz];simp only[Cu,l x.cond _ hR.left.left hx.1,l x.aD _ (hR.left.right<|Fg x.cond b) hx.2]
theorem AgC{X Y:M9}(h:X.map Cu=Y.map Cu):X.map (λx=>(x.aF,x.cond.map Ex.st,x.aD.map Ex.st))=Y.map (λx=>(x.aF,x.cond.map Ex.st,x.aD.map Ex.st)):=by have:=congrArg (List.map λx:Sx=>(x.aF,x.cond,x.aD)) h;rw[z6,z6]at this;exact this
theorem UG:Cf 0:=⟨Ob,Ob⟩
theorem AmK:Cf 1:=⟨Ob,Ob⟩
theorem LP{ts:M4}(hs:Y ts<=100000):∀(e:Ex)(b:Nat)(t:Int),An ts e=Z t->FH e->Ln e->∀x∈GY e b,Cf x.num
 |.un i op k,b,t,h,g,o,x,hx=>by rw[An]at h;rw[GY,zJ,zK]at hx;cases j:An ts k with|none=>rw[j]at h;cases h|some a=>
   obtain hx|rfl:=hx
   .exact LP hs k b a j g.2 o x hx
   exact UG
 |.bin i op l r,b,t,h,g,o,x,hx=>by rw[An]at h;simp only[GY,zJ,zK]at hx;cases d:An ts l with|none=>rw[d]at h;cases h|some a=>cases p:An ts r with|none=>rw[d,p]at h;cases h|some f=>
    obtain(hx|hx)|rfl:=hx
    .exact LP hs l _ a d g.2.1 o.1 x hx
    .exact LP hs r _ f p g.2.2 o.2 x hx
    exact UG
 |.ite i c u e,b,t,h,g,o,x,hx=>by rw[An]at h;simp only[GY,zJ,zK]at hx;cases hc:An ts c with|none=>rw[hc]at h;cases h|some a=>cases hu:An ts u with|none=>rw[hc,hu]at h;cases h|some f=>cases he:An ts e with|none=>rw[hc,hu,he]at h;cases h|some q=>
     obtain((hx|hx)|hx)|rfl:=hx
     .exact LP hs c _ a hc g.1 o.1 x hx
     .exact LP hs u _ f hu g.2.1 o.2.1 x hx
     .exact LP hs e _ q he g.2.2 o.2.2 x hx
     exact UG
 |.int i n,b,t,h,g,o,x,hx=>by rw[GY,zK]at hx;subst hx;exact o;all_goals (intros;simp_all)|.text i n,b,t,h,g,o,x,hx=>by rw[GY,zK]at hx;subst hx;exact UG;all_goals (intros;simp_all)|.bool i n,b,t,h,g,o,x,hx=>by rw[GY,zK]at hx;subst hx;cases n;exact UG;exact AmK;all_goals (intros;simp_all)|.set i _ _ _ n,b,t,h,g,o,x,hx=>by rw[GY,zK]at hx;subst hx;exact UG;all_goals (intros;simp_all)|.name i n,b,t,h,g,o,x,hx=>g.elim|.attr i n,b,t,h,g,o,x,hx=>by rw[GY,zK]at hx;subst hx;exact⟨by have:=g.1;show _<=n;omega,by have:=g.2;show n<=_;omega⟩;all_goals (intros;simp_all)|.lett i n,b,t,h,g,o,x,hx=>by
  rw[GY,zK]at hx
  .subst hx;obtain⟨h1,h2⟩:=Ki (m:=n) _ t h (by simp[usE]);exact⟨(Oa:_<=n),(Oa:n<=_)⟩
  all_goals (intros;simp_all)
theorem PP:∀(d:M9)(b:Nat)(ts:M4),JD ts d->UF d->Y ts+Y d<=100000->∀x∈AV b d,Cf x.num
 |[],_,_,_,_,_,x,hx=>Q4|y::d,b,ts,h,g,hs,x,hx=>by
  obtain⟨g1,g2⟩:=g y zR;have gX:UF d:=λz hz=>g z<|zV _ hz;simp only[List.length_cons]at hs;rw[AV,zJ,zJ]at hx;have hc:∀{o:N5}{c:Nat},gdO o->(∀e,o=Z e->∃t,An ts e=Z t)->x∈PL o c->Cf x.num:=λ{o c}g h hx=>by cases o with|none=>cases hx|some e=>obtain⟨t,ht⟩:=h e rfl;obtain⟨a,b,_⟩:=g e rfl;exact LP Oa e c t ht a b x hx
  have hg:Wy ts y.aD->∀e,y.aD=Z e->∃t,An ts e=Z t:=λq e he=>by rw[he]at q;exact⟨4,q⟩
  obtain⟨k,e,t,h1,h2,h3,h4⟩|⟨k,⟨e,h1,h2⟩,h3,h4⟩|⟨k,h1,h3,h4⟩:=h
  .obtain(hx|hx)|hx:=hx
   .exact hc g1 (λf he=>by rw[h1]at he;cases he;exact⟨t,h2⟩) hx
   .rw[h3]at hx;cases hx
   exact PP d _ _ h4 gX Od x hx
  .obtain(hx|hx)|hx:=hx
   .exact hc g1 (λf he=>by rw[h1]at he;cases he;exact⟨1,h2⟩) hx
   .exact hc g2 (hg h3) hx
   exact PP d _ _ h4 gX Oa x hx
  obtain(hx|hx)|hx:=hx
  .rw[h1]at hx;cases hx
  .exact hc g2 (hg h3) hx
  exact PP d _ _ h4 gX Oa x hx
structure OpG(N:M7)(L:Nz)(T:M4)(o:M7×Nz×M4):Prop where
 wt:∀v,KW o.1 o.2.1 o.2.2 v->v=true
 n:Y o.1<=Y N
 m:Y o.2.1<=Y L
 num:∀x∈o.1,(Cf x.num/\Y x.aE<=1048576)/\okN x/\x.text.size<=1048576
 st:∀s∈o.2.1,s.name.size<=1048576
 sm:Y o.1<=4000/\Y o.2.1<=600/\Y o.2.2<=4000
 dc:∀R p q,Cf R.lv->Cf R.nw->Pw N L T R p->Pw o.1 o.2.1 o.2.2 R q->p=q
 op:∀o',Ajp o.1 o.2.1 o.2.2 o'->o'=o
theorem Ajq{T:M4}(F:∀x∈N,Cf x.num/\je x.aE<=1048576)(m:KW N L T true){o:M7×Nz×M4}(h:Ajp N L T o):OpG N L T o:=by
 obtain⟨h,_⟩|⟨_,Es,h1,h2,rfl⟩:=h
 .cases h.cK m
 obtain⟨w,d⟩:=AgD m F h1 h2;obtain⟨G,o2,H⟩:=VT d.en d.nm;have g:=AcA d.gd;have r:=VU d.ty;have I:CB (BU<|GQ Es 0 L)<=4000:=zB (Ru _) d.aL;have J:je (BU<|GQ Es 0 L)<=600:=zB (Rv _) (by rw[d.len];exact d.sm);have t:=AgE r g G o2 I J;have z:=BR t;have O:=BR w;have P:=d.lt.sub H;have S:CB (GQ Es 0 L)=je N:=by rw[PJ,Kk w h1 h2]
 have u:∀{Y:M9},EQ (AV 0 Y) 0<|AV 0 Y:=λ{Y}j y hy=>by rw[zT];exact hy
 have wt:∀v,KW (AV 0<|BU<|GQ Es 0 L) (CC 0<|BU<|GQ Es 0 L) (Jz []<|BU<|GQ Es 0 L) v->v=true:=λv m=>by
  obtain⟨h,_⟩|⟨_,i,k,n,rfl⟩:=m
  .rw[t]at h;cases h
  obtain⟨af,ag,W⟩:=VV (no5 t) k n (BU<|GQ Es 0 L) 0 AE [] [] u r P g;rw[W];simp
 have A:∀{M:M7}{K:Nz}(B:Gh M K){i:M8},je i=je M->∀s∈K,(s.cond=-1\/s.cond.toNat<je i)/\(s.aD=-1\/s.aD.toNat<je i):=λB _ k s hs=>by have:=B.cQ s hs;omega
 refine⟨wt,?_,?_,λx hx=>?_,λs hs=>?_,⟨?_,?_,?_⟩,λR p q aa ab ac hq=>?_,λo' ad=>?_⟩
 .show je (AV 0 _)<=_;rw[Gv,<-S];exact Ru _
 .show je (CC 0 _)<=_;rw[Ke,<-d.len];exact Rv _
 .have hf:=LQ _ 0 g x hx;have:=AaS hf;exact⟨⟨PP _ 0 [] r g Od x hx,this.1.1⟩,this⟩
 .obtain⟨x,hx,e1,e2⟩:=Ad9 _ 0 s hs;obtain⟨_,q,_⟩|⟨q,_⟩|⟨q,_⟩:=z.stm s hs
  .omega
  .rw[e2,(o2 x hx).2 Oa];exact zH _
  rw[e2,(o2 x hx).2 Oa];exact zH _
 .show je (AV 0 _)<=_;rw[Gv];omega
 .show je (CC 0 _)<=_;rw[Ke];omega
 .show je (Jz [] _)<=_;rw[AcB];omega
 .obtain⟨v,C,f,rfl⟩|⟨C,f,i,k,n,rfl⟩:=ac
  .rw[C.cK m,zx]at f;obtain⟨_,_,_,rfl⟩|⟨_,l,_⟩:=hq
   .rfl
   rw[f]at l;cases l
  obtain⟨v,D,l,rfl⟩|⟨D,l,ah,g1,g2,rfl⟩:=hq
  .rw[wt v D,zx,f]at l;cases l
  have ae:RqG R:=by
   simp only[JN,zF]at f;have E:∀{s:M1},vnB s=true->BM s=true:=λh=>by rw[Rw,h,Bool.or_true]
   exact⟨f.1.2,f.2,E f.1.1.1,E f.1.1.2,aa,ab⟩
  rw[Xf k h1 n h2,AaT L 0 []<|A O h1,AaT _ 0 []<|A z g1,UH _ _ _<|AgC<|AaR g1 g2 _ 0 0 u g,AgF ae d.ty d.gd]
 obtain⟨h,_⟩|⟨_,i,k,n,rfl⟩:=ad
 .have:=wt _ h;cases this
 obtain⟨a,b,c⟩:=AgG<|AaR k n (BU<|GQ Es 0 L) 0 0 u g;rw[Ajr d.ty]at a b c;rw[a,b,c]
def TA(S:M9):M8:=S.flatMap λx=>[x.cond.getD<|.bool 0 false,x.aD.getD<|.bool 0 false]
def TB(b:Nat)(x:Sx):St:=⟨x.aF,x.name,if x.cond.isSome then ((b:Nat):Int)else-1,if x.aD.isSome then ((b+1:Nat):Int)else-1⟩
def ixS:Nat->M9->Nz|_,[]=>[]|b,x::S=>TB b x::ixS (b+2) S
theorem Nw:∀(S:M9)(b:Nat),Y (ixS b S)=Y S|[],_=>rfl|x::S,b=>by rw[ixS,List.length_cons,List.length_cons,Nw S]
theorem Abm:∀(S:M9)(b k:Nat)(h:k<Y S)(a:k<Y (ixS b S)),(ixS b S)[k]=TB (b+2*k) S[k]|x::S,b,0,h,a=>by simp only[ixS,yE,Nat.mul_zero,ze]|x::S,b,k+1,h,a=>by have e:=Abm S (b+2) k P4 (by rw[Nw];simpa using h);simp only[ixS,yH];rw[e];congr 1;omega|[],_,_,h,_=>K4 h Oz
theorem Abn:∀(S:M9)(k:Nat)(h:k<Y S),(TA S)[2*k]?=Z (S[k].cond.getD<|.bool 0 false)/\(TA S)[2*k+1]?=Z (S[k].aD.getD<|.bool 0 false)|x::S,0,h=>⟨rfl,rfl⟩|x::S,k+1,h=>by have e:=Abn S k P4;simp only[yH];rw[<-e.1,<-e.2];exact⟨rfl,rfl⟩|[],_,h=>K4 h Oz
theorem Ac3{Es:M8}:∀(S:M9)(b:Nat)(ns:M6)(ts tt:M4),(∀j e,(TA S)[j]?=Z e->Es[b+j]?=Z e)->JD ts S->WA ns S->∃c d,AC Es (ns,ts,tt) (ixS b S)=Z (c,d,tt++Jz ts S)
 |[],b,ns,ts,tt,_,_,_=>⟨ns,ts,by rw[ixS,AC,Jz,List.append_nil]⟩|x::S,b,ns,ts,tt,hE,h,hL=>by
  have hc:∀e,x.cond=Z e->Es[b]?=Z e:=λe he=>hE 0 e (by rw[TA,zu];simp[he]);have hg:∀e,x.aD=Z e->Es[b+1]?=Z e:=λe he=>hE 1 e (by rw[TA,zu];simp[he]);have hS:∀j e,(TA S)[j]?=Z e->Es[b+2+j]?=Z e:=λj e he=>by rw[Nat.add_assoc,Nat.add_comm 2 j];exact hE (j+2) e (by rw[TA,zu];simpa[TA]using he)
  have g:∀(ns:M6) (ts tt:M4),Wy ts x.aD->AU Es (ns,ts,tt) (TB b x)=Z (ns,ts,tt++Ni ts x.aD):=λns ts tt l=>by unfold AU TB;cases hx:x.aD with|none=>rw[K1 Oz];simp[Ni]|some e=>rw[hx]at l;simp only[Option.isSome_some,if_true];rw[K0 Oa,zP,hg e hx];dsimp only;unfold ckG;rw[show An ts e=Z 4 from l];rfl
  have m:∀(e:Ex),x.cond=Z e->AK Es (ns,ts,tt) (TB b x)=SO x.aF x.name (ns,ts,tt) (An ts e) (Cv ts e):=λe he=>by unfold AK TB;rw[he];simp only[Option.isSome_some,if_true];rw[K0 Oa,zP,hc e he]
  rw[ixS,AC,Dq];obtain⟨k,e,t,h1,h2,h3,h4⟩|⟨k,⟨e,h1,h2⟩,h3,h4⟩|⟨k,h1,h3,h4⟩:=h
  .rw[WA,Jf k]at hL;have n:x.name ∉ ns:=hL.2 _ zR;have f:AK Es (ns,ts,tt) (TB b x)=Z (ns++[x.name],ts++[t],tt++Ni ts x.cond):=by rw[m e h1,k,h2,Ac4 n,h1];rfl
   rw[f,zn,g _ _ _<|by rw[h3];trivial,zn];obtain⟨c,d,hq⟩:=Ac3 S (b+2) (ns++[x.name]) (ts++[t]) ((tt++Ni ts x.cond)++Ni (ts++[t]) x.aD) hS h4 ⟨(List.nodup_cons.1 hL.1).2,λa i hm=>by
    obtain q|q:=zJ.1 hm
    .exact hL.2 a (zV _ i) q
    rw[zK.1 q]at i;exact(List.nodup_cons.1 hL.1).1 i⟩;refine⟨c,d,?_⟩;rw[hq,Jz,K1 k,h1,zn,h2,Option.getD_some,<-h1];simp only[zd]
  .rw[WA,Gx Oa]at hL;have f:AK Es (ns,ts,tt) (TB b x)=Z (ns,ts,tt++Ni ts x.cond):=by rw[m e h1,h2,YQ Oa,h1];rfl
   rw[f,zn,g _ _ _ h3,zn];obtain⟨c,d,hq⟩:=Ac3 S (b+2) ns ts ((tt++Ni ts x.cond)++Ni ts x.aD) hS h4 hL;refine⟨c,d,?_⟩;rw[hq,Jz,K0 Oa];simp only[zd]
  rw[WA,Gx Oa]at hL;have f:AK Es (ns,ts,tt) (TB b x)=Z (ns,ts,tt++Ni ts x.cond):=by unfold AK TB;rw[h1,K1 Oz];simp[Ni]
  rw[f,zn,g _ _ _ h3,zn];obtain⟨c,d,hq⟩:=Ac3 S (b+2) ns ts ((tt++Ni ts x.cond)++Ni ts x.aD) hS h4 hL;refine⟨c,d,?_⟩;rw[hq,Jz,K0 Oa];simp only[zd]
theorem AhI{Es:M8}:∀(S:M9)(b:Nat),(∀j e,(TA S)[j]?=Z e->Es[b+j]?=Z e)->Dv Es (ixS b S)=CB S
 |[],b,_=>rfl|x::S,b,hE=>by
  have hc:∀e,x.cond=Z e->Es[b]?=Z e:=λe he=>hE 0 e (by rw[TA,zu];simp[he]);have hg:∀e,x.aD=Z e->Es[b+1]?=Z e:=λe he=>hE 1 e (by rw[TA,zu];simp[he]);have hS:∀j e,(TA S)[j]?=Z e->Es[b+2+j]?=Z e:=λj e he=>by rw[Nat.add_assoc,Nat.add_comm 2 j];exact hE (j+2) e (by rw[TA,zu];simpa[TA]using he)
  have a:=AhI S (b+2) hS;rw[Bm,<-a,ixS,Dv,List.map_cons,List.sum_cons,<-Dv];congr 1;have e1:BK Es (TB b x).cond=AQ x.cond:=by unfold BK TB;cases hx:x.cond with|none=>simp[AQ]|some e=>simp only[Option.isSome_some,if_true];rw[K0 Oa,zP,hc e hx];rfl
  have e2:BK Es (TB b x).aD=AQ x.aD:=by unfold BK TB;cases hx:x.aD with|none=>simp[AQ]|some e=>simp only[Option.isSome_some,if_true];rw[K0 Oa,zP,hg e hx];rfl
  rw[e1,e2]
theorem AhJ:∀(S:M9)(f:Sx->Nat)(k:Nat)(h:k<Y S),f S[k]<=(S.map f).sum|x::S,f,0,h=>Oz|x::S,f,k+1,h=>by have:=AhJ S f k P4;simp only[yH,List.map_cons,List.sum_cons];omega|[],_,_,h=>K4 h Oz
theorem AmU(hg:∀x∈S,(∀e,x.cond=Z e->e.bA)/\(∀e,x.aD=Z e->e.bA))(hc:CB S<=4000):∀s∈ixS 0 S,okP (TA S) s.cond/\okP (TA S) s.aD:=λs hs=>by
 obtain⟨k,c,rfl⟩:=zk hs;have a:k<Y S:=by rw[Nw]at c;exact c
 have hx:=hg _<|zI a;have b:AQ S[k].cond+AQ S[k].aD<=4000:=zB (by rw[CB];exact AhJ S (λx=>AQ x.cond+AQ x.aD) k a) hc;obtain⟨e1,e2⟩:=Abn S k a;rw[Abm S 0 k a c,zT];constructor
 .cases hq:S[k].cond with|none=>exact .inl (by simp[TB,hq])|some e=>exact .inr ⟨2*k,e,by simp[TB,hq],by rw[e1,hq];rfl,hx.1 e hq,by rw[hq]at b;simp only[AQ]at b;omega⟩
 cases hq:S[k].aD with|none=>exact .inl (by simp[TB,hq])|some e=>exact .inr ⟨2*k+1,e,by simp[TB,hq],by rw[e2,hq];rfl,hx.2 e hq,by rw[hq]at b;simp only[AQ]at b;omega⟩
set_option maxRecDepth 100000
set_option maxHeartbeats 6400000
theorem Jn{G:Nat->Prop}{w:jD}:∀(e:Ex),e.mem G w->e.dO w|.int ..,_=>trivial|.text ..,_=>trivial|.bool ..,_=>trivial|.set ..,h=>⟨h.1,h.2.1⟩|.name ..,_=>trivial|.attr ..,_=>trivial|.lett ..,_=>trivial|.un _ _ k,h=>Jn k h|.bin _ _ l r,h=>⟨Jn l h.1,Jn r h.2⟩|.ite _ c t e,h=>⟨Jn c h.1,Jn t h.2.1,Jn e h.2.2⟩
theorem Ac5{w:jD}{o:N5}(h:ExO G w o):Xy w o:=by cases o with|none=>trivial|some e=>exact Jn e<|h e rfl
theorem Ake(S:M9)(k:Nat)(a:k<Y S):CL (TA S) (TB (2*k) S[k]).cond=AO S[k].cond/\CL (TA S) (TB (2*k) S[k]).aD=AO S[k].aD:=by
 obtain⟨e1,e2⟩:=Abn S k a;unfold CL TB;constructor
 .cases hq:S[k].cond with|none=>simp[AO]|some e=>simp only[Option.isSome_some,if_true];rw[K0 Oa,zP,e1,hq];rfl
 cases hq:S[k].aD with|none=>simp[AO]|some e=>simp only[Option.isSome_some,if_true];rw[K0 Oa,zP,e2,hq];rfl
def RtT(S:M9)(lo:Nat)(r:Ending)(w':jD):Prop:=∃x n cx y m cy z p cz nv kv hi,r=.returned (jL #[X x n cx,X y m cy,X z p cz])/\Ry w' lo hi x n cx y m cy z p cz (AV 0 S) nv kv (CC 0 S) (Jz [] S)
theorem YR(S:M9)(m g c:Nat)(aT ae af:jH)(w:jD)(hm:Y S=m)(a9:m<=600)(h:ZB w g S)(hat:∀x∈S,∃a:Nat,x.bZ=a)(hx:ST TT w S)(ag:OQ w aT)(ah:SP w ae af)(ht:JD [] S)(hf:WA AE S)(hg:∀x∈S,(∀e,x.cond=Z e->e.bA)/\(∀e,x.aD=Z e->e.bA))(hc:CB S<=4000):Calls jZ 17 #[X (Z<|jB g 0 V) m c] w λo w'=>RtT S (R<|Q w) o w'/\Ak w w':=by
 have ai:=Ab hm;have aL:=Ab hat;have aM:=Ab hx;have aj:=Ab hc;have aN:=Ab<|AmU hg hc;obtain⟨ba,aO,ak⟩:=Ac3 (Es:=TA S) S 0 AE [] [] (λj e he=>by rw[zT];exact he) ht hf;have al:=Ab ak;have aQ:=Ab (AhI (Es:=TA S) S 0 λj e he=>by rw[zT];exact he);have ao:=Ah.new w #[X V 0 0,X V 0 0,X V 0 0] 27;have r:=Ar w<|Lu V 0 0 V 0 0 V 0 0;have L:=ag.below r NLN;have ap:=ah.below r NLN;have aq:=h.below r;have bb:=h.lt;clear hm hat hx hc hg h ht hf ak ag ah;have aR:∃s,s=jK w (Lu V 0 0 V 0 0 V 0 0):=⟨_,rfl⟩;go_enter func17,ntmps17;go_wp2_with fail;obtain⟨s,M⟩:=aR;have bc:R (Q s)=R (Q w)+1:=by rw[M];simp
 rw[<-M]at ao r L ap aq|-;clear M;refine(JY aT _ L).mono ?_;rintro o ar ⟨B,N,rfl,aS,O,au,D⟩;dsimp only;have aU:Cm (R<|Q s) B N AE [] [] (X V 0 0) (X V 0 0) ar:=⟨O,au,aS⟩;have aV:=ao.aB D NLN;have aW:=aq.below D;obtain⟨av,aw,ax⟩:=aW.ex;have g1:g≠B:=G7 O.aP;have g2:g≠N:=Oa;have ay:=Ab ax;have az:=Ab (J2 (R<|Q s) B N (AE,[],[]) (X V 0 0) (X V 0 0) s aT ae af L ap NLN (TA S) (ixS 0 S) m g c av ar (by rw[Nw];exact Aa ai) (λt ht=>by cases ht) Od (Aa aN) (by rw[Aa aQ];have:=Aa aj;simp;omega) D aU aw (λk=>(if h:k<Y S then S[k].bZ else 0).toNat) (λk P o aX u hu=>by
   have y:k<Y S:=by rw[Nw]at P;exact P
   have aY:(((if h:k<Y S then S[k].bZ else 0).toNat:Nat):Int)=S[k].bZ:=by rw[dif_pos y];obtain⟨a,aZ⟩:=Aa aL _<|zI y;rw[aZ];rfl
   refine Aa ay _ _ ?_;rw[PZ S k y o aX,<-hu];rw[Abm S 0 k y P,zT];obtain⟨a0,o2⟩:=Ake S k y;unfold Mt GG;rw[a0,o2,aY];rfl) g1 g2 (by simp[jO]) (by simp[jO]));clear O au ax;go_wp2_with fail;refine(Aa az).mono ?_;rintro o w2 (⟨ns,ts,tt,lv,bd,l,rfl,W,aa⟩|⟨l,_,_⟩)
 .have aA:tt=Jz [] S:=by rw[Aa al]at l;simp only[Option.some.injEq,Prod.mk.injEq,List.nil_append]at l;exact l.2.2.symm
  have a1:=Ab aA;clear l az aA;obtain⟨b,d,rfl,_⟩:=Af W.C.types;obtain⟨a2,bf,bg⟩:=aa.row aw g1 g2 (by simp[jO]) (by simp[jO]);have a3:=aV.below aa.aP Oa;have aC:=D.trans aa.aP;have z:=r.trans<|aC.mono r.size;have bh:jE w2 (jB B 2 V)=Z (X b (Y tt) d):=W.C.row.cell 2;have aE:=Ab (Xz S g m c av b (Y tt) d w2 (Aa ai) a2 (Aa ay) (λx hx=>by have:=Aa aM x hx;exact⟨IV z NLN _<|Ac5 this.1,IV z NLN _<|Ac5 this.2⟩) (G7<|Aa aj) Oa);dsimp only;go_wp2_with fail;refine(Aa aE).mono ?_;rintro o n ⟨⟨nd,pl,a4,a5,bi,rfl,E,F,_⟩,ab⟩;clear aE;obtain⟨f,cn,rfl,_⟩:=Af E.bG;obtain⟨i,cs,rfl,_⟩:=Af F;have aF:=a3.aB ab NLN;have a6:=z.trans<|ab.mono z.size;have ac:=W.C.types;have ad:=Ai ac ab NLN;have z2:=z.size;have bj:=aC.size;obtain rfl:=Aa a1;have G:∀q,R (Q w)+1<=q->∀(aG aH aI:jF),(Q<|jM (jM (jM n ⟨R<|Q w,0,V⟩ aG) ⟨R<|Q w,1,V⟩ aH) ⟨R<|Q w,2,V⟩ aI)[q]?=(Q n)[q]?:=λq h1 aG aH aI=>by have hq:q≠R (Q w):=Oa;rw[L2 _ _ q _ hq,L2 _ _ q _ hq,L2 _ _ q _ hq]
  have H:=((aF.set 0<|X f (Y<|AV 0 S) cn).set 1<|X i (Y S) cs).set 2<|X b (Y<|Jz [] S) d;have I:=((a6.setCell (p:=⟨R<|Q w,0,V⟩) NLN<|X f (Y<|AV 0 S) cn).setCell (p:=⟨R<|Q w,1,V⟩) NLN<|X i (Y S) cs).setCell (p:=⟨R<|Q w,2,V⟩) NLN<|X b (Y<|Jz [] S) d;have J:=Ab (show Ry (jM (jM (jM n ⟨R<|Q w,0,V⟩<|X f (Y<|AV 0 S) cn) ⟨R<|Q w,1,V⟩<|X i (Y S) cs) ⟨R<|Q w,2,V⟩<|X b (Y<|Jz [] S) d) (R<|Q w) (R<|Q<|jM (jM (jM n ⟨R<|Q w,0,V⟩<|X f (Y<|AV 0 S) cn) ⟨R<|Q w,1,V⟩<|X i (Y S) cs) ⟨R<|Q w,2,V⟩<|X b (Y<|Jz [] S) d) f (Y<|AV 0 S) cn i (Y S) cs b (Y<|Jz [] S) d (AV 0 S) a4 a5 (CC 0 S) (Jz [] S)from by have K:=E.bJ (w':=jM (jM (jM n ⟨R<|Q w,0,V⟩<|X f (Y<|AV 0 S) cn) ⟨R<|Q w,1,V⟩<|X i (Y S) cs) ⟨R<|Q w,2,V⟩<|X b (Y<|Jz [] S) d) λq h1 h2=>G q Oa _ _ _;have aJ:=Ac (w':=jM (jM (jM n ⟨R<|Q w,0,V⟩<|X f (Y<|AV 0 S) cn) ⟨R<|Q w,1,V⟩<|X i (Y S) cs) ⟨R<|Q w,2,V⟩<|X b (Y<|Jz [] S) d) F λq hq=>G q (G7<|(F.lt q hq).1) _ _ _;have aK:=Ac (w':=jM (jM (jM n ⟨R<|Q w,0,V⟩<|X f (Y<|AV 0 S) cn) ⟨R<|Q w,1,V⟩<|X i (Y S) cs) ⟨R<|Q w,2,V⟩<|X b (Y<|Jz [] S) d) ad λq hq=>G q (G7<|(ad.lt q hq).1) _ _ _;exact⟨K.aP Oa,AF aJ Oa,AF aK Oa,λq hq j A e=>by have h1:=(ac.lt q hq).2;have h2:=(E.cF.2.2 j A q e).1;omega,⟨λq hq=>(K.cF.1 q hq).2,λj A q hq=>(K.cF.2.1 j A q hq).2,λj A q hq=>(K.cF.2.2 j A q hq).2⟩,λq hq=>(aJ.lt q hq).2,λq hq=>(aK.lt q hq).2,NLN,rfl,Ke _ _,rfl⟩);obtain⟨bk,aO,bl,_⟩:=BC aF;clear E F ac ad G;generalize Y (AV 0 S)=a7 at J H I|-;generalize Y (Jz [] S)=lt at J H I|-;generalize Y S=ls at J H I|-;dsimp only;go_wp2_with fail;obtain⟨a8,e1,e2,_⟩:=BC H;exact K8 (v:=jL #[X f a7 cn,X i ls cs,X b lt d]) (by simp[results,results17,go_sem,a8,e1,e2]) rfl ⟨⟨_,_,_,_,_,_,_,_,_,_,_,_,rfl,Aa J⟩,I⟩
 rw[Aa al]at l;cases l
section
variable{aS aO aZ aW:jH}
theorem IL{o p:N5}(h:o.map Ex.st=p.map Ex.st){e:Ex}(he:o=Z e):∃f,p=Z f/\f.st=e.st:=by subst he;cases p with|none=>cases h|some f=>exact⟨f,rfl,(Mk h).symm⟩
theorem UW{o p:N5}(h:o.map Ex.st=p.map Ex.st)(he:o=V):p=V:=by subst he;cases p with|none=>rfl|some f=>cases h
theorem YS{o p:N5}(h:o.map Ex.st=p.map Ex.st)(a:Wy ts o):Wy ts p:=by cases p with|none=>trivial|some f=>obtain⟨e,rfl,he⟩:=IL h.symm rfl;exact(Fl he.symm).trans a
theorem Sw{x y:Sx}(h:Cu x=Cu y):x.aF=y.aF/\x.name=y.name/\x.cond.map Ex.st=y.cond.map Ex.st/\x.aD.map Ex.st=y.aD.map Ex.st:=by simp only[Cu,Sx.mk.injEq,true_and]at h;exact h
theorem Kw:∀(c g:M9)(ts:M4),c.map Cu=g.map Cu->JD ts c->JD ts g
 |[],[],_,_,_=>trivial|[],y::g,_,h,_=>O6|x::c,[],_,h,_=>O6|x::c,y::g,ts,h,t=>by
  rw[List.map_cons,List.map_cons]at h;obtain⟨h0,h1⟩:=List.cons.inj h;obtain⟨i,_,hc,hg⟩:=Sw h0;obtain⟨k,e,t,a,b,d,f⟩|⟨k,⟨e,a,b⟩,d,f⟩|⟨k,a,d,f⟩:=t
  .obtain⟨j,l,q⟩:=IL hc a;exact .inl ⟨i ▸ k,j,t,l,(Fl q).trans b,UW hg d,Kw c g _ h1 f⟩
  .obtain⟨j,l,q⟩:=IL hc a;exact .inr<|.inl ⟨i ▸ k,⟨j,l,(Fl q).trans b⟩,YS hg d,Kw c g _ h1 f⟩
  exact .inr (.inr ⟨i ▸ k,UW hc a,YS hg d,Kw c g _ h1 f⟩)
theorem UX:∀(b c:M9),b.map Cu=c.map Cu->Ku b->Ku c
 |[],_,_,h=>h.elim|x::b,[],h,_=>O6|x::b,y::c,h,t=>by
  rw[List.map_cons,List.map_cons]at h;obtain⟨h0,h1⟩:=List.cons.inj h;obtain⟨d,_⟩:=Sw h0;obtain⟨k,a⟩|⟨k,a⟩:=t
  .subst a;exact .inl ⟨d ▸ k,by cases c with|nil=>rfl|cons z f=>cases h1⟩
  exact .inr ⟨d ▸ k,UX b c h1 a⟩
theorem YT:∀(a b:M9),a.map Cu=b.map Cu->Mj a=Mj b
 |[],[],_=>rfl|[],y::b,h=>O6|x::a,[],h=>O6|x::a,y::b,h=>by
  rw[List.map_cons,List.map_cons]at h;obtain⟨h0,h1⟩:=List.cons.inj h;obtain⟨c,f,_⟩:=Sw h0;have d:=YT a b h1;by_cases k:x.aF=1
  .rw[Jf k,Jf<|c ▸ k,f,d]
  rw[Gx k,Gx<|c ▸ k,d]
theorem YU:∀(a b:M9),a.map Cu=b.map Cu->CB a=CB b|[],[],_=>rfl|[],y::b,h=>O6|x::a,[],h=>O6|x::a,y::b,h=>by rw[List.map_cons,List.map_cons]at h;obtain⟨h0,h1⟩:=List.cons.inj h;obtain⟨_,_,hc,hg⟩:=Sw h0;rw[Bm,Bm,YU a b h1,<-KS x.cond,<-KS x.aD,hc,hg,KS,KS]
theorem AhK:∀(X Y:M9),X.map Cu=Y.map Cu->∀y∈Y,∃x∈X,Cu x=Cu y:=λX Y h y hy=>by
 have:Cu y∈X.map Cu:=by rw[h];exact List.mem_map_of_mem hy
 obtain⟨x,hx,e⟩:=zU.1 this;exact⟨x,hx,e⟩
theorem Abo{X Y:M9}(h:X.map Cu=Y.map Cu)(hg:UF X):∀y∈Y,(∀e,y.cond=Z e->e.bA)/\(∀e,y.aD=Z e->e.bA):=λy hy=>by
 obtain⟨x,hx,e⟩:=AhK X Y h y hy;obtain⟨_,_,hc,c⟩:=Sw e;refine⟨λf hf=>?_,λf hf=>?_⟩
 .obtain⟨a,b,q⟩:=IL hc.symm hf;exact Bo<|FU q.symm ((hg x hx).1 a b).1
 obtain⟨a,b,q⟩:=IL c.symm hf;exact Bo<|FU q.symm ((hg x hx).2 a b).1
theorem DJ{a b:Nat}(h:a<=b):∀(e:Ex),Nt a e->Nt b e|.lett _ m,q=>⟨q.1,G7 q.2⟩|.un _ _ k,q=>DJ h k q|.bin _ _ l r,q=>⟨DJ h l q.1,DJ h r q.2⟩|.ite _ c t e,q=>⟨DJ h c q.1,DJ h t q.2.1,DJ h e q.2.2⟩|.int ..,_=>trivial|.text ..,_=>trivial|.bool ..,_=>trivial|.set ..,_=>trivial|.name ..,_=>trivial|.attr ..,_=>trivial
theorem Wi:∀(c:M9)(ts:M4),JD ts c->∀x∈c,(∀e,x.cond=Z e->Nt (Y ts+AT c) e)/\(∀e,x.aD=Z e->Nt (Y ts+AT c) e)
 |[],_,_,x,hx=>Q4|y::c,ts,t,x,hx=>by
  have l:AT c<=AT (y::c):=by unfold AT;exact((List.sublist_cons_self y c).filter _).length_le
  have i:∀e,Wy ts y.aD->y.aD=Z e->Nt (Y ts+AT (y::c)) e:=λe h he=>by rw[he]at h;exact DJ Oa e<|EN e ⟨4,h⟩
  have up:∀n,n<=Y ts+AT (y::c)->((∀e,x.cond=Z e->Nt n e)/\(∀e,x.aD=Z e->Nt n e))->(∀e,x.cond=Z e->Nt (Y ts+AT (y::c)) e)/\(∀e,x.aD=Z e->Nt (Y ts+AT (y::c)) e):=λn j q=>⟨λe he=>DJ j e<|q.1 e he,λe he=>DJ j e<|q.2 e he⟩;obtain⟨k,e,t,a,b,d,f⟩|⟨k,⟨e,a,b⟩,d,f⟩|⟨k,a,d,f⟩:=t
  .have e1:AT (y::c)=AT c+1:=by unfold AT;simp[k]
   obtain rfl|hx:=zS.1 hx
   .exact⟨λg he=>by rw[a]at he;cases he;exact DJ Oa e<|EN e ⟨t,b⟩,λg he=>by rw[d]at he;cases he⟩
   exact up _ Od (Wi c (ts++[t]) f x hx)
  .obtain rfl|hx:=zS.1 hx
   .exact⟨λg he=>by rw[a]at he;cases he;exact DJ Oa e<|EN e ⟨1,b⟩,λg he=>i g d he⟩
   exact up _ Oa (Wi c ts f x hx)
  obtain rfl|hx:=zS.1 hx
  .exact⟨(λg he=>by rw[a]at he;cases he),λg he=>i g d he⟩
  exact up _ Oa (Wi c ts f x hx)
theorem Kx:∀(c:M9)(ts:M4),JD ts c->∀x∈c,x.aF=1\/x.aF=2->∃e,x.cond=Z e
 |[],_,_,x,hx,_=>Q4|y::c,ts,t,x,hx,hk=>by
  obtain⟨k,e,t,a,b,d,f⟩|⟨k,⟨e,a,b⟩,d,f⟩|⟨k,a,d,f⟩:=t
  .obtain rfl|hx:=zS.1 hx
   .exact⟨e,a⟩
   exact Kx c _ f x hx hk
  .obtain rfl|hx:=zS.1 hx
   .exact⟨e,a⟩
   exact Kx c _ f x hx hk
  obtain rfl|hx:=zS.1 hx
  .omega
  exact Kx c _ f x hx hk
theorem Nx:∀(a:M9),∀y∈Bp a,∃x∈a,y.bZ=x.bZ/\(y.cond=V\/y.cond=x.cond)/\y.aD=x.aD
 |[],y,hy=>by cases hy|x::a,y,hy=>by
  rw[Bp]at hy;split at hy
  .obtain⟨z,hz,e⟩:=Nx a y hy;exact⟨z,zV _ hz,e⟩
  split at hy
  .rw[zK.1 hy];exact⟨x,zR,rfl,.inl rfl,rfl⟩
  obtain rfl|hy:=zS.1 hy
  .exact⟨y,zR,rfl,.inr rfl,rfl⟩
  obtain⟨z,hz,e⟩:=Nx a y hy;exact⟨z,zV _ hz,e⟩
theorem ST.dec{w:jD}{X:M9}(h:ST G w X):ST G w<|Bp X:=λy hy=>by
 obtain⟨x,hx,_,hc,hg⟩:=Nx X y hy;refine⟨λe he=>?_,λe he=>(h x hx).2 e<|hg ▸ he⟩;obtain hc|hc:=hc
 .rw[hc]at he;cases he
 exact(h x hx).1 e (hc ▸ he)
theorem Ac6{X:M9}(h:Ku X):X≠[]:=λe=>by subst e;exact h
theorem AmV{X:M9}(h:Ku X):Cj 0 X≠[]:=λe=>by have:=Nh X 0 [] h;rw[e]at this;exact this
theorem AhL{X Y:M9}(h1:X.map Cu=(CY [] S).map Cu)(h2:Y.map Cu=(Tu<|Bp X).map Cu):(BU S).map Cu=Y.map Cu:=by rw[BU,h2,<-Wg,<-Wf,<-h1,Wf,Wg]
def OpF(o:M7×Nz×M4)(lo:Nat)(r:Ending)(w':jD):Prop:=∃x n cx y m cy z p cz nv kv hi,r=.returned (jL #[X x n cx,X y m cy,X z p cz])/\Ry w' lo hi x n cx y m cy z p cz o.1 nv kv o.2.1 o.2.2
theorem Aeu(w:jD)(lo:Nat):Ry w lo (R<|Q w) V 0 0 V 0 0 V 0 0 [] [] [] [] []:=by
 refine⟨⟨rfl,rfl,G8,?_,?_,?_,?_⟩,G8,G8,?_,⟨?_,?_,?_⟩,?_,?_,NLN,rfl,rfl,rfl⟩
 .intro j a;cases a
 .intro j a;cases a
 .intro i j b a;cases a
 .intro i j b a;cases a
 .intro q hq;cases hq
 .intro q hq;cases hq
 .intro j a;cases a
 .intro j a;cases a
 .intro q hq;cases hq
 intro q hq;cases hq
theorem YV:∀(a:M9)(ls:M8),Y (CY ls a)=Y a|[],_=>rfl|x::a,ls=>by rw[CY,List.length_cons,List.length_cons,YV a]
theorem YW:∀(a:M9),Y (Bp a)<=Y a
 |[]=>NLN|x::a=>by
  have:=YW a;rw[Bp];split
  .rw[List.length_cons];omega
  split
  .simp
  rw[List.length_cons,List.length_cons];omega
theorem AhM{k:Int}{e:Ex}(h:BS Es k=Z e):e∈Es:=by
 unfold BS at h;split at h
 .cases h
 exact zX h
theorem UY{w:jD}{b:Nat}{a c d:jF}(R:Ah w b #[a,c,d] t):jE w (jB b 0 V)=Z a/\jE w (jB b 1 V)=Z c/\jE w (jB b 2 V)=Z d:=⟨R.cell 0,R.cell 1,R.cell 2⟩
end
section
variable{aS aO aZ aW:jH}
theorem Ry.seal{w w':jD}{x:M3}{n c:Nat}{y:M3}{m d:Nat}{z:M3}{p f:Nat}{g i:N4}{T:M4}(h:Ry w lo hi x n c y m d z p f N g i L T)(a:∀q,lo<=q->(Q w')[q]?=(Q w)[q]?)(hs:R (Q w)<=R (Q w'))(j:Nat)(b:j<=lo):Ry w' j hi x n c y m d z p f N g i L T:=⟨(h.nd.bJ λq h1 _=>a q h1).aP b,AF (Ac h.st λq hq=>a q (h.st.lt q hq).1) b,AF (Ac h.ty λq hq=>a q (h.ty.lt q hq).1) b,h.bH,h.inN,h.inS,h.inT,zB h.top hs,h.nn,h.ns,h.nt⟩
theorem Lo(a b e:M3)(n c m d k f:Nat)(N:M7)(L:Nz)(T:M4)(aT av aw:jH)(w:jD)(h1:GN w a n c N)(h2:Lr w b m d L)(h3:BN w e k f T)(a5:Mu w)(a6:OQ w aT)(B:SP w av aw)(hS:Cx w aS aO aZ aW)(a7:∀x∈N,Cf x.num/\je x.aE<=1048576):Calls jZ 5 #[jL #[jd a n c,jd b m d,jd e k f]] w λr w'=>(∃o,Ajp N L T o/\OpF o (R<|Q w) r w')/\Ak w w':=by
 have a8:=Ab h1.len;have a9:=Ab h2.len;have ax:=Ab a7;have H:=(Ah.new w #[jd a n c,jd b m d,jd e k f] 27).alloc<|Lu V 0 0 V 0 0 V 0 0;have I:=Ah.new (jK w<|Lu a n c b m d e k f) #[jd V 0 0,jd V 0 0,jd V 0 0] 27;simp only[K6]at I;have l:=(Ar w<|Lu a n c b m d e k f).alloc Oz<|Lu V 0 0 V 0 0 V 0 0;have J:=h1.below l NLN;have K:=h2.below l NLN;have ay:=h3.below l NLN;have az:=a5.below l NLN;have M:=a6.below l NLN;have O:=B.below l NLN;have aA:=hS.below l NLN;clear h1 h2 h3 a5 a6 B hS a7;have b0:∃aC,aC=jK (jK w<|Lu a n c b m d e k f) (Lu V 0 0 V 0 0 V 0 0):=⟨_,rfl⟩;obtain⟨P,W,aa⟩:=UY H;go_enter func5,ntmps5;go_wp2_with fail;obtain⟨aC,aD⟩:=b0;have cu:R (Q aC)=R (Q w)+2:=by rw[aD];simp
 rw[<-aD]at H I l J K ay az M O aA P W aa|-;clear aD;refine(Gi a b e n c m d k f N L T aT av aw _ J K ay az M O).mono ?_;rintro r ab ⟨⟨v,rfl,ba⟩,t⟩;have ac:=Ab ba;clear ba;have bb:=J.below t NLN;have bc:=K.below t NLN;have bd:=M.below t NLN;have bf:=O.below t NLN;have bg:=aA.below t NLN;have bh:=H.aB t NLN;have E:=I.aB t NLN;have ad:=l.trans (t.mono l.size);have z1:=t.size;clear J K ay az M O aA H I l P W aa t;obtain⟨P,W,aa⟩:=UY bh;obtain⟨bi,bj,r2⟩:=UY E;have bk:=λj=>E.frozen j;dsimp only;cases v with|false=>have aF:=((E.set 0<|jd V 0 0).set 1<|jd V 0 0).set 2<|jd V 0 0;have aH:=((ad.setCell (p:=⟨R (Q w)+1,0,V⟩) (zQ _)<|jd V 0 0).setCell (p:=⟨R (Q w)+1,1,V⟩) (zQ _)<|jd V 0 0).setCell (p:=⟨R (Q w)+1,2,V⟩) (zQ _)<|jd V 0 0;go_wp2_with fail;obtain⟨aI,e1,e2⟩:=UY aF;exact K8 (v:=jL #[jd V 0 0,jd V 0 0,jd V 0 0]) (by simp[results,results5,go_sem,aI,e1,e2]) rfl ⟨⟨_,.inl ⟨Aa ac,rfl⟩,_,_,_,_,_,_,_,_,_,_,_,_,rfl,Aeu _ _⟩,aH⟩|true=>
  have bl:Bt N L=true:=by
   obtain⟨_,h⟩|⟨h,_⟩:=Aa ac
   .cases h
   exact h
  have ae:=Ab<|BR bl;clear bl;have bm:=Ab (λ(w2:jD) (bn:Ak ab w2)=>EY a b n c m d N L ab w2 bb bn (bc.below bn NLN) (λe=>e.bA/\e.mem (λb=>b<R (Q ab)) ab) (Ua (Aa ae) λx hx=>⟨(Aa ax x hx).2,(Aa ax x hx).1⟩)<|by rw[<-Aa a8];exact(Aa ae).cQ);clear bb bc bi bj r2 bk;go_wp2_with fail;refine(GP _ _ _ _ _ _ _ _ _ _).mono ?_;rintro r w2 ⟨rfl,af⟩;dsimp only;go_wp2_with fail;refine(Aa bm w2 af).mono ?_;rintro r ag ⟨⟨v,Es,rfl,bo,B,hf,aJ⟩,bp⟩;have z:=af.trans<|bp.mono af.size;have bq:=Ab (show je Es=je N by rw[bo,Aa a8]);have b1:=Ab B;obtain⟨b2,i⟩:=AgD (Aa ac) (Aa ax) (Aa bq) B;have aK:=Ab i;have cv:1<=m/\m<=600:=by rw[<-Aa a9];exact⟨(Aa ae).m0,(Aa ae).m⟩
  obtain⟨cw,b3,rfl,hx⟩:=Af aJ;obtain⟨g,rfl,hg,br⟩:=hx Oa;obtain⟨b4,aM,b5⟩:=JO aJ;have bs:ZB ag g<|GQ Es 0 L:=⟨b4,aM,λr u hu=>by rw[<-aM.cell];exact br r u<|by rw[AfD];exact hu⟩;have ah:=Ab (show je (GQ Es 0 L)=m by rw[MA];exact Aa a9);have bt:ST TT ag<|GQ Es 0 L:=λx hx=>by
   obtain⟨bu,_,e1,e2,_,_⟩:=Ab7 hx;have bv:∀(k:Int),ExO TT ag<|BS Es k:=λk e he=>by have b6:e∈Es:=AhM he;exact Ex.aY (λ_ _ _=>trivial) e<|e.aG z NLN (hf e b6).2
   rw[e1,e2];exact⟨bv _,bv _⟩
  have bw:=Ab (show ∀x∈GQ Es 0 L,∃q:Nat,x.bZ=q from λx hx=>by obtain⟨j,aN,rfl⟩:=zk hx;rw[MA]at aN;have:=Alz Es L 0 j aN;rw[zE<|by rw[MA];exact aN]at this;rw[Mk this];exact⟨_,rfl⟩);have bx:=Ab λo=>show o=(AV 0<|BU<|GQ Es 0 L,CC 0<|BU<|GQ Es 0 L,Jz []<|BU<|GQ Es 0 L)->Ajp N L T o from λb7=>.inr ⟨Aa ac,Es,Aa bq,Aa b1,b7⟩;have aP:=Ab<|Ou (aS:=aS) (aO:=aO) (aZ:=aZ) (aW:=aW) (GQ Es 0 L) m g b3 ag (Aa ah) Oa bs i.gd i.ty bt<|bg.below z NLN;have bz:=E.aB z NLN;have aQ:=ad.trans<|z.mono ad.size;have bB:=bd.below z NLN;have bC:=bf.below z NLN;clear bo B hf aJ hx br b5 aM bm af bp i b2 bs bt P W aa bh E ad bd bf bg;generalize GQ Es 0 L=S at aK ah bw bx aP;dsimp only;go_wp2_with fail;refine(Aa aP).mono ?_;rintro r b8 ⟨cx,X,rfl,aR,F,bD,bE,G⟩;have i:=Aa aK;have b9:je X=m:=by have:=congrArg je F;simp only[zZ]at this;rw[this,<-Aa ah];exact YV _ _
  have BH:=Kw _ X [] F.symm<|Jb S [] [] (λn c hc=>by simp at hc) rfl i.ty;have bF:=UX _ X F.symm<|RQ S [] i.en;have ca:=Ab BH;have cb:=Ab bF;have cc:=Ab F;have cd:=Ab bE;obtain⟨ce,c4,rfl,cy,_⟩:=aR.form Oa;have bG:=PF aR;have bH:=Ab<|Ma X (je X) ce c4 b8 rfl Oa bG (λx hx aU=>Kx X [] BH x hx<|.inr aU);have cz:je X<=600:=Oa;have bI:=bz.aB G NLN;have aV:=aQ.trans<|G.mono aQ.size;have bJ:=bB.below G NLN;have bK:=bC.below G NLN;have cA:=z.size;clear aP aR F bE G i BH bF bG bz aQ bB bC b9;dsimp only;go_wp2_with fail;refine(Aa bH).mono ?_;rintro r bL ⟨cB,rfl,aX,C⟩;have ai:=Ib X []<|Aa ca;have a0:=RY X<|Aa cb;have cf:0<je (Bp X):=List.length_pos_iff.2<|Ac6 a0;have cC:je (Bp X)<=600:=by have:=YW X;omega
  have bM:ST TT bL<|Bp X:=bD.dec.map λe he=>Ex.aY (λ_ _ _=>trivial) e<|e.aG C NLN he;obtain⟨cg,c5,rfl,cD,_⟩:=aX.form cf;have bN:=Ab (Wh (Bp X) (je<|Bp X) cg c5 bL rfl Oa (PF aX) bM (λx hx aU=>Kx _ [] ai x hx<|.inl aU) (λx hx=>by have:=Wi _ [] ai x hx;simpa using this) (AmV a0) (λq hq ch hm=>by
    obtain h|h:=PS (Bp X) [] ai q hq ch hm
    .simp at h
    exact h) (AaX (Bp X) 0).2);have bO:=bI.aB C NLN;have a1:=aV.trans<|C.mono aV.size;have bP:=bJ.below C NLN;have bQ:=bK.below C NLN;clear bH aX C bD bM ai a0 bI aV bJ bK;dsimp only;go_wp2_with fail;refine(Aa bN).mono ?_;rintro r ci ⟨cE,Y,rfl,a2,bR,bS,bT,D⟩;have A:=AhL (Aa cc) bR;have i:=Aa aK;have bU:0<je Y/\je Y<=600:=by have e1:=congrArg je A;simp only[zZ]at e1;have e2:=Rv S;have e3:0<je (BU S):=List.length_pos_iff.2<|Ac6 (VT i.en i.nm).1;have e4:=Aa ah;omega
  obtain⟨cj,ck,rfl,cF,_⟩:=a2.form bU.1;have cl:=bO.aB D NLN;have bV:=a1.trans<|D.mono a1.size;have cm:=bP.below D NLN;have cn:=bQ.below D NLN;have cG:=D.size;have bW:=Ab (YR Y (je Y) cj ck aT av aw ci rfl bU.2 (PF a2) (λy hy=>by obtain⟨s,hs,e1⟩:=bT y hy;obtain⟨bu,co,e2,_⟩:=Nx X s hs;obtain⟨s2,cp,e3⟩:=Aa cd bu co;obtain⟨q,hq⟩:=Aa bw s2 cp;exact⟨q,by rw[e1,e2,e3,hq]⟩) bS cm cn (Kw _ Y [] A<|VU i.ty) (by have:=i.lt.sub (VT i.en i.nm).2.2;unfold WA at this|-;rw[<-YT _ Y A];exact this) (Abo A<|AcA i.gd) (by rw[<-YU _ Y A];exact zB (Ru S) i.aL));have cq:=Ab (show(AV 0<|BU S,CC 0<|BU S,Jz []<|BU S)=(AV 0 Y,CC 0 Y,Jz [] Y)by rw[<-PU<|BU S,<-PV<|BU S,<-We<|BU S,A,PU,PV,We]);clear bN a2 bR bS bT D A i bO a1 bP bQ;dsimp only;go_wp2_with fail;refine(Aa bW).mono ?_;rintro r cr ⟨⟨x7,aj,ak,al,ao,ap,aq,ar,au,cH,cI,cJ,rfl,bX⟩,bY⟩;have a3:=cl.aB bY NLN;have cs:=bV.trans<|bY.mono bV.size;have aF:=((a3.set 0<|jd x7 aj ak).set 1<|jd al ao ap).set 2<|jd aq ar au;have aH:=((cs.setCell (p:=⟨R (Q w)+1,0,V⟩) (zQ _)<|jd x7 aj ak).setCell (p:=⟨R (Q w)+1,1,V⟩) (zQ _)<|jd al ao ap).setCell (p:=⟨R (Q w)+1,2,V⟩) (zQ _)<|jd aq ar au;have ct:=Ab (bX.seal (w':=jM (jM (jM cr ⟨R (Q w)+1,0,V⟩<|jd x7 aj ak) ⟨R (Q w)+1,1,V⟩<|jd al ao ap) ⟨R (Q w)+1,2,V⟩<|jd aq ar au) (λq hq=>by have a4:q≠R (Q w)+1:=Oa;rw[L2 _ _ q _ a4,L2 _ _ q _ a4,L2 _ _ q _ a4]) Oz (R<|Q w) Oa);obtain⟨bi,bj,r2⟩:=UY a3;have bk:=λj=>a3.frozen j;clear bX bW;dsimp only;go_wp2_with fail;obtain⟨aI,e1,e2⟩:=UY aF;exact K8 (v:=jL #[jd x7 aj ak,jd al ao ap,jd aq ar au]) (by simp[results,results5,go_sem,aI,e1,e2]) rfl ⟨⟨(AV 0 Y,CC 0 Y,Jz [] Y),Aa bx _ (Aa cq).symm,_,_,_,_,_,_,_,_,_,_,_,_,rfl,Aa ct⟩,aH⟩
end
structure Ad8(w:jD)(aT aN aA aS aO aZ aW:jH):Prop where
 tab:Mu w
 vo:OQ w aT
 eo:SP w aN aA
 se:Cx w aS aO aZ aW
theorem Ad8.below{w w':jD}{B:Nat}{aT aN aA aS aO aZ aW:jH}(h:Ad8 w aT aN aA aS aO aZ aW)(a:Below B w w')(hB:R (Q w)<=B):Ad8 w' aT aN aA aS aO aZ aW:=⟨h.tab.below a hB,h.vo.below a hB,h.eo.below a hB,h.se.below a hB⟩
theorem Ty6.below{w w':jD}{x y z:M3}{n cx m cy k cz:Nat}{o:M7×Nz×M4}(h:Ty6 w x n cx y m cy z k cz o)(a:Ak w w'):Ty6 w' x n cx y m cy z k cz o:=⟨⟨h.1.1.below a NLN,NmF.below h.1.2 h.1.1 a NLN⟩,h.2.1.below a NLN,h.2.2.below a NLN⟩
theorem OpF.ty6{T:M4}{o:M7×Nz×M4}(hg:OpG N L T o){a:Ending}{w:jD}(h:OpF o lo a w):∃x n cx y m cy z k cz,a=.returned (jL #[X x n cx,X y m cy,X z k cz])/\Ty6 w x n cx y m cy z k cz o:=by obtain⟨x,n,cx,y,m,cy,z,k,cz,b,c,hi,rfl,O⟩:=h;obtain⟨s1,s2,d⟩:=hg.sm;have:=O.nn;have:=O.ns;have:=O.nt;exact⟨x,n,cx,y,m,cy,z,k,cz,rfl,⟨O.nd.bR O.nn Oa λx hx=>(hg.num x hx).2,O.nd.nms O.nn⟩,CZ O.st O.ns Oa hg.st,Bh O.ty O.nt Oa⟩
theorem Rt{B F:Nat}{X a:jD}{cs:Array jF}(G:Below B X a)(f:Ah a F cs t)(h:B<=F)(b c d:jF):Below B X<|jM (jM (jM a (jB F 0 V) b) (jB F 1 V) c) (jB F 2 V) d:=((G.setCell (p:=(jB F 0 V)) h b).setCell (p:=(jB F 1 V)) h c).setCell (p:=(jB F 2 V)) h d
structure RqM(w:jD)(x1:M3)(c1:Nat)(x2:M3)(c2:Nat)(Qq:Rq):Prop where
 s1:Am w x1 (Y Qq.s1) c1 Qq.s1
 s2:Am w x2 (Y Qq.s2) c2 Qq.s2
 z1:ZS w x1 c1
 z2:ZS w x2 c2
 sm:(Y Qq.s1<=1048576/\Y Qq.s2<=1048576)/\(Qq.cl.size<=maxLen/\Qq.us.size<=maxLen)/\Cf Qq.lv/\Cf Qq.nw
theorem RqM.below{w w':jD}{x1 x2:M3}{c1 c2:Nat}{Qq:Rq}(h:RqM w x1 c1 x2 c2 Qq)(a:Ak w w'):RqM w' x1 c1 x2 c2 Qq:=⟨h.s1.below a NLN,h.s2.below a NLN,h.z1.below a NLN,h.z2.below a NLN,h.sm⟩
theorem Yq{n c:Nat}{ys:M4}{w:jD}(h:DB w a n c ys)(i:n<=1048576):Calls jZ 9 #[X a n c] w λd w'=>∃Qq x1 c1 x2 c2,d=.returned (jL #[jA Qq.cl,jA Qq.us,T U Qq.lv,T U Qq.nw,X x1 (Y Qq.s1) c1,X x2 (Y Qq.s2) c2])/\Hid (AaQ ys Qq)/\RqM w' x1 c1 x2 c2 Qq/\Ak w w':=by refine(Ajn a n c ys w h i).mono ?_;rintro d w' ⟨Qq,x1,x2,c1,c2,rfl,j,k,f,g,b⟩;exact⟨Qq,x1,c1,x2,c2,rfl,j,⟨f.cP,g.cP,ZS.bB f.bG,ZS.bB g.bG,⟨Oa,Oa⟩,⟨O3,O3⟩,⟨Oa,Oa⟩,⟨Oa,Oa⟩⟩,b⟩
section
variable{w:jD}{x y z:M3}{n cx m cy k cz:Nat}{o:M7×Nz×M4}{x1 x2:M3}{c1 c2:Nat}{Qq:Rq}{aT aN aA aS aO aZ aW:jH}
theorem VS(d:∀x∈o.1,Cf x.num/\Y x.aE<=1048576)(c:Ty6 w x n cx y m cy z k cz o)(b:Ad8 w aT aN aA aS aO aZ aW)(a:RqM w x1 c1 x2 c2 Qq):Calls jZ 8 #[jL #[X x n cx,X y m cy,X z k cz],jL #[jA Qq.cl,jA Qq.us,T U Qq.lv,T U Qq.nw,X x1 (Y Qq.s1) c1,X x2 (Y Qq.s2) c2]] w λf w'=>∃p,Pw o.1 o.2.1 o.2.2 Qq p/\Ab0 (R<|Q w) p w f w':=Xg _ _ _ _ _ _ _ _ _ o.1 o.2.1 o.2.2 Qq _ _ _ _ _ _ aT aN aA w c.1.1 c.2.1 c.2.2 b.tab b.vo b.eo b.se a.s1 a.s2 a.sm.1.1 a.sm.1.2 a.sm.2.1.1 a.sm.2.1.2 a.sm.2.2.1 a.sm.2.2.2 λx hx=>⟨(d x hx).2,(d x hx).1⟩
theorem Ajo(c:∀x∈o.1,Cf x.num/\Y x.aE<=1048576)(b:Ty6 w x n cx y m cy z k cz o)(a:RqM w x1 c1 x2 c2 Qq):Calls jZ 11 #[jL #[X x n cx,X y m cy,X z k cz],jL #[jA Qq.cl,jA Qq.us,T U Qq.lv,T U Qq.nw,X x1 (Y Qq.s1) c1,X x2 (Y Qq.s2) c2]] w λd w'=>∃p,Pw o.1 o.2.1 o.2.2 Qq p/\Ab0 (R<|Q w) p w d w'/\∀j,j<Y p.2.2->(AB p.2.2 j).size<=maxLen:=(Xs _ _ _ _ _ _ _ _ _ o.1 o.2.1 o.2.2 Qq _ _ _ _ _ _ w b.1.1 b.2.1 b.2.2 b.1.2 a.s1 a.s2 a.z1 a.z2 a.sm.1.1 a.sm.1.2 a.sm.2.1.1 a.sm.2.1.2 a.sm.2.2.1 a.sm.2.2.2 λx hx=>⟨(c x hx).2,(c x hx).1⟩).mono λd w' ⟨p,h1,h2,_,h3⟩=>⟨p,h1,h2,h3⟩
end
theorem On(a:M3)(n c:Nat)(zs:M4)(bP:M3)(G bQ:Nat)(ys:M4)(aT aV aX aS aO aZ aW:jH)(w:jD)(h:DB w a n c zs)(aY:DB w bP G bQ ys)(he:Ad8 w aT aV aX aS aO aZ aW):Calls jZ 3 #[jd a n c,jd bP G bQ] w λe w'=>e=.returned (.bool true)/\Ak w w':=by
 have b1:n<=9223372036854775807:=P5;have b2:G<=9223372036854775807:=by have:=aY.cap;have:=aY.aH;unfold maxLen at this;omega
 by_cases bR:¬ (n<=1048576/\G<=1048576/\n+G<=1048576)
 .have cu:(1048576:Int)<(n:Int)\/(1048576:Int)<(G:Int)\/(¬ ((1048576:Int)<(n:Int))/\¬ ((1048576:Int)<(G:Int))/\(1048576:Int)<(n:Int)+(G:Int)):=Oa;clear bR;obtain bo|i2|⟨bo,i2,cv⟩:=cu;case' inr.inl=>by_cases bo:(1048576:Int)<(n:Int)
  all_goals go_enter func3,ntmps3;go_wp2;go_ret;exact⟨rfl,BRN⟩
 have bo:¬ ((1048576:Int)<(n:Int)):=Oa;have i2:¬ ((1048576:Int)<(G:Int)):=Oa;have cv:¬ ((1048576:Int)<(n:Int)+(G:Int)):=Oa;have bS:n<=1048576:=Oa;have bT:G<=1048576:=Oa;clear bR;go_enter func3,ntmps3;go_wp2_with fail;refine(Acz a n c zs w h bS).mono ?_;rintro e ad ⟨x,a0,bU,y,m,bV,z,k,bW,o,rfl,cw,bX,hz,c1⟩;have bY:=bX ad λ_ _ _=>rfl;obtain⟨N,L,T⟩:=o;dsimp only;go_upto_region 4 with fail;refine CI (P:=λbp=>Code.wp _ _ _ _ bp) λcx bq bZ=>?_;have X2:=c1.trans<|bq.mono c1.size;have b0:=bY.below bq;clear bY bX c1 bq;go_wp2_with fail;refine(Acz a n c zs cx (h.below X2 NLN) bS).mono ?_;rintro e b3 ⟨x2,n2,cU,cV,cW,cX,z2,cY,cZ,o2,rfl,b5,b6,-,c3⟩;obtain rfl:=(Aa b5).cK<|Aa cw;have a1:=b6 b3 λ_ _ _=>rfl;have a2:=X2.trans<|c3.mono X2.size;have aA:=he.below a2 NLN;have a3:∀x∈N,Cf x.num/\Y x.aE<=1048576:=λx hx=>⟨⟨(hz x hx).1.1,(hz x hx).1.2⟩,(hz x hx).2⟩;dsimp only;go_wp2_with fail;refine(Lo _ _ _ _ _ _ _ _ _ N L T aT aV aX b3 a1.1.1 a1.2.1 a1.2.2 aA.tab aA.vo aA.eo aA.se a3).mono ?_;rintro e E ⟨⟨H,b7,a4⟩,b4⟩;have br:=c3.trans<|b4.mono c3.size;have bs:=a2.trans<|b4.mono a2.size;have b8:=b0.below br;have b9:=bZ.aB br NLN;have bt:=Ab b7;clear b0 b5 b6 c3 a1 a2 aA b4 bZ X2 br b7;have bu:=Ab a4;obtain⟨a5,ae,a6,a7,af,a8,a9,aw,ba,c0,c2,hi,rfl,bb⟩:=a4;have bv:=Ab<|show Y H.1=ae/\Y H.2.1=af/\Y H.2.2=aw from⟨bb.nn,bb.ns,bb.nt⟩;clear bb;dsimp only;go_upto_region 5 with fail;refine CI (P:=λbp=>Code.wp _ _ _ _ bp) λcy ax bw=>?_;have aC:=b8.below ax;have bx:=bs.trans<|ax.mono bs.size;have bz:=b9.aB ax NLN;obtain⟨ag,ah,ai,_⟩:=BC bz;obtain⟨aj,ak,al,_⟩:=BC bw;go_wp2_with fail;refine(JP _ _ _ _ _ _ _ _ _ N L T cy aC.1.1 aC.2.1 aC.2.2).mono ?_;rintro e cz ⟨⟨v,rfl,aD⟩,ay⟩;have aF:=bx.trans<|ay.mono bx.size;have bc:=aC.below ay;have bA:=bz.aB ay NLN;have bC:=bw.aB ay NLN;have cA:=ax.trans<|ay.mono ax.size;clear aC bx bz bw ax ay ag ah ai aj ak al bs b8 b9;obtain⟨ag,ah,ai,_⟩:=BC bA;obtain⟨aj,ak,al,_⟩:=BC bC;dsimp only;cases v with
 |false=>
  have e:H=([],[],[]):=by
   obtain⟨_,e⟩|⟨h,_⟩:=Aa bt
   .exact e
   cases h.cK aD
  obtain⟨K,ao,bD⟩:=Aa bv;rw[e]at K ao bD;dsimp only[List.length_nil]at K ao bD;subst K ao bD;clear bu bt aD;go_wp2;go_ret;exact⟨rfl,aF⟩|true=>
  have hg:=Ajq a3 aD<|Aa bt;obtain⟨_,_,_,_,_,_,_,_,_,e,ca⟩:=OpF.ty6 hg<|Aa bu;cases e;have aG:=ca.below cA;have bd:=he.below aF NLN;have cB:Y N=a0:=bc.1.1.len;have cC:Y L=m:=bc.2.1.len;have g1:¬ ((a0:Int)<(ae:Int)):=by have:=(Aa bv).1;have:=hg.n;omega
  have g2:¬ ((m:Int)<(af:Int)):=by have:=(Aa bv).2.1;have:=hg.m;omega
  have aI:=Ab hg;have c4:=Ab aD;clear hg aD bu ca cB cC;go_wp2_with fail;refine(Gi _ _ _ _ _ _ _ _ _ H.1 H.2.1 H.2.2 aT aV aX cz aG.1.1 aG.2.1 aG.2.2 bd.tab bd.vo bd.eo).mono ?_;rintro e B ⟨⟨i,rfl,cb⟩,az⟩;obtain rfl:=(Aa aI).wt i cb;have aJ:=aF.trans<|az.mono aF.size;have cc:=bc.below az;have bE:=aG.below az;have bF:=bA.aB az NLN;have bf:=bC.aB az NLN;clear bc aG bA bC aF az ag ah ai aj ak al bd cb;have cd:∀x∈H.1,Cf x.num/\Y x.aE<=1048576:=λx hx=>((Aa aI).num x hx).1;have bg:=Ab cd;have bh:=he.below aJ NLN;have b:=(IQ B).drew;have ap:=b.alloc b.size<|.cells #[ja U 0,ja U 0,jd V 0 0] 33;have aK:=Ah.new (World.drew B) #[ja U 0,ja U 0,jd V 0 0] 33;simp only[World.size_drew]at aK;have C:∀w',Ak B w'->jE w' ⟨R<|Q E,0,V⟩=Z (jd a5 ae a6)/\jE w' ⟨R<|Q E,1,V⟩=Z (jd a7 af a8)/\jE w' ⟨R<|Q E,2,V⟩=Z (jd a9 aw ba):=λw' I=>by have d:=bf.aB I NLN;exact⟨d.cell 0,d.cell 1,d.cell 2⟩
  have f:=Ab C;have aL:=Ab λ(w':jD) (I:Ak B w')=>Yq (aY.below (aJ.trans<|I.mono aJ.size) NLN) bT;have W:=Ab λ(w':jD) (I:Ak B w')=>L7 (bE.below I)<|bh.below I NLN;obtain⟨ag,ah,ai,_⟩:=BC bF;obtain⟨aj,ak,al,_⟩:=BC bf;have K:=C _ b;have ao:=C _ ap;clear C cd;dsimp only;go_wp2_with fail;go_region_held3 (λw'=>jE w' ⟨R<|Q E,0,V⟩=Z (jd a5 ae a6)/\jE w' ⟨R<|Q E,1,V⟩=Z (jd a7 af a8)/\jE w' ⟨R<|Q E,2,V⟩=Z (jd a9 aw ba)) (first|assumption|fail)(first|(go_at_call 9;refine(Aa aL _ b).mono ?_;rintro d J ⟨bG,cD,d1,cE,d2,rfl,ce,aq,ar⟩;have g:=b.trans<|ar.mono b.size;have bi:=Aa f _ g;have cf:=Aa f _<|g.alloc g.size<|.cells #[ja U 0,ja U 0,jd V 0 0] 33)|(go_at_call 9;refine(Aa aL _ ap).mono ?_;rintro d J ⟨bG,cD,d1,cE,d2,rfl,ce,aq,ar⟩;have g:=ap.trans<|ar.mono ap.size;have bi:=Aa f _ g;have cg:=aK.aB ar Oz)|(go_at_call 8;have ch:=cg;refine(VS (Aa bg) (Aa W _ g).1 (Aa W _ g).2 aq).mono ?_;rintro d au ⟨⟨u,i,ss⟩,ab,⟨l,r,rfl,M⟩,O⟩;have A:=g.trans (O.mono g.size);have aM:=Aa f _ A;have D:=ch.aB O NLN;obtain⟨bH,bI,bJ,_⟩:=BC D;have bK:=(λj=>D.frozen j);have t:=Rt A D (G7 g.size) (ja U u) (ja U i)<|jd l (Y ss) r;have aN:=Aa f _ t)|(go_at_call 8;refine(VS (Aa bg) (Aa W _ g).1 (Aa W _ g).2 aq).mono ?_;rintro d au ⟨⟨u,i,ss⟩,ab,⟨l,r,rfl,M⟩,O⟩;have A:=g.trans<|O.mono g.size;have aM:=Aa f _ A;have cF:=Aa f _<|A.alloc A.size<|.cells #[ja U 0,ja U 0,jd V 0 0] 33;have t:=A.alloc A.size<|.cells #[ja U u,ja U i,jd l (Y ss) r] 33;have aN:=Aa f _ t)|(go_at_call 8;have bL:=Ar J (.cells #[ja U 0,ja U 0,jd V 0 0] 33);have aP:=g.trans (bL.mono g.size);refine(VS (Aa bg) (Aa W _ aP).1 (Aa W _ aP).2 (aq.below bL)).mono ?_;rintro d au ⟨⟨u,i,ss⟩,ab,⟨l,r,rfl,M⟩,O⟩;have A:=aP.trans (O.mono aP.size);have aM:=Aa f _ A;have D:=(Ah.new J #[ja U 0,ja U 0,jd V 0 0] 33).aB O NLN;obtain⟨bH,bI,bJ,_⟩:=BC D;have bK:=(λj=>D.frozen j);have t:=Rt A D (G7 g.size) (ja U u) (ja U i)<|jd l (Y ss) r;have aN:=Aa f _ t));all_goals first|(have aQ:=Ah.new au #[ja U u,ja U i,jd l (Y ss) r] 33;have bj:=AF (K7 M<|.cells #[ja U u,ja U i,jd l (Y ss) r] 33)<|zH _;have bM:=Ab ab;have bk:=Ab t;clear f aL W b ap aK K ao bi cf aM cF aN g A t aq ar O M ab bh ag ah ai aj ak al;generalize jK au (Obj.cells #[Value.int IntKind.i64 u,Value.int IntKind.i64 i,Value.slice l (Y ss) r] 33)=X at*;generalize R (Q au)=F at*)|(have aQ:=((D.set 0<|ja U u).set 1<|ja U i).set 2 (jd l (Y ss) r);have aa:∀q,jO (Value.slice l (Y ss) r)=Z q->q≠R (Q J):=λq hq h=>Ad D M Ob (by rw[hq,h]);have bj:=AF (Ag (Ag (Ag M ⟨R<|Q J,0,V⟩ (ja U u) aa) ⟨R<|Q J,1,V⟩ (ja U i) aa) ⟨R<|Q J,2,V⟩ (jd l (Y ss) r) aa)<|zH _;have bM:=Ab ab;have bk:=Ab t;clear f aL W b ap aK K ao bi cf aM aN g aP bL A t aq ar O M ab bh D bH bI bJ bK aa ag ah ai aj ak al;generalize jM (jM (jM au ⟨R (Q J),0,V⟩ (Value.int IntKind.i64 u)) ⟨R (Q J),1,V⟩ (Value.int IntKind.i64 i)) ⟨R (Q J),2,V⟩ (Value.slice l (Y ss) r)=X at*;generalize R (Q J)=F at*)|(have aQ:=((D.set 0<|ja U u).set 1<|ja U i).set 2 (jd l (Y ss) r);have aa:∀q,jO (Value.slice l (Y ss) r)=Z q->q≠R (Q B):=λq hq h=>Ad D M Ob (by rw[hq,h]);have bj:=AF (Ag (Ag (Ag M ⟨R<|Q B,0,V⟩ (ja U u) aa) ⟨R<|Q B,1,V⟩ (ja U i) aa) ⟨R<|Q B,2,V⟩ (jd l (Y ss) r) aa)<|zH _;have bM:=Ab ab;have bk:=Ab t;clear f aL W b ap aK K ao bi aM aN g A t aq ar O M ab bh cg ch D bH bI bJ bK aa ag ah ai aj ak al;generalize jM (jM (jM au ⟨R (Q B),0,V⟩ (Value.int IntKind.i64 u)) ⟨R (Q B),1,V⟩ (Value.int IntKind.i64 i)) ⟨R (Q B),2,V⟩ (Value.slice l (Y ss) r)=X at*;generalize R (Q B)=F at aQ|-)
  all_goals
   have t:=Aa bk;have aR:=aJ.trans<|t.mono aJ.size;have ci:=cc.below t;have cj:=bE.below t;have ck:=bF.aB t NLN;have cl:=bf.aB t NLN;clear cc bE bF bf t bk;have b:=(IQ X).drew;have C:∀w',Ak X w'->(jE w' (jB F 0 V)=Z (ja U u)/\jE w' (jB F 1 V)=Z (ja U i)/\jE w' (jB F 2 V)=Z (jd l (Y ss) r))/\jE w' ⟨R<|Q ad,0,V⟩=Z (jd x a0 bU)/\jE w' ⟨R<|Q ad,1,V⟩=Z (jd y m bV)/\jE w' ⟨R<|Q ad,2,V⟩=Z (jd z k bW):=λw' I=>by have d:=aQ.aB I NLN;have s:=ck.aB I NLN;exact⟨⟨d.cell 0,d.cell 1,d.cell 2⟩,s.cell 0,s.cell 1,s.cell 2⟩
   have f:=Ab C;have K:=C _ b;have cG:=Ab a3;clear C a3;go_wp2_with fail;go_region_held3 (λw'=>(jE w' (jB F 0 V)=Z (ja U u)/\jE w' (jB F 1 V)=Z (ja U i)/\jE w' (jB F 2 V)=Z (jd l (Y ss) r))/\jE w' ⟨R<|Q ad,0,V⟩=Z (jd x a0 bU)/\jE w' ⟨R<|Q ad,1,V⟩=Z (jd y m bV)/\jE w' ⟨R<|Q ad,2,V⟩=Z (jd z k bW)) (first|assumption|fail)(first|(go_at_call 9;refine(Yq (aY.below (aR.trans<|b.mono aR.size) NLN) bT).mono ?_;rintro d c5 ⟨cH,c6,d3,c7,d4,rfl,cI,bl,cm⟩;obtain rfl:bG=cH:=(Aa ce).cK<|Aa cI;have S:=b.trans<|cm.mono b.size;have cn:=Aa f _ S)|(go_at_call 11;refine(Ajo (o:=(N,L,T)) (Aa cG) (ci.below S) bl).mono ?_;rintro d c8 ⟨⟨g1,g2,cJ⟩,co,⟨⟨c9,da,rfl,cp⟩,cq⟩,bN⟩;obtain⟨rfl,rfl,rfl⟩:u=g1/\i=g2/\ss=cJ:=(by have e:=(Aa aI).dc bG _ _ bl.sm.2.2.1 bl.sm.2.2.2 co<|Aa bM;cases e;exact⟨rfl,rfl,rfl⟩);have ac:=S.trans<|cq.mono S.size;have cr:=Aa f _ ac)|(go_at_call 10;refine(VR (Am.bB (Ai bj ac NLN) bN)<|Am.bB cp bN).mono ?_;rintro d cs ⟨rfl,ct⟩;have aU:=ac.trans<|ct.mono ac.size;have cL:=Aa f _ aU));have bO:=aR.trans<|aU.mono aR.size;have av:=cj.below aU;have cM:=cl.aB aU NLN;clear f K cn cr cL S ac aU b cm cq ct bl cp bN co bj aQ ck cl ci cj aR;have bm:=he.below bO NLN;have b:=(IQ cs).drew;have C:∀w',Ak cs w'->jE w' ⟨R<|Q E,0,V⟩=Z (jd a5 ae a6)/\jE w' ⟨R<|Q E,1,V⟩=Z (jd a7 af a8)/\jE w' ⟨R<|Q E,2,V⟩=Z (jd a9 aw ba):=λw' I=>by have d:=cM.aB I NLN;exact⟨d.cell 0,d.cell 1,d.cell 2⟩
   have f:=Ab C;have K:=C _ b;have db:=C _ BRN;clear C;go_wp2_with fail;go_region_held3 (λw'=>jE w' ⟨R<|Q E,0,V⟩=Z (jd a5 ae a6)/\jE w' ⟨R<|Q E,1,V⟩=Z (jd a7 af a8)/\jE w' ⟨R<|Q E,2,V⟩=Z (jd a9 aw ba)) (first|assumption|fail)(first|(go_at_call 5;refine(Lo _ _ _ _ _ _ _ _ _ H.1 H.2.1 H.2.2 aT aV aX _ (av.below b).1.1 (av.below b).2.1 (av.below b).2.2 (bm.tab.below b NLN) (bm.vo.below b NLN) (bm.eo.below b NLN) (bm.se.below b NLN)<|Aa bg).mono ?_;rintro d dd ⟨⟨p,cN,a4⟩,cO⟩;obtain rfl:=(Aa aI).op _ cN;obtain⟨x6,cP,de,df,cQ,dg,dh,cS,di,rfl,bn⟩:=a4.ty6<|Aa aI;obtain rfl:cP=ae:=bn.1.1.len.symm.trans av.1.1.len;obtain rfl:cQ=af:=bn.2.1.len.symm.trans av.2.1.len;obtain rfl:cS=aw:=bn.2.2.len.symm.trans av.2.2.len;have S:=b.trans<|cO.mono b.size;have cn:=Aa f _ S)|(go_at_call 12;refine(Rl bn<|av.below S).mono ?_;rintro d dj ⟨rfl,cT⟩;have ac:=S.trans<|cT.mono S.size;have cr:=Aa f _ ac));go_wp2;go_ret;exact⟨rfl,bO.trans<|ac.mono bO.size⟩
end Go.Proofs.YtlcfoihgfcmfeaaGreatDoor

import Derived.Test.YtppafecmccdplaaGreatMXAV
open Go.Proofs.Tryz
open Go.Value renaming int->U,slice->X,string->Q
open Bool renaming true->R,false->jA
open Go.Ending renaming returned->jF
open Go.Proofs.Tryz renaming prog->jL
namespace Go.Proofs.YtppafecmccdplaaGreat
set_option maxRecDepth 100000
set_option maxHeartbeats 32000000
open Go.RowKit
set_option linter.unusedVariables false
variable {N:List Nd}{n m:Nat}{fld:Nd->Bool}
def Ez (fld:Nd->Bool) (n m:Nat) (N:List Nd) (L:List St) (e:Ending):Prop:=∃b:Bool,e=jF (.bool b)/\(b=R↔(n<=4000/\1<=m/\m<=600)/\N.all fld=R/\Kn N L)
def Aij (ty:Bool) (fld:Nd->Bool):Prop:=∀(x:Nd) (an:Option Addr) (nn cn:Nat) (ak:Option Addr) (nk ck:Nat) (w:World),AJ w an nn cn x.names->nk=x.kids.length->x.text.size<=1048576->nk<=1048576->Calls jL 95 #[ndV x.op x.num x.text an nn cn ak nk ck,.bool ty] w fun e w'=>e=jF (.bool (fld x))/\An w w'
theorem Pr (L:List Nd):L.all fld=R↔∀j,(h:j<L.length)->fld L[j]=R:=by
 rw[zt];constructor
 ·intro h j a;exact h _ (zH a)
 ·intro h x hx;obtain⟨j,a,rfl⟩:=z9 hx;exact h j a
theorem Xr (hk:∀x,fld x=R->(x.kids.length:Int)=Cz x.op)(h:N.all fld=R):∀a∈N.map Nd.kids,a.length<=3:=by
 intro a b;obtain⟨x,hx,rfl⟩:=zn.1 b;have:=hk x (zt.1 h x hx);have:Cz x.op<=3:=by unfold Cz;repeat' split<;>try decide
 omega
theorem Gc {L:List St}(h: ¬ ((n<=4000/\1<=m/\m<=600)/\N.all fld=R/\Kn N L)):Ez fld n m N L (jF (.bool jA)):=⟨jA,rfl,by constructor<;>intro k;cases k;exact absurd k h⟩
theorem Xs {s:ByteArray}(h:s.size=0):s.toList.isEmpty=R:=Z6.2 ((Co s).2 h)
theorem LE {w:World}{base:Nat}{e:TypeId}{size:Nat}{v:Value}{n:Nat}{a:List Value}(h:w.ownsRow base e size v n a):v.ownBlock≠some w.heap.size:=fun k=>by have:=(h.lt _ k).2;omega
theorem Pa (ty:Bool)(fld:Nd->Bool)(bu:Aij ty fld)(bv:∀x,fld x=R->(x.kids.length:Int)=Cz x.op)(a b:Option Addr)(n c m d:Nat)(N:List Nd)(L:List St)(w:World)(h1:IY w a n c N)(aU:Ss w b m d L):
  Calls jL 72 #[X a n c,X b m d,.bool ty] w fun e w'=>Ez fld n m N L e/\An w w':=by
 have bw:=Ab bu;have bW:=Ab bv;clear bu bv;have s1:=h1.small;have s2:=aU.small;have aj:=Ab h1.len;have aF:=Ab aU.len;go_enter func72,ntmps72
 by_cases a3: 4000<n
 ·have bX:(4000 :Int)<(n:Int):=by omega
  have l:=Ab (Gc (fld:=fld) (n:=n) (m:=m) (N:=N) (L:=L) (fun h=>by omega));clear a3;go_wp2
  go_ret
  exact⟨Aa l,BRN⟩
 have bX: ¬ ((4000 :Int)<(n:Int)):=by omega
 by_cases hm:m<1
 ·have bY:(m:Int)<1:=by omega
  have l:=Ab (Gc (fld:=fld) (n:=n) (m:=m) (N:=N) (L:=L) (fun h=>by omega));clear a3 hm;go_wp2
  go_ret
  exact⟨Aa l,BRN⟩
 have bY: ¬ ((m:Int)<1):=by omega
 by_cases bx: 600<m
 ·have bZ:(600 :Int)<(m:Int):=by omega
  have l:=Ab (Gc (fld:=fld) (n:=n) (m:=m) (N:=N) (L:=L) (fun h=>by omega));clear a3 hm bx;go_wp2
  go_ret
  exact⟨Aa l,BRN⟩
 have bZ: ¬ ((600 :Int)<(m:Int)):=by omega
 have ab:n<=4000:=by omega
 have b0:m<=600:=by omega
 have b1: 1<=m:=by omega
 clear a3 hm bx;go_wp2_with fail
 go_loopw [33] (fun i wr=>∃k:Nat,k<=n/\i=U .i64 k/\An w wr/\Hid (∀j,(aq:j<N.length)->j<k->fld N[j]=R)) (fun i _=>n-(intOf i).toNat)
 case atStart=>exact⟨0,by omega,rfl,BRN,Ab (fun j aq h=>absurd h (by omega))⟩
 case round=>
  obtain⟨k,hk,rfl,H,ar⟩:=hrel;by_cases au:k<n
  ·have bh:(k:Int)<(n:Int):=by omega
   have S:k<N.length:=by rw[Aa aj];exact au
   have ak:=h1.sizes N[k] (zH S);obtain⟨bz,bA,rfl,bB,an,nn,cn,a4,a5,a6,c0,c1,c2,c3,c4,bi,a7⟩:=(h1.below H NLN).cells k S;have z:=Ab (show fld N[k]=jA->Ez fld n m N L (jF (.bool jA))from fun e=>Gc (fun h=>by
    have:=(Pr N).1 h.2.1 k S;rw[this]at e;cases e))
   have A:=Ab (show fld N[k]=R->∀j,(aq:j<N.length)->j<k+1->fld N[j]=R from fun e j aq h'=>by
    by_cases aV:j=k
    ·subst aV;exact e
    ·exact Aa ar j aq (by omega))
   have D:=Ab au;clear ar;generalize N[k]=x at c0 c1 c2 c3 c4 bi a7 ak z A;have bC:=Ab a7.len;have bD:=a7.small;have f:=H.alloc H.size (EV x.op x.num x.text an nn cn a4 a5 a6);have b2:=AN wr (EV x.op x.num x.text an nn cn a4 a5 a6);have bE:=bi.below b2 NLN;clear bi a7;cases hv:fld x
   ·have l:=Ab (Aa z hv);have bj:=Ab hv;clear hv z A;go_wp2_with (go_at_call 95;refine(Aa bw x an nn cn a4 a5 a6 _ bE (Aa bC).symm ak bD).mono ?_;rintro e w2 ⟨rfl,C⟩;rw[Aa bj])
    go_ret
    exact⟨Aa l,f.trans (C.mono f.size)⟩
   ·have ac:=Ab (Aa A hv);have bj:=Ab hv;clear hv z A;go_wp2_with (go_at_call 95;refine(Aa bw x an nn cn a4 a5 a6 _ bE (Aa bC).symm ak bD).mono ?_;rintro e w2 ⟨rfl,C⟩;rw[Aa bj])
    go_roundw
    case rel=>exact⟨k+1,Aa D,by go_num,f.trans (C.mono f.size),ac⟩
    case measure=>have:=Aa D;simp[intOf];omega
  ·have e:k=n:=by omega
   have bF:=Ab (show N.all fld=R from(Pr N).2 (fun j aq=>Aa ar j aq (by have:=Aa aj;omega)));have aL:=Ab (Xr (Aa bW) (Aa bF));have b3:=Ab (show(N.map Nd.kids).length=n by rw[zU];exact Aa aj);subst e;have bk:=Ab H;clear ar au H;go_wp2_with fail
   go_loopw [9,44] (fun v i wr=>∃ (q:Nat) (O:List Int),q<=m/\i=U .i64 q/\An w wr/\Hid (∀j,(h:j<L.length)->j<q->Sn L j h=R)/\Hid (Na (N.map Nd.kids) k ((L.take q).flatMap Az)=O)/\O.length<=4*k+2*q/\wr.ownsRow w.heap.size 3 1 v O.length (Aw O)) (fun _ i _=>m-(intOf i).toNat)
   case atStart=>exact⟨0,[],by omega,rfl,Aa bk,Ab (fun j h h'=>absurd h' (by omega)),Ab (by simp[Na]),by simp,World.ownsRow_nil _ _ _ _⟩
   case round=>
    obtain⟨q,O,ck,rfl,H,ar,aM,cl,a8⟩:=hrel;obtain⟨cm,co,rfl,bl⟩:=Ae a8;by_cases au:q<m
    ·have bh:(q:Int)<(m:Int):=by omega
     have S:q<L.length:=by rw[Aa aF];exact au
     have ak:=aU.sizes L[q] (zH S);obtain⟨bz,bA,rfl,bB,c0,c1,c2,c3⟩:=(aU.below H NLN).cells q S;have z:=Ab (show CY (decide (q+1=m)) L[q]=jA->Ez fld k m N L (jF (.bool jA))from fun e=>Gc (fun h=>by
      have:=(Me L).1 h.2.2.1 q S;rw[Sn,Aa aF,e]at this;cases this))
     have A:=Ab (show CY (decide (q+1=m)) L[q]=R->∀j,(h:j<L.length)->j<q+1->Sn L j h=R from fun e j aq h'=>by
      by_cases aV:j=q
      ·subst aV;rw[Sn,Aa aF];exact e
      ·exact Aa ar j aq (by omega))
     have B:=Ab (show Na (N.map Nd.kids) k ((L.take (q+1)).flatMap Az)=(Az L[q]).foldl (fun o r=>Ba (N.map Nd.kids) k r o) O by rw[So L q S,Xt,Aa aM]);have D:=Ab au;clear ar aM bl;generalize L[q]=s at c0 c1 c2 c3 ak z A B;obtain⟨kind,name,cond,grant⟩:=s;simp only at c0 c1 c2 c3 ak;have al:=Ah.new wr #[U .i64 kind,Q name,U .i64 cond,U .i64 grant] 93;have f:=H.alloc H.size (Xz kind name cond grant);have aB:=a8.alloc (Xz kind name cond grant);have aN:=LE a8;have bG:(wr.alloc (Xz kind name cond grant)).heap.size=wr.heap.size+1:=by simp
     have E:=Ab (fun r O=>by have:=Oi (K:=N.map Nd.kids) (Aa aL) k r O;rw[Aa b3]at this;exact this);by_cases a9:q+1=m
     ·have b4:((q:Int)==(m:Int)-1)=R:=zF.2 (by omega);rw[zN a9]at z A;clear a9;by_cases P:kind=1
      ·have e1:(kind==1)=R:=zF.2 P;subst P;have l:=Ab (Aa z (by simp[CY]));clear z A B E;go_wp2
       go_ret
       exact⟨Aa l,f⟩
      have e1:(kind==1)=jA:=zA.2 P;by_cases ad:kind=2
      ·have e2:(kind==2)=R:=zF.2 ad;subst ad;clear P;have l:=Ab (Aa z (by simp[CY]));clear z A B E;go_wp2
       go_ret
       exact⟨Aa l,f⟩
      have e2:(kind==2)=jA:=zA.2 ad;by_cases av:kind=3
      ·have e3:(kind==3)=R:=zF.2 av;subst av;clear P ad;by_cases ae:name.size=0
       ·have en:=Xs ae;by_cases kc:cond= -1
        ·have b5:(cond== -1)=R:=zF.2 kc;subst kc;by_cases aG: -1<=grant
         ·by_cases aW: 0<=grant
          ·have ac:=Ab (Aa A (by simp[CY,ae,aG]));obtain⟨af,aH⟩:∃af,Hid (Ba (N.map Nd.kids) k grant O=af):=⟨_,Ab rfl⟩
           have b6:af.length<=max O.length (k+3*k)+1:=by rw[<-Aa aH];exact Aa E grant O
           have aw:=Ab (show Na (N.map Nd.kids) k ((L.take (q+1)).flatMap Az)=af by rw[Aa B];rw[<-Aa aH];simp[Az,aW]);clear z A B;go_wp2_with (go_at_call 97;refine(GU _ k c N w w.heap.size h1 NLN ab (Aa aL) k grant O _ _ ab (.inl (zx (Aa aj))) (by omega) f f.size aB).mono ?_;rintro e b7 ⟨b8,rfl,aX,bm,K5⟩;rw[Aa aH]at aX;have bn:=f.trans bm)
           go_roundw
           case rel=>exact⟨q+1,af,Aa D,by go_num,bn,ac,aw,by omega,aX⟩
           case measure=>have:=Aa D;simp[intOf];omega
          ·have ac:=Ab (Aa A (by simp[CY,ae,aG]));have aw:=Ab (show Na (N.map Nd.kids) k ((L.take (q+1)).flatMap Az)=O by rw[Aa B];simp[Az,aW]);clear z A B;go_wp2
           go_roundw
           case rel=>exact⟨q+1,O,Aa D,by go_num,f,ac,aw,by omega,aB⟩
           case measure=>have:=Aa D;simp[intOf];omega
         ·have l:=Ab (Aa z (by simp[CY,aG]));clear z A B E;go_wp2
          go_ret
          exact⟨Aa l,f⟩
        ·have b5:(cond== -1)=jA:=zA.2 kc;have l:=Ab (Aa z (by simp[CY,kc]));clear z A B E;go_wp2
         go_ret
         exact⟨Aa l,f⟩
       ·have en:=CS ae;have l:=Ab (Aa z (by simp[CY,ae]));clear z A B E;go_wp2
        go_ret
        exact⟨Aa l,f⟩
      have e3:(kind==3)=jA:=zA.2 av;have l:=Ab (Aa z (by simp[CY,P,ad,av]));clear z A B E;go_wp2
      go_ret
      exact⟨Aa l,f⟩
     ·have b4:((q:Int)==(m:Int)-1)=jA:=zA.2 (by omega);rw[zI a9]at z A;clear a9;by_cases P:kind=1
      ·have e1:(kind==1)=R:=zF.2 P;subst P;cases hi:Ek name
       ·have Hi:=Ab hi;clear hi;have l:=Ab (Aa z (by simp[CY,Aa Hi]));clear z A B E;go_wp2_with (go_at_call 96;refine(EU _ _ ak).mono ?_;rintro e w2 ⟨rfl,C⟩;rw[Aa Hi];have ax:=f.trans (C.mono f.size);have aC:=al.after C NLN;have ba:=Af aB C NLN;have bb:=C.size;obtain⟨aO,aP,aQ,aR,aS⟩:=BN aC)
        go_ret
        exact⟨Aa l,ax⟩
       ·have Hi:=Ab hi;clear hi;by_cases ay: 0<=cond
        ·by_cases bc:grant= -1
         ·have b9:(grant== -1)=R:=zF.2 bc;subst bc;have ac:=Ab (Aa A (by simp[CY,Aa Hi,ay]));obtain⟨F,ag⟩:∃F,Hid (Ba (N.map Nd.kids) k cond O=F):=⟨_,Ab rfl⟩
          have bH:F.length<=max O.length (k+3*k)+1:=by rw[<-Aa ag];exact Aa E cond O
          have aw:=Ab (show Na (N.map Nd.kids) k ((L.take (q+1)).flatMap Az)=F by rw[Aa B];rw[<-Aa ag];simp[Az,ay]);clear z A B;go_wp2_with (first|(go_at_call 96;refine(EU _ _ ak).mono ?_;rintro e w2 ⟨rfl,C⟩;rw[Aa Hi];have ax:=f.trans (C.mono f.size);have aC:=al.after C NLN;have ba:=Af aB C NLN;have bb:=C.size;obtain⟨aO,aP,aQ,aR,aS⟩:=BN aC)|(go_at_call 97;refine(GU _ k c N w w.heap.size h1 NLN ab (Aa aL) k cond O _ w2 ab (.inl (zx (Aa aj))) (by omega) ax ax.size ba).mono ?_;rintro e bo ⟨aY,rfl,ah,aZ,aD⟩;rw[Aa ag]at ah;have aI:=ax.trans aZ;have a0:=aC.keep aD aN;have bI:aY.ownBlock≠some wr.heap.size:=(fun e=>by rcases aD.2.1 _ e with x|x;exact aN x;(have:=bb;simp at this;omega));obtain⟨bJ,c4,rfl,_⟩:=Ae ah;obtain⟨bK,bL,bM,bN,bO⟩:=BN a0))
          go_roundw
          case rel=>exact⟨q+1,F,Aa D,by go_num,aI,ac,aw,by omega,ah⟩
          case measure=>have:=Aa D;simp[intOf];omega
         ·have b9:(grant== -1)=jA:=zA.2 bc;have l:=Ab (Aa z (by simp[CY,Aa Hi,bc]));clear z A B E;go_wp2_with (go_at_call 96;refine(EU _ _ ak).mono ?_;rintro e w2 ⟨rfl,C⟩;rw[Aa Hi];have ax:=f.trans (C.mono f.size);have aC:=al.after C NLN;have ba:=Af aB C NLN;have bb:=C.size;obtain⟨aO,aP,aQ,aR,aS⟩:=BN aC)
          go_ret
          exact⟨Aa l,ax⟩
        ·have l:=Ab (Aa z (by simp[CY,Aa Hi,ay]));clear z A B E;go_wp2_with (go_at_call 96;refine(EU _ _ ak).mono ?_;rintro e w2 ⟨rfl,C⟩;rw[Aa Hi];have ax:=f.trans (C.mono f.size);have aC:=al.after C NLN;have ba:=Af aB C NLN;have bb:=C.size;obtain⟨aO,aP,aQ,aR,aS⟩:=BN aC)
         go_ret
         exact⟨Aa l,ax⟩
      have e1:(kind==1)=jA:=zA.2 P;by_cases ad:kind=2
      ·have e2:(kind==2)=R:=zF.2 ad;subst ad;clear P;by_cases ae:name.size=0
       ·have en:=Xs ae;by_cases ay: 0<=cond
        ·by_cases aG: -1<=grant
         ·by_cases aW: 0<=grant
          ·have ac:=Ab (Aa A (by simp[CY,ae,ay,aG]));obtain⟨F,ag⟩:∃F,Hid (Ba (N.map Nd.kids) k cond O=F):=⟨_,Ab rfl⟩
           have bH:F.length<=max O.length (k+3*k)+1:=by rw[<-Aa ag];exact Aa E cond O
           obtain⟨af,aH⟩:∃af,Hid (Ba (N.map Nd.kids) k grant F=af):=⟨_,Ab rfl⟩
           have b6:af.length<=max F.length (k+3*k)+1:=by rw[<-Aa aH];exact Aa E grant F
           have aw:=Ab (show Na (N.map Nd.kids) k ((L.take (q+1)).flatMap Az)=af by rw[Aa B];rw[<-Aa aH,<-Aa ag];simp[Az,ay,aW]);clear z A B;go_wp2_with (first|(go_at_call 97;refine(GU _ k c N w w.heap.size h1 NLN ab (Aa aL) k grant F _ bo ab (.inl (zx (Aa aj))) (by omega) aI aI.size ah).mono ?_;rintro e b7 ⟨b8,rfl,aX,bm,K5⟩;rw[Aa aH]at aX;have bn:=aI.trans bm)|(go_at_call 97;refine(GU _ k c N w w.heap.size h1 NLN ab (Aa aL) k cond O _ _ ab (.inl (zx (Aa aj))) (by omega) f f.size aB).mono ?_;rintro e bo ⟨aY,rfl,ah,aZ,aD⟩;rw[Aa ag]at ah;have aI:=f.trans aZ;have a0:=al.keep aD aN;have bI:aY.ownBlock≠some wr.heap.size:=(fun e=>by rcases aD.2.1 _ e with x|x;exact aN x;(have:=bG;omega));obtain⟨bJ,c4,rfl,_⟩:=Ae ah;obtain⟨bK,bL,bM,bN,bO⟩:=BN a0))
           go_roundw
           case rel=>exact⟨q+1,af,Aa D,by go_num,bn,ac,aw,by omega,aX⟩
           case measure=>have:=Aa D;simp[intOf];omega
          ·have ac:=Ab (Aa A (by simp[CY,ae,ay,aG]));obtain⟨F,ag⟩:∃F,Hid (Ba (N.map Nd.kids) k cond O=F):=⟨_,Ab rfl⟩
           have bH:F.length<=max O.length (k+3*k)+1:=by rw[<-Aa ag];exact Aa E cond O
           have aw:=Ab (show Na (N.map Nd.kids) k ((L.take (q+1)).flatMap Az)=F by rw[Aa B];rw[<-Aa ag];simp[Az,ay,aW]);clear z A B;go_wp2_with (go_at_call 97;refine(GU _ k c N w w.heap.size h1 NLN ab (Aa aL) k cond O _ _ ab (.inl (zx (Aa aj))) (by omega) f f.size aB).mono ?_;rintro e bo ⟨aY,rfl,ah,aZ,aD⟩;rw[Aa ag]at ah;have aI:=f.trans aZ;have a0:=al.keep aD aN;have bI:aY.ownBlock≠some wr.heap.size:=(fun e=>by rcases aD.2.1 _ e with x|x;exact aN x;(have:=bG;omega));obtain⟨bJ,c4,rfl,_⟩:=Ae ah;obtain⟨bK,bL,bM,bN,bO⟩:=BN a0)
           go_roundw
           case rel=>exact⟨q+1,F,Aa D,by go_num,aI,ac,aw,by omega,ah⟩
           case measure=>have:=Aa D;simp[intOf];omega
         ·have l:=Ab (Aa z (by simp[CY,aG]));clear z A B E;go_wp2
          go_ret
          exact⟨Aa l,f⟩
        ·have l:=Ab (Aa z (by simp[CY,ay]));clear z A B E;go_wp2
         go_ret
         exact⟨Aa l,f⟩
       ·have en:=CS ae;have l:=Ab (Aa z (by simp[CY,ae]));clear z A B E;go_wp2
        go_ret
        exact⟨Aa l,f⟩
      have e2:(kind==2)=jA:=zA.2 ad;by_cases av:kind=3
      ·have e3:(kind==3)=R:=zF.2 av;subst av;clear P ad;have l:=Ab (Aa z (by simp[CY]));clear z A B E;go_wp2
       go_ret
       exact⟨Aa l,f⟩
      have e3:(kind==3)=jA:=zA.2 av;have l:=Ab (Aa z (by simp[CY,P,ad,av]));clear z A B E;go_wp2
      go_ret
      exact⟨Aa l,f⟩
    ·have e:q=m:=by omega
     subst e;have bP:L.take q=L:=zf (by rw[Aa aF];exact NLN);rw[bP]at aM;clear bP;have ca:=Ab (show GV L=R from(Me L).2 (fun j h=>Aa ar j h (by have:=Aa aF;omega)));have bd:=Ab (show Kn N L↔GV L=R/\O.length=k/\good O/\∀r∈L.flatMap Az,BR (N.map Nd.kids) k r<=64 by
      rw[Kn,Aa aj];rw[<-Aa aM];exact Iff.rfl)
     have bQ:=Ab bl;clear ar bl;by_cases a1:O.length=k
     case neg=>
      have cb:((O.length:Int)!=(k:Int))=R:=zp.2 (by omega);have l:=Ab (Gc (fld:=fld) (n:=k) (m:=q) (N:=N) (L:=L) (fun h=>a1 ((Aa bd).1 h.2.2).2.1));clear a1;go_wp2
      go_ret
      exact⟨Aa l,H⟩
     have cb:((O.length:Int)!=(k:Int))=jA:=by rw[a1];simp
     have bR:=Ab a1;clear a1;go_wp2_with fail
     go_loop [138] (fun i=>∃j:Nat,j<=O.length/\i=U .i64 j/\Hid (∀p,(h:p<O.length)->p<j->O[p]=(p:Int))) (fun i=>O.length-(intOf i).toNat)
     case atStart=>exact⟨0,by omega,rfl,Ab (fun p h h'=>absurd h' (by omega))⟩
     case round=>
      obtain⟨j,aq,rfl,bf⟩:=hrel;by_cases bp:j<O.length
      ·have cc:(j:Int)<(O.length:Int):=by omega
       obtain⟨g,rfl,cp,bS⟩:=Aa bQ (by omega);have cd:=bS j _ (show(Aw O)[j]? =some (U .i64 O[j]) by rw[Aw,zk,zL bp];rfl);have J:=Ab (show O[j]=(j:Int)->∀p,(h:p<O.length)->p<j+1->O[p]=(p:Int)from fun e p h h'=>by
        by_cases aV:p=j
        ·subst aV;exact e
        ·exact Aa bf p h (by omega))
       have M:=Ab (show O[j]≠(j:Int)->Ez fld k q N L (jF (.bool jA))from fun e=>Gc (fun h=>e ((Xo O).1 ((Aa bd).1 h.2.2).2.2.1 j bp)));have bT:=Ab bp;clear bS bf;generalize O[j]=y at cd J M;by_cases hy:y=(j:Int)
       ·have ce:((j:Int)!=y)=jA:=by rw[hy];simp
        have az:=Ab (Aa J hy);clear hy J M;go_wp2
        go_round
        case rel=>exact⟨j+1,Aa bT,by go_num,az⟩
        case measure=>have:=Aa bT;simp[intOf];omega
       ·have ce:((j:Int)!=y)=R:=zp.2 (fun e=>hy e.symm);have l:=Ab (Aa M hy);clear hy J M;go_wp2
        go_ret
        exact⟨Aa l,H⟩
      ·have bU:=Ab (show good O from(Xo O).2 (fun p h=>Aa bf p h (by omega)));have bV:=Ab (YW (N:=N) (n:=k) (rs:=L.flatMap Az) (Aa aj) (by rw[Aa aM];exact Aa bR) (by rw[Aa aM];exact Aa bU));have cc: ¬ ((j:Int)<(O.length:Int)):=by omega
       have bk:=Ab H;clear bf bQ a8 H;go_wp2_with fail
       go_loopw [149] (fun i wr=>∃p:Nat,p<=q/\i=U .i64 p/\An w wr/\Hid (∀r∈(L.take p).flatMap Az,BR (N.map Nd.kids) k r<=64)) (fun i _=>q-(intOf i).toNat)
       case atStart=>exact⟨0,by omega,rfl,Aa bk,Ab (by simp)⟩
       case round=>
        obtain⟨p,hp,rfl,H,bg⟩:=hrel;by_cases au:p<q
        ·have bh:(p:Int)<(q:Int):=by omega
         have S:p<L.length:=by rw[Aa aF];exact au
         obtain⟨bz,bA,rfl,bB,c0,c1,c2,c3⟩:=(aU.below H NLN).cells p S;have W:=Ab (show ∀r∈Az L[p],(0<=r/\r<(k:Int))/\r∈L.flatMap Az from fun r I=>by
          have hm:r∈L.flatMap Az:=Z2.2 ⟨L[p],zH S,I⟩;exact⟨(Aa bV).2 r hm,hm⟩)
         have M:=Ab (show ∀r∈Az L[p],¬ BR (N.map Nd.kids) k r<=64->Ez fld k q N L (jF (.bool jA))from fun r I e=>Gc (fun h=>e (((Aa bd).1 h.2.2).2.2.2 r (Aa W r I).2)));have aa:=Ab (show(∀r∈Az L[p],BR (N.map Nd.kids) k r<=64)->∀r∈(L.take (p+1)).flatMap Az,BR (N.map Nd.kids) k r<=64 from fun e r I=>by
          rw[So L p S]at I;rcases zM.1 I with x|x
          ·exact Aa bg r x
          ·exact e r x)
         have D:=Ab au;clear bg;generalize L[p]=s at c0 c1 c2 c3 W M aa;obtain⟨kind,name,cond,grant⟩:=s;simp only at c0 c1 c2 c3;have al:=Ah.new wr #[U .i64 kind,Q name,U .i64 cond,U .i64 grant] 93;have f:=H.alloc H.size (Xz kind name cond grant);have aE:=Ab (Aa bV).1;have br:=Ab (Ok (N.map Nd.kids) k);by_cases it: 0<=cond
         ·obtain⟨⟨cq,cr⟩,_⟩:=Aa W cond (by simp[Az,it]);obtain⟨t,rfl⟩:∃t:Nat,cond=(t:Int):=⟨cond.toNat,by omega⟩
          obtain⟨aT,ao⟩:∃aT,Hid (BR (N.map Nd.kids) k (t:Int)=aT):=⟨_,Ab rfl⟩
          have cs:aT<=k+1:=by rw[<-Aa ao];exact Aa br _
          by_cases ct: 64<aT
          ·have cf:(64 :Int)<(aT:Int):=by omega
           have l:=Ab (Aa M (t:Int) (by simp[Az,it]) (by rw[Aa ao];omega));clear M aa W;go_wp2_with (go_at_call 98;refine(Dg _ k c N w h1 (Aa aE) k t _ (by omega) (by omega) (by omega) f).mono ?_;rintro e a2 ⟨rfl,ap⟩;rw[Aa ao];have ai:=f.trans (ap.mono f.size))
           go_ret
           exact⟨Aa l,ai⟩
          ·have cf: ¬ ((64 :Int)<(aT:Int)):=by omega
           by_cases aA: 0<=grant
           ·obtain⟨⟨cg,ch⟩,_⟩:=Aa W grant (by simp[Az,aA]);obtain⟨u,rfl⟩:∃u:Nat,grant=(u:Int):=⟨grant.toNat,by omega⟩
            obtain⟨G,J⟩:∃G,Hid (BR (N.map Nd.kids) k (u:Int)=G):=⟨_,Ab rfl⟩
            have ci:G<=k+1:=by rw[<-Aa J];exact Aa br _
            by_cases cj: 64<G
            ·have bs:(64 :Int)<(G:Int):=by omega
             have l:=Ab (Aa M (u:Int) (by simp[Az,aA]) (by rw[Aa J];omega));clear M aa W;go_wp2_with (first|(go_at_call 98;refine(Dg _ k c N w h1 (Aa aE) k u a2 (by omega) (by omega) (by omega) ai).mono ?_;rintro e bt ⟨rfl,aJ⟩;rw[Aa J];have aK:=ai.trans (aJ.mono ai.size))|(go_at_call 98;refine(Dg _ k c N w h1 (Aa aE) k t _ (by omega) (by omega) (by omega) f).mono ?_;rintro e a2 ⟨rfl,ap⟩;rw[Aa ao];have ai:=f.trans (ap.mono f.size);obtain⟨aO,aP,aQ,aR,aS⟩:=BN (al.after ap NLN)))
             go_ret
             exact⟨Aa l,aK⟩
            ·have bs: ¬ ((64 :Int)<(G:Int)):=by omega
             have az:=Ab (Aa aa (by intro r I;simp[Az,it,aA]at I;rcases I with rfl|rfl;rw[Aa ao];omega;rw[Aa J];omega));clear M aa W;go_wp2_with (first|(go_at_call 98;refine(Dg _ k c N w h1 (Aa aE) k u a2 (by omega) (by omega) (by omega) ai).mono ?_;rintro e bt ⟨rfl,aJ⟩;rw[Aa J];have aK:=ai.trans (aJ.mono ai.size))|(go_at_call 98;refine(Dg _ k c N w h1 (Aa aE) k t _ (by omega) (by omega) (by omega) f).mono ?_;rintro e a2 ⟨rfl,ap⟩;rw[Aa ao];have ai:=f.trans (ap.mono f.size);obtain⟨aO,aP,aQ,aR,aS⟩:=BN (al.after ap NLN)))
             go_roundw
             case rel=>exact⟨p+1,Aa D,by go_num,aK,az⟩
             case measure=>have:=Aa D;simp[intOf];omega
           ·have az:=Ab (Aa aa (by intro r I;simp[Az,it,aA]at I;rw[I,Aa ao];omega));clear M aa W;go_wp2_with (go_at_call 98;refine(Dg _ k c N w h1 (Aa aE) k t _ (by omega) (by omega) (by omega) f).mono ?_;rintro e a2 ⟨rfl,ap⟩;rw[Aa ao];have ai:=f.trans (ap.mono f.size);obtain⟨aO,aP,aQ,aR,aS⟩:=BN (al.after ap NLN))
            go_roundw
            case rel=>exact⟨p+1,Aa D,by go_num,ai,az⟩
            case measure=>have:=Aa D;simp[intOf];omega
         ·by_cases aA: 0<=grant
          ·obtain⟨⟨cg,ch⟩,_⟩:=Aa W grant (by simp[Az,aA]);obtain⟨u,rfl⟩:∃u:Nat,grant=(u:Int):=⟨grant.toNat,by omega⟩
           obtain⟨G,J⟩:∃G,Hid (BR (N.map Nd.kids) k (u:Int)=G):=⟨_,Ab rfl⟩
           have ci:G<=k+1:=by rw[<-Aa J];exact Aa br _
           by_cases cj: 64<G
           ·have bs:(64 :Int)<(G:Int):=by omega
            have l:=Ab (Aa M (u:Int) (by simp[Az,aA]) (by rw[Aa J];omega));clear M aa W;go_wp2_with (go_at_call 98;refine(Dg _ k c N w h1 (Aa aE) k u _ (by omega) (by omega) (by omega) f).mono ?_;rintro e bt ⟨rfl,aJ⟩;rw[Aa J];have aK:=f.trans (aJ.mono f.size))
            go_ret
            exact⟨Aa l,aK⟩
           ·have bs: ¬ ((64 :Int)<(G:Int)):=by omega
            have az:=Ab (Aa aa (by intro r I;simp[Az,it,aA]at I;rw[I,Aa J];omega));clear M aa W;go_wp2_with (go_at_call 98;refine(Dg _ k c N w h1 (Aa aE) k u _ (by omega) (by omega) (by omega) f).mono ?_;rintro e bt ⟨rfl,aJ⟩;rw[Aa J];have aK:=f.trans (aJ.mono f.size))
            go_roundw
            case rel=>exact⟨p+1,Aa D,by go_num,aK,az⟩
            case measure=>have:=Aa D;simp[intOf];omega
          ·have az:=Ab (Aa aa (by intro r I;simp[Az,it,aA]at I));clear M aa W;go_wp2
           go_roundw
           case rel=>exact⟨p+1,Aa D,by go_num,f,az⟩
           case measure=>have:=Aa D;simp[intOf];omega
        ·have ao:=Ab (show ∀r∈L.flatMap Az,BR (N.map Nd.kids) k r<=64 by
          have e:L.take p=L:=zf (by rw[Aa aF];omega);have:=Aa bg;rw[e]at this;exact this)
         have l:=Ab (show Ez fld k q N L (jF (.bool R))from⟨R,rfl,⟨fun _=>⟨⟨ab,b1,b0⟩,Aa bF,(Aa bd).2 ⟨Aa ca,Aa bR,Aa bU,Aa ao⟩⟩,fun _=>rfl⟩⟩);have bh: ¬ ((p:Int)<(q:Int)):=by omega
         clear bg;go_wp2
         go_ret
         exact⟨Aa l,H⟩
theorem Xu (a b:Option Addr)(n c m d:Nat)(N:List Nd)(L:List St)(w:World)(h1:IY w a n c N)(f:Ss w b m d L):
  Calls jL 72 #[X a n c,X b m d,.bool jA] w fun e w'=>Ez Bo n m N L e/\An w w':=
 Pa jA Bo U0 (fun x h=>by rw[QI,zD]at h;exact of_decide_eq_true h.1) a b n c m d N L w h1 f
end Go.Proofs.YtppafecmccdplaaGreat

import Derived.Test.YtnjpihpohilnjaaGreatDoorMXAH
open List renaming length->T
open Array renaming size->R
open Bool renaming true->jD,false->jE
namespace Go.Proofs.YtnjpihpohilnjaaGreatDoor
open Proofs.Tryz
open Value renaming int->V,slice->Y,ownBlock->jL
open World renaming heap->Z,ownsRow->jO
open Ending renaming returned->jN
open Proofs.Tryz renaming prog->jZ
set_option maxRecDepth 100000
set_option maxHeartbeats 32000000
open Go.RowKit
set_option linter.unusedVariables false
variable{N:L6}{n m:Nat}{fld:Nd->Bool}
def Er (fld:Nd->Bool) (n m:Nat) (N:L6) (L:L9) (e:Ending):Prop:=∃b:Bool,e=jN (.bool b)/\(b=jD↔(n<=4000/\1<=m/\m<=600)/\N.all fld=jD/\Kz N L)
def Alu (ty:Bool) (fld:Nd->Bool):Prop:=∀(x:Nd) (an:L0 Addr) (nn cn:Nat) (ak:L0 Addr) (nk ck:Nat) (w:World),Aq w an nn cn x.aB->nk=T x.aD->x.text.size<=1048576->nk<=1048576->Calls jZ 122 #[ndV x.op x.num x.text an nn cn ak nk ck,.bool ty] w λe w'=>e=jN (.bool<|fld x)/\Ai w w'
theorem Pi (L:L6):L.all fld=jD↔∀j,(h:j<T L)->fld L[j]=jD:=by grind [zI,zq,zw]
theorem Yh (b:∀x,fld x=jD->(T x.aD:Int)=BY x.op)(h:N.all fld=jD):∀a∈N.map Nd.aD,T a<=3:=by
 intro a c;obtain⟨x,hx,rfl⟩:=zc.1 c;have:=b x<|zq.1 h x hx;have:BY x.op<=3:=by unfold BY;repeat' split<;>try decide
 omega
theorem FT {L:L9}(h: ¬ ((n<=4000/\1<=m/\m<=600)/\N.all fld=jD/\Kz N L)):Er fld n m N L<|jN<|.bool jE:=⟨jE,rfl,by constructor<;>intro k;cases k;exact H9 k h⟩
theorem Yi {s:K9}(h:s.size=0):s.toList.isEmpty=jD:=by simp_all
theorem ZW {w:World}{base:Nat}{e:TypeId}{size:Nat}{v:Value}{n:Nat}{a:List Value}(h:jO w base e size v n a):jL v≠some (R<|Z w):=λk=>H2<|(h.lt _ k).2
theorem OP (ty:Bool)(fld:Nd->Bool)(hF:Alu ty fld)(bU:∀x,fld x=jD->(T x.aD:Int)=BY x.op)(a b:L0 Addr)(n c m d:Nat)(N:L6)(L:L9)(w:World)(E:IN w a n c N)(aU:Po w b m d L):
  Calls jZ 97 #[Y a n c,Y b m d,.bool ty] w λe w'=>Er fld n m N L e/\Ai w w':=by
 have bt:=Ab hF;have bV:=Ab bU;have s1:=E.aJ;have s2:=aU.aJ;have af:=Ab E.len;have aE:=Ab aU.len;go_enter func97,ntmps97
 by_cases cm: 4000<n
 .have bW:(4000 :Int)<(n:Int):=Oa;go_wp2
  go_ret
  exact⟨Aa<|Ab<|FT (fld:=fld) (n:=n) (m:=m) (N:=N) (L:=L) λh=>Oa,BRN⟩
 have bW: ¬ ((4000 :Int)<(n:Int)):=Oa;by_cases hm:m<1
 .have bX:(m:Int)<1:=Oa;go_wp2
  go_ret
  exact⟨Aa<|Ab<|FT (fld:=fld) (n:=n) (m:=m) (N:=N) (L:=L) λh=>Oa,BRN⟩
 have bX: ¬ ((m:Int)<1):=Oa;by_cases co: 600<m
 .have bY:(600 :Int)<(m:Int):=Oa;go_wp2
  go_ret
  exact⟨Aa<|Ab<|FT (fld:=fld) (n:=n) (m:=m) (N:=N) (L:=L) λh=>Oa,BRN⟩
 have bY: ¬ ((600 :Int)<(m:Int)):=Oa;have P:n<=4000:=Oa;have bZ:m<=600:=Oa;have b0: 1<=m:=Oa;go_wp2_with fail
 go_loopw [33] (λi wr=>∃k:Nat,k<=n/\i=V .i64 k/\Ai w wr/\Hid (∀j,(aj:j<T N)->j<k->fld N[j]=jD)) (λi _=>n-(intOf i).toNat)
 case atStart=>exact⟨0,Oa,rfl,BRN,Ab λj aj h=>H9 h Oa⟩
 case round=>
  obtain⟨k,cp,rfl,H,aV⟩:=hrel;by_cases ax:k<n
  .have bg:(k:Int)<(n:Int):=Oa;have M:k<T N:=by rw[Aa af];exact ax
   have ag:=E.bC N[k]<|zI M;obtain⟨bu,bv,rfl,bw,an,nn,cn,a8,a9,ba,c0,c1,c2,c3,c4,bx,bh⟩:=(E.below H NLN).cells k M;have C:=Ab (show fld N[k]=jE->Er fld n m N L (jN<|.bool jE)from λe=>FT (λh=>by
    have:=(Pi N).1 h.2.1 k M;rw[this]at e;cases e))
   have S:=Ab (show fld N[k]=jD->∀j,(aj:j<T N)->j<k+1->fld N[j]=jD from λe j aj aN=>by
    by_cases aW:j=k
    .subst aW;exact e
    .exact Aa aV j aj Oa)
   have B:=Ab ax;generalize N[k]=x at c0 c1 c2 c3 c4 bx bh ag C S;have bz:=Ab bh.len;have bA:=bh.aJ;have f:=H.alloc H.size<|EQ x.op x.num x.text an nn cn a8 a9 ba;have b1:=AE wr<|EQ x.op x.num x.text an nn cn a8 a9 ba;have bB:=bx.below b1 NLN;cases hv:fld x
   .have I:=Ab<|Aa C hv;have bi:=Ab hv;go_wp2_with (go_at_call 122;refine(Aa bt x an nn cn a8 a9 ba _ bB (Aa bz).symm ag bA).mono ?_;rintro e w2 ⟨rfl,A⟩;rw[Aa bi])
    go_ret
    exact⟨Aa I,f.trans<|A.mono f.size⟩
   .have W:=Ab<|Aa S hv;have bi:=Ab hv;go_wp2_with (go_at_call 122;refine(Aa bt x an nn cn a8 a9 ba _ bB (Aa bz).symm ag bA).mono ?_;rintro e w2 ⟨rfl,A⟩;rw[Aa bi])
    go_roundw
    case rel=>exact⟨k+1,Aa B,O1,f.trans<|A.mono f.size,W⟩
    case measure=>have:=Aa B;simp[intOf];omega
  .have e:k=n:=Oa;have bD:=Ab<|show N.all fld=jD from(Pi N).2 (λj aj=>Aa aV j aj<|H2<|Aa af);have aO:=Ab<|Yh (Aa bV)<|Aa bD;have b2:=Ab (show T (N.map Nd.aD)=n by rw[zN];exact Aa af);subst e;have bj:=Ab H;go_wp2_with fail
   go_loopw [9,44] (λv i wr=>∃ (q:Nat) (O:L2),q<=m/\i=V .i64 q/\Ai w wr/\Hid (∀j,(h:j<T L)->j<q->So L j h=jD)/\Hid (Nl (N.map Nd.aD) k ((L.take q).flatMap Ax)=O)/\T O<=4*k+2*q/\jO wr (R<|Z w) 3 1 v (T O) (Ak O)) (λ_ i _=>m-(intOf i).toNat)
   case atStart=>exact⟨0,[],Oa,rfl,Aa bj,Ab λj h aN=>H9 aN Oa,Ab<|by simp[Nl],Ox,H3⟩
   case round=>
    obtain⟨q,O,hq,rfl,H,aV,aX,cq,bk⟩:=hrel;obtain⟨cr,cs,rfl,b3⟩:=Ae bk;by_cases ax:q<m
    .have bg:(q:Int)<(m:Int):=Oa;have M:q<T L:=by rw[Aa aE];exact ax
     have ag:=aU.bC L[q]<|zI M;obtain⟨bu,bv,rfl,bw,c0,c1,c2,c3⟩:=(aU.below H NLN).cells q M;have C:=Ab (show CS (decide (q+1=m)) L[q]=jE->Er fld k m N L (jN<|.bool jE)from λe=>FT (λh=>by
      have:=(Mf L).1 h.2.2.1 q M;rw[So,Aa aE,e]at this;cases this))
     have S:=Ab (show CS (decide (q+1=m)) L[q]=jD->∀j,(h:j<T L)->j<q+1->So L j h=jD from λe j aj aN=>by
      by_cases aW:j=q
      .subst aW;rw[So,Aa aE];exact e
      .exact Aa aV j aj Oa)
     have aP:=Ab (show Nl (N.map Nd.aD) k ((L.take<|q+1).flatMap Ax)=(Ax L[q]).foldl (λo r=>Bc (N.map Nd.aD) k r o) O by rw[Sp L q M,Yj,Aa aX]);have B:=Ab ax;generalize L[q]=s at c0 c1 c2 c3 ag C S aP;obtain⟨z,name,cond,l⟩:=s;simp only at c0 c1 c2 c3 ag;have ah:=Ag.new wr #[V .i64 z,.string name,V .i64 cond,V .i64 l] 113;have f:=H.alloc H.size<|Yu z name cond l;have ay:=bk.alloc<|Yu z name cond l;have aQ:=ZW bk;have bE:R (Z<|World.alloc wr<|Yu z name cond l)=R (Z wr)+1:=Ox;have aY:=Ab (λr O=>by have:=Oj (K:=N.map Nd.aD) (Aa aO) k r O;rw[Aa b2]at this;exact this);by_cases bF:q+1=m
     .have b4:((q:Int)==(m:Int)-1)=jD:=zD.2 Oa;rw[zJ bF]at C S;by_cases ak:z=1
      .have e1:(z==1)=jD:=zD.2 ak;subst ak;go_wp2
       go_ret
       exact⟨Aa<|Ab<|Aa C<|by simp[CS],f⟩
      have e1:(z==1)=jE:=zA.2 ak;by_cases al:z=2
      .have e2:(z==2)=jD:=zD.2 al;subst al;go_wp2
       go_ret
       exact⟨Aa<|Ab<|Aa C<|by simp[CS],f⟩
      have e2:(z==2)=jE:=zA.2 al;by_cases ao:z=3
      .have e3:(z==3)=jD:=zD.2 ao;subst ao;by_cases aa:name.size=0
       .have en:=Yi aa;by_cases kc:cond= -1
        .have ec:(cond== -1)=jD:=zD.2 kc;subst kc;by_cases aF: -1<=l
         .by_cases aZ: 0<=l
          .have W:=Ab (Aa S<|by simp[CS,aa,aF]);obtain⟨ab,aG⟩:∃ab,Hid (Bc (N.map Nd.aD) k l O=ab):=⟨_,Ab rfl⟩
           have b5:T ab<=max (T O) (k+3*k)+1:=by rw[<-Aa aG];exact Aa aY l O
           have ap:=Ab (show Nl (N.map Nd.aD) k ((L.take<|q+1).flatMap Ax)=ab by rw[Aa aP];rw[<-Aa aG];simp[Ax,aZ]);go_wp2_with (go_at_call 124;refine(H4 _ k c N w (R<|Z w) E NLN P (Aa aO) k l O _ _ P (.inl<|zt<|Aa af) Oa f f.size ay).mono ?_;rintro e b6 ⟨b7,rfl,a0,bl,K5⟩;rw[Aa aG]at a0;have bm:=f.trans bl)
           go_roundw
           case rel=>exact⟨q+1,ab,Aa B,O1,bm,W,ap,Oa,a0⟩
           case measure=>have:=Aa B;simp[intOf];omega
          .have W:=Ab (Aa S<|by simp[CS,aa,aF]);have ap:=Ab (show Nl (N.map Nd.aD) k ((L.take<|q+1).flatMap Ax)=O by rw[Aa aP];simp[Ax,aZ]);go_wp2
           go_roundw
           case rel=>exact⟨q+1,O,Aa B,O1,f,W,ap,Oa,ay⟩
           case measure=>have:=Aa B;simp[intOf];omega
         .have I:=Ab (Aa C<|by simp[CS,aF]);go_wp2
          go_ret
          exact⟨Aa I,f⟩
        .have ec:(cond== -1)=jE:=zA.2 kc;go_wp2
         go_ret
         exact⟨Aa<|Ab<|Aa C<|by simp[CS,kc],f⟩
       .have en:=CH aa;go_wp2
        go_ret
        exact⟨Aa<|Ab<|Aa C<|by simp[CS,aa],f⟩
      have e3:(z==3)=jE:=zA.2 ao;go_wp2
      go_ret
      exact⟨Aa<|Ab<|Aa C<|by simp[CS,ak,al,ao],f⟩
     .have b4:((q:Int)==(m:Int)-1)=jE:=zA.2 Oa;rw[zH bF]at C S;by_cases ak:z=1
      .have e1:(z==1)=jD:=zD.2 ak;subst ak;cases hi:Ej name
       .have Hi:=Ab hi;go_wp2_with (go_at_call 123;refine(EP _ _ ag).mono ?_;rintro e w2 ⟨rfl,A⟩;rw[Aa Hi];have aq:=f.trans<|A.mono f.size;have az:=ah.aA A NLN;have bb:=Aj ay A NLN;have bc:=A.size;obtain⟨aR,q1,q2,aS,aT⟩:=BO az)
        go_ret
        exact⟨Aa<|Ab<|Aa C<|by simp[CS,Aa Hi],aq⟩
       .have Hi:=Ab hi;by_cases ar: 0<=cond
        .by_cases bd:l= -1
         .have b8:(l== -1)=jD:=zD.2 bd;subst bd;have W:=Ab (Aa S<|by simp[CS,Aa Hi,ar]);obtain⟨D,ac⟩:∃D,Hid (Bc (N.map Nd.aD) k cond O=D):=⟨_,Ab rfl⟩
          have bG:T D<=max (T O) (k+3*k)+1:=by rw[<-Aa ac];exact Aa aY cond O
          have ap:=Ab (show Nl (N.map Nd.aD) k ((L.take<|q+1).flatMap Ax)=D by rw[Aa aP];rw[<-Aa ac];simp[Ax,ar]);go_wp2_with (first|(go_at_call 123;refine(EP _ _ ag).mono ?_;rintro e w2 ⟨rfl,A⟩;rw[Aa Hi];have aq:=f.trans (A.mono f.size);have az:=ah.aA A NLN;have bb:=Aj ay A NLN;have bc:=A.size;obtain⟨aR,q1,q2,aS,aT⟩:=BO az)|(go_at_call 124;refine(H4 _ k c N w (R (Z w)) E NLN P (Aa aO) k cond O _ w2 P (.inl (zt (Aa af))) Oa aq aq.size bb).mono ?_;rintro e bn ⟨a1,rfl,ad,a2,aB⟩;rw[Aa ac]at ad;have aH:=aq.trans a2;have a3:=az.aM aB aQ;have bH:jL a1≠some (R (Z wr)):=(λe=>by obtain x|x:=aB.2.1 _ e;exact aQ x;(have:=bc;(try simp at this);omega));obtain⟨bI,c4,rfl,_⟩:=Ae ad;obtain⟨bJ,bK,bL,bM,bN⟩:=BO a3))
          go_roundw
          case rel=>exact⟨q+1,D,Aa B,O1,aH,W,ap,Oa,ad⟩
          case measure=>have:=Aa B;simp[intOf];omega
         .have b8:(l== -1)=jE:=zA.2 bd;go_wp2_with (go_at_call 123;refine(EP _ _ ag).mono ?_;rintro e w2 ⟨rfl,A⟩;rw[Aa Hi];have aq:=f.trans<|A.mono f.size;have az:=ah.aA A NLN;have bb:=Aj ay A NLN;have bc:=A.size;obtain⟨aR,q1,q2,aS,aT⟩:=BO az)
          go_ret
          exact⟨Aa<|Ab<|Aa C<|by simp[CS,Aa Hi,bd],aq⟩
        .have I:=Ab (Aa C<|by simp[CS,Aa Hi,ar]);go_wp2_with (go_at_call 123;refine(EP _ _ ag).mono ?_;rintro e w2 ⟨rfl,A⟩;rw[Aa Hi];have aq:=f.trans<|A.mono f.size;have az:=ah.aA A NLN;have bb:=Aj ay A NLN;have bc:=A.size;obtain⟨aR,q1,q2,aS,aT⟩:=BO az)
         go_ret
         exact⟨Aa I,aq⟩
      have e1:(z==1)=jE:=zA.2 ak;by_cases al:z=2
      .have e2:(z==2)=jD:=zD.2 al;subst al;by_cases aa:name.size=0
       .have en:=Yi aa;by_cases ar: 0<=cond
        .by_cases aF: -1<=l
         .by_cases aZ: 0<=l
          .have W:=Ab (Aa S<|by simp[CS,aa,ar,aF]);obtain⟨D,ac⟩:∃D,Hid (Bc (N.map Nd.aD) k cond O=D):=⟨_,Ab rfl⟩
           have bG:T D<=max (T O) (k+3*k)+1:=by rw[<-Aa ac];exact Aa aY cond O
           obtain⟨ab,aG⟩:∃ab,Hid (Bc (N.map Nd.aD) k l D=ab):=⟨_,Ab rfl⟩
           have b5:T ab<=max (T D) (k+3*k)+1:=by rw[<-Aa aG];exact Aa aY l D
           have ap:=Ab (show Nl (N.map Nd.aD) k ((L.take<|q+1).flatMap Ax)=ab by rw[Aa aP];rw[<-Aa aG,<-Aa ac];simp[Ax,ar,aZ]);go_wp2_with (first|(go_at_call 124;refine(H4 _ k c N w (R (Z w)) E NLN P (Aa aO) k l D _ bn P (.inl (zt (Aa af))) Oa aH aH.size ad).mono ?_;rintro e b6 ⟨b7,rfl,a0,bl,K5⟩;rw[Aa aG]at a0;have bm:=aH.trans bl)|(go_at_call 124;refine(H4 _ k c N w (R (Z w)) E NLN P (Aa aO) k cond O _ _ P (.inl (zt (Aa af))) Oa f f.size ay).mono ?_;rintro e bn ⟨a1,rfl,ad,a2,aB⟩;rw[Aa ac]at ad;have aH:=f.trans a2;have a3:=ah.aM aB aQ;have bH:jL a1≠some (R (Z wr)):=(λe=>by obtain x|x:=aB.2.1 _ e;exact aQ x;(have:=bE;omega));obtain⟨bI,c4,rfl,_⟩:=Ae ad;obtain⟨bJ,bK,bL,bM,bN⟩:=BO a3))
           go_roundw
           case rel=>exact⟨q+1,ab,Aa B,O1,bm,W,ap,Oa,a0⟩
           case measure=>have:=Aa B;simp[intOf];omega
          .have W:=Ab (Aa S<|by simp[CS,aa,ar,aF]);obtain⟨D,ac⟩:∃D,Hid (Bc (N.map Nd.aD) k cond O=D):=⟨_,Ab rfl⟩
           have bG:T D<=max (T O) (k+3*k)+1:=by rw[<-Aa ac];exact Aa aY cond O
           have ap:=Ab (show Nl (N.map Nd.aD) k ((L.take<|q+1).flatMap Ax)=D by rw[Aa aP];rw[<-Aa ac];simp[Ax,ar,aZ]);go_wp2_with (go_at_call 124;refine(H4 _ k c N w (R<|Z w) E NLN P (Aa aO) k cond O _ _ P (.inl<|zt<|Aa af) Oa f f.size ay).mono ?_;rintro e bn ⟨a1,rfl,ad,a2,aB⟩;rw[Aa ac]at ad;have aH:=f.trans a2;have a3:=ah.aM aB aQ;have bH:jL a1≠some (R<|Z wr):=(λe=>by obtain x|x:=aB.2.1 _ e;exact aQ x;(have:=bE;omega));obtain⟨bI,c4,rfl,_⟩:=Ae ad;obtain⟨bJ,bK,bL,bM,bN⟩:=BO a3)
           go_roundw
           case rel=>exact⟨q+1,D,Aa B,O1,aH,W,ap,Oa,ad⟩
           case measure=>have:=Aa B;simp[intOf];omega
         .have I:=Ab (Aa C<|by simp[CS,aF]);go_wp2
          go_ret
          exact⟨Aa I,f⟩
        .have I:=Ab (Aa C<|by simp[CS,ar]);go_wp2
         go_ret
         exact⟨Aa I,f⟩
       .have en:=CH aa;go_wp2
        go_ret
        exact⟨Aa<|Ab<|Aa C<|by simp[CS,aa],f⟩
      have e2:(z==2)=jE:=zA.2 al;by_cases ao:z=3
      .have e3:(z==3)=jD:=zD.2 ao;subst ao;go_wp2
       go_ret
       exact⟨Aa<|Ab<|Aa C<|by simp[CS],f⟩
      have e3:(z==3)=jE:=zA.2 ao;go_wp2
      go_ret
      exact⟨Aa<|Ab<|Aa C<|by simp[CS,ak,al,ao],f⟩
    .have e:q=m:=Oa;subst e;have b9:L.take q=L:=zf (by rw[Aa aE];exact NLN);rw[b9]at aX;have ca:=Ab<|show H6 L=jD from(Mf L).2 (λj h=>Aa aV j h<|H2<|Aa aE);have bf:=Ab (show Kz N L↔H6 L=jD/\T O=k/\FP O/\∀r∈L.flatMap Ax,Cn (N.map Nd.aD) k r<=64 by
      rw[Kz,Aa af];rw[<-Aa aX];exact Iff.rfl)
     have cb:=Ab b3;by_cases bo:T O=k
     case neg=>
      have cc:((T O:Int)!=(k:Int))=jD:=zV.2 Oa;have I:=Ab<|FT (fld:=fld) (n:=k) (m:=q) (N:=N) (L:=L) λh=>bo ((Aa bf).1 h.2.2).2.1;go_wp2
      go_ret
      exact⟨Aa I,H⟩
     have cc:((T O:Int)!=(k:Int))=jE:=by rw[bo];simp
     have bO:=Ab bo;go_wp2_with fail
     go_loop [138] (λi=>∃j:Nat,j<=T O/\i=V .i64 j/\Hid (∀p,(h:p<T O)->p<j->O[p]=(p:Int))) (λi=>T O-(intOf i).toNat)
     case atStart=>exact⟨0,Oa,rfl,Ab λp h aN=>H9 aN Oa⟩
     case round=>
      obtain⟨j,aj,rfl,bP⟩:=hrel;by_cases bp:j<T O
      .have cd:(j:Int)<(T O:Int):=Oa;obtain⟨g,rfl,ct,ce⟩:=Aa cb Oa;have cf:=ce j _ (show(Ak O)[j]? =some (V .i64 O[j]) by rw[Ak,zr,zM bp];rfl);have J:=Ab (show O[j]=(j:Int)->∀p,(h:p<T O)->p<j+1->O[p]=(p:Int)from λe p h aN=>by
        by_cases aW:p=j
        .subst aW;exact e
        .exact Aa bP p h Oa)
       have aI:=Ab<|show O[j]≠(j:Int)->Er fld k q N L (jN<|.bool jE)from λe=>FT λh=>e<|(Ye O).1 ((Aa bf).1 h.2.2).2.2.1 j bp;have bQ:=Ab bp;generalize O[j]=y at cf J aI;by_cases hy:y=(j:Int)
       .have cg:((j:Int)!=y)=jE:=by rw[hy];simp
        have au:=Ab<|Aa J hy;go_wp2
        go_round
        case rel=>exact⟨j+1,Aa bQ,O1,au⟩
        case measure=>have:=Aa bQ;simp[intOf];omega
       .have cg:((j:Int)!=y)=jD:=zV.2 λe=>hy e.symm;go_wp2
        go_ret
        exact⟨Aa<|Ab<|Aa aI hy,H⟩
      .have bR:=Ab<|show FP O from(Ye O).2 λp h=>Aa bP p h Oa;have bS:=Ab (ZX (N:=N) (n:=k) (rs:=L.flatMap Ax) (Aa af) (by rw[Aa aX];exact Aa bO)<|by rw[Aa aX];exact Aa bR);have cd: ¬ ((j:Int)<(T O:Int)):=Oa;have bj:=Ab H;go_wp2_with fail
       go_loopw [149] (λi wr=>∃p:Nat,p<=q/\i=V .i64 p/\Ai w wr/\Hid (∀r∈(L.take p).flatMap Ax,Cn (N.map Nd.aD) k r<=64)) (λi _=>q-(intOf i).toNat)
       case atStart=>exact⟨0,Oa,rfl,Aa bj,Ab Ox⟩
       case round=>
        obtain⟨p,cu,rfl,H,bT⟩:=hrel;by_cases ax:p<q
        .have bg:(p:Int)<(q:Int):=Oa;have M:p<T L:=by rw[Aa aE];exact ax
         obtain⟨bu,bv,rfl,bw,c0,c1,c2,c3⟩:=(aU.below H NLN).cells p M;have a4:=Ab (show ∀r∈Ax L[p],(0<=r/\r<(k:Int))/\r∈L.flatMap Ax from λr F=>by
          have hm:r∈L.flatMap Ax:=List.mem_flatMap.2 ⟨L[p],zI M,F⟩;exact⟨(Aa bS).2 r hm,hm⟩)
         have aI:=Ab (show ∀r∈Ax L[p],¬ Cn (N.map Nd.aD) k r<=64->Er fld k q N L (jN<|.bool jE)from λr F e=>FT λh=>e<|((Aa bf).1 h.2.2).2.2.2 r (Aa a4 r F).2);have a5:=Ab (show(∀r∈Ax L[p],Cn (N.map Nd.aD) k r<=64)->∀r∈(L.take<|p+1).flatMap Ax,Cn (N.map Nd.aD) k r<=64 from λe r F=>by
          rw[Sp L p M]at F;obtain x|x:=zO.1 F
          .exact Aa bT r x
          .exact e r x)
         have B:=Ab ax;generalize L[p]=s at c0 c1 c2 c3 a4 aI a5;obtain⟨z,name,cond,l⟩:=s;simp only at c0 c1 c2 c3;have ah:=Ag.new wr #[V .i64 z,.string name,V .i64 cond,V .i64 l] 113;have f:=H.alloc H.size<|Yu z name cond l;have aC:=Ab (Aa bS).1;have ch:=Ab<|Un (N.map Nd.aD) k;by_cases it: 0<=cond
         .obtain⟨⟨cv,cw⟩,_⟩:=Aa a4 cond (by simp[Ax,it]);obtain⟨t,rfl⟩:∃t:Nat,cond=(t:Int):=⟨cond.toNat,Oa⟩
          obtain⟨a6,av⟩:∃a6,Hid (Cn (N.map Nd.aD) k (t:Int)=a6):=⟨_,Ab rfl⟩
          by_cases cx: 64<a6
          .have ci:(64 :Int)<(a6:Int):=Oa;go_wp2_with (go_at_call 125;refine(Db _ k c N w E (Aa aC) k t _ Oa Oa Oa f).mono ?_;rintro e a7 ⟨rfl,ai⟩;rw[Aa av];have ae:=f.trans<|ai.mono f.size)
           go_ret
           exact⟨Aa<|Ab<|Aa aI (t:Int) (by simp[Ax,it])<|by rw[Aa av];omega,ae⟩
          .have ci: ¬ ((64 :Int)<(a6:Int)):=Oa;by_cases aw: 0<=l
           .obtain⟨⟨cj,ck⟩,_⟩:=Aa a4 l (by simp[Ax,aw]);obtain⟨u,rfl⟩:∃u:Nat,l=(u:Int):=⟨l.toNat,Oa⟩
            obtain⟨G,J⟩:∃G,Hid (Cn (N.map Nd.aD) k (u:Int)=G):=⟨_,Ab rfl⟩
            have cy:G<=k+1:=by rw[<-Aa J];exact Aa ch _
            by_cases cl: 64<G
            .have br:(64 :Int)<(G:Int):=Oa;go_wp2_with (first|(go_at_call 125;refine(Db _ k c N w E (Aa aC) k u a7 Oa Oa Oa ae).mono ?_;rintro e bs ⟨rfl,aK⟩;rw[Aa J];have aL:=ae.trans<|aK.mono ae.size)|(go_at_call 125;refine(Db _ k c N w E (Aa aC) k t _ Oa Oa Oa f).mono ?_;rintro e a7 ⟨rfl,ai⟩;rw[Aa av];have ae:=f.trans<|ai.mono f.size;obtain⟨aR,q1,q2,aS,aT⟩:=BO<|ah.aA ai NLN))
             go_ret
             exact⟨Aa<|Ab<|Aa aI (u:Int) (by simp[Ax,aw])<|by rw[Aa J];omega,aL⟩
            .have br: ¬ ((64 :Int)<(G:Int)):=Oa;have au:=Ab<|Aa a5 (by intro r F;simp[Ax,it,aw]at F;obtain rfl|rfl:=F;rw[Aa av];omega;rw[Aa J];omega);go_wp2_with (first|(go_at_call 125;refine(Db _ k c N w E (Aa aC) k u a7 Oa Oa Oa ae).mono ?_;rintro e bs ⟨rfl,aK⟩;rw[Aa J];have aL:=ae.trans<|aK.mono ae.size)|(go_at_call 125;refine(Db _ k c N w E (Aa aC) k t _ Oa Oa Oa f).mono ?_;rintro e a7 ⟨rfl,ai⟩;rw[Aa av];have ae:=f.trans<|ai.mono f.size;obtain⟨aR,q1,q2,aS,aT⟩:=BO<|ah.aA ai NLN))
             go_roundw
             case rel=>exact⟨p+1,Aa B,O1,aL,au⟩
             case measure=>have:=Aa B;simp[intOf];omega
           .have au:=Ab (Aa a5<|by intro r F;simp[Ax,it,aw]at F;rw[F,Aa av];omega);go_wp2_with (go_at_call 125;refine(Db _ k c N w E (Aa aC) k t _ Oa Oa Oa f).mono ?_;rintro e a7 ⟨rfl,ai⟩;rw[Aa av];have ae:=f.trans<|ai.mono f.size;obtain⟨aR,q1,q2,aS,aT⟩:=BO<|ah.aA ai NLN)
            go_roundw
            case rel=>exact⟨p+1,Aa B,O1,ae,au⟩
            case measure=>have:=Aa B;simp[intOf];omega
         .by_cases aw: 0<=l
          .obtain⟨⟨cj,ck⟩,_⟩:=Aa a4 l (by simp[Ax,aw]);obtain⟨u,rfl⟩:∃u:Nat,l=(u:Int):=⟨l.toNat,Oa⟩
           obtain⟨G,J⟩:∃G,Hid (Cn (N.map Nd.aD) k (u:Int)=G):=⟨_,Ab rfl⟩
           by_cases cl: 64<G
           .have br:(64 :Int)<(G:Int):=Oa;go_wp2_with (go_at_call 125;refine(Db _ k c N w E (Aa aC) k u _ Oa Oa Oa f).mono ?_;rintro e bs ⟨rfl,aK⟩;rw[Aa J];have aL:=f.trans<|aK.mono f.size)
            go_ret
            exact⟨Aa<|Ab<|Aa aI (u:Int) (by simp[Ax,aw])<|by rw[Aa J];omega,aL⟩
           .have br: ¬ ((64 :Int)<(G:Int)):=Oa;have au:=Ab (Aa a5<|by intro r F;simp[Ax,it,aw]at F;rw[F,Aa J];omega);go_wp2_with (go_at_call 125;refine(Db _ k c N w E (Aa aC) k u _ Oa Oa Oa f).mono ?_;rintro e bs ⟨rfl,aK⟩;rw[Aa J];have aL:=f.trans<|aK.mono f.size)
            go_roundw
            case rel=>exact⟨p+1,Aa B,O1,aL,au⟩
            case measure=>have:=Aa B;simp[intOf];omega
          .have au:=Ab (Aa a5<|by intro r F;simp[Ax,it,aw]at F);go_wp2
           go_roundw
           case rel=>exact⟨p+1,Aa B,O1,f,au⟩
           case measure=>have:=Aa B;simp[intOf];omega
        .have av:=Ab (show ∀r∈L.flatMap Ax,Cn (N.map Nd.aD) k r<=64 by
          have e:L.take p=L:=zf (by rw[Aa aE];omega);have:=Aa bT;rw[e]at this;exact this)
         have I:=Ab<|show Er fld k q N L (jN<|.bool jD)from⟨jD,rfl,⟨λ_=>⟨⟨P,b0,bZ⟩,Aa bD,(Aa bf).2 ⟨Aa ca,Aa bO,Aa bR,Aa av⟩⟩,λ_=>rfl⟩⟩;have bg: ¬ ((p:Int)<(q:Int)):=Oa;go_wp2
         go_ret
         exact⟨Aa I,H⟩
theorem Yk (a b:L0 Addr)(n c m d:Nat)(N:L6)(L:L9)(w:World)(f:IN w a n c N)(g:Po w b m d L):
  Calls jZ 97 #[Y a n c,Y b m d,.bool jE] w λe w'=>Er Bq n m N L e/\Ai w w':=
 OP jE Bq Vx (λx h=>by rw[QK,zF]at h;exact K8 h.1) a b n c m d N L w f g
end Go.Proofs.YtnjpihpohilnjaaGreatDoor

import Derived.Test.YtlcfoihgfcmfeaaGreatDoorMXAO
open List renaming length->Y
open Array renaming size->R
open Bool renaming true->jG,false->jI
namespace Go.Proofs.YtlcfoihgfcmfeaaGreatDoor
open Proofs.Tryz
open Value renaming int->T,slice->X,ownBlock->jO
open World renaming heap->Q,ownsRow->jP
open Ending renaming returned->jN
open Proofs.Tryz renaming prog->jZ
set_option maxRecDepth 100000
set_option maxHeartbeats 32000000
open Go.RowKit
set_option linter.unusedVariables false
variable{N:M7}{n m:Nat}{fld:Nd->Bool}
def Ee(fld:Nd->Bool)(n m:Nat)(N:M7)(L:Nz)(e:Ending):Prop:=∃b:Bool,e=jN (.bool b)/\(b=jG↔(n<=4000/\1<=m/\m<=600)/\N.all fld=jG/\KF N L)
def Ans(ty:Bool)(fld:Nd->Bool):Prop:=∀(x:Nd) (an:M2 Addr) (nn cn:Nat) (ak:M2 Addr) (nk ck:Nat) (w:World),Am w an nn cn x.aE->nk=Y x.aC->x.text.size<=1048576->nk<=1048576->Calls jZ 54 #[ndV x.op x.num x.text an nn cn ak nk ck,.bool ty] w λe w'=>e=jN (.bool<|fld x)/\Ak w w'
theorem Ps(L:M7):L.all fld=jG↔∀j,(h:j<Y L)->fld L[j]=jG:=by grind[zI,zo,zk]
theorem Zp(a:∀x,fld x=jG->(Y x.aC:Int)=Ci x.op)(h:N.all fld=jG):∀ks∈N.map Nd.aC,Y ks<=3:=by
 intro ks b;obtain⟨x,hx,rfl⟩:=zU.1 b;have:=a x<|zo.1 h x hx;have:Ci x.op<=3:=by unfold Ci;repeat' split<;>try decide
 omega
theorem Fx{L:Nz}(h:¬((n<=4000/\1<=m/\m<=600)/\N.all fld=jG/\KF N L)):Ee fld n m N L<|jN<|.bool jI:=⟨jI,rfl,by constructor<;>intro k;cases k;exact K4 k h⟩
theorem Zq{s:M1}(h:s.size=0):s.toList.isEmpty=jG:=by simp_all
theorem AbI{w:World}{base:Nat}{e:TypeId}{size:Nat}{v:Value}{n:Nat}{a:List Value}(h:jP w base e size v n a):jO v≠some (R<|Q w):=λk=>G7<|(h.lt _ k).2
theorem Ph(ty:Bool)(fld:Nd->Bool)(bS:Ans ty fld)(bT:∀x,fld x=jG->(Y x.aC:Int)=Ci x.op)(a b:M2 Addr)(n c m d:Nat)(N:M7)(L:Nz)(w:World)(h1:GN w a n c N)(h2:Lr w b m d L):Calls jZ 20 #[X a n c,X b m d,.bool ty] w λe w'=>Ee fld n m N L e/\Ak w w':=by
 have bt:=Ab bS;have bU:=Ab bT;have s1:=h1.aH;have s2:=h2.aH;have ae:=Ab h1.len;have aE:=Ab h2.len;go_enter func20,ntmps20;by_cases cl:4000<n
 .have bV:(4000:Int)<(n:Int):=Oa;go_wp2;go_ret;exact⟨Aa<|Ab<|Fx (fld:=fld) (n:=n) (m:=m) (N:=N) (L:=L) λh=>Oa,BRN⟩
 have bV:¬ ((4000:Int)<(n:Int)):=Oa;by_cases hm:m<1
 .have bW:(m:Int)<1:=Oa;go_wp2;go_ret;exact⟨Aa<|Ab<|Fx (fld:=fld) (n:=n) (m:=m) (N:=N) (L:=L) λh=>Oa,BRN⟩
 have bW:¬ ((m:Int)<1):=Oa;by_cases cm:600<m
 .have bX:(600:Int)<(m:Int):=Oa;go_wp2;go_ret;exact⟨Aa<|Ab<|Fx (fld:=fld) (n:=n) (m:=m) (N:=N) (L:=L) λh=>Oa,BRN⟩
 have bX:¬ ((600:Int)<(m:Int)):=Oa;have M:n<=4000:=Oa;have bY:m<=600:=Oa;have bZ:1<=m:=Oa;go_wp2_with fail;go_loopw[33] (λi wr=>∃k:Nat,k<=n/\i=T .i64 k/\Ak w wr/\Hid (∀j,(ai:j<Y N)->j<k->fld N[j]=jG)) (λi _=>n-(intOf i).toNat);case atStart=>exact⟨0,Oa,rfl,BRN,Ab λj ai h=>K4 h Oa⟩
 obtain⟨k,co,rfl,F,aW⟩:=hrel;by_cases ax:k<n
 .have bh:(k:Int)<(n:Int):=Oa;have J:k<Y N:=by rw[Aa ae];exact ax
  have af:=h1.bE N[k]<|zI J;obtain⟨bu,bv,rfl,bw,an,nn,cn,a9,ba,bb,c0,c1,c2,c3,c4,bx,bi⟩:=(h1.below F NLN).cells k J;have C:=Ab (show fld N[k]=jI->Ee fld n m N L (jN<|.bool jI)from λe=>Fx (λh=>by have:=(Ps N).1 h.2.1 k J;rw[this]at e;cases e));have P:=Ab (show fld N[k]=jG->∀j,(ai:j<Y N)->j<k+1->fld N[j]=jG from λe j ai aM=>by
   by_cases aX:j=k
   .subst aX;exact e
   exact Aa aW j ai Oa);have B:=Ab ax;generalize N[k]=x at c0 c1 c2 c3 c4 bx bi af C P;have bz:=Ab bi.len;have bA:=bi.aH;have f:=F.alloc F.size<|CW x.op x.num x.text an nn cn a9 ba bb;have b0:=Ar wr<|CW x.op x.num x.text an nn cn a9 ba bb;have bB:=bx.below b0 NLN;cases bc:fld x
  .have H:=Ab<|Aa C bc;have bj:=Ab bc;go_wp2_with (go_at_call 54;refine(Aa bt x an nn cn a9 ba bb _ bB (Aa bz).symm af bA).mono ?_;rintro e w2 ⟨rfl,A⟩;rw[Aa bj]);go_ret;exact⟨Aa H,f.trans<|A.mono f.size⟩
  have S:=Ab<|Aa P bc;have bj:=Ab bc;go_wp2_with (go_at_call 54;refine(Aa bt x an nn cn a9 ba bb _ bB (Aa bz).symm af bA).mono ?_;rintro e w2 ⟨rfl,A⟩;rw[Aa bj]);go_roundw;case rel=>exact⟨k+1,Aa B,O0,f.trans<|A.mono f.size,S⟩
  have:=Aa B;simp[intOf];omega
 have e:k=n:=Oa;have bC:=Ab<|show N.all fld=jG from(Ps N).2 (λj ai=>Aa aW j ai<|G7<|Aa ae);have aN:=Ab<|Zp (Aa bU)<|Aa bC;have b1:=Ab (show Y (N.map Nd.aC)=n by rw[zZ];exact Aa ae);subst e;have bk:=Ab F;go_wp2_with fail;go_loopw[9,44] (λv i wr=>∃ (q:Nat) (O:M4),q<=m/\i=T .i64 q/\Ak w wr/\Hid (∀j,(h:j<Y L)->j<q->SK L j h=jG)/\Hid (NJ (N.map Nd.aC) k ((L.take q).flatMap Av)=O)/\Y O<=4*k+2*q/\jP wr (R<|Q w) 3 1 v (Y O) (Ap O)) (λ_ i _=>m-(intOf i).toNat);case atStart=>exact⟨0,[],Oa,rfl,Aa bk,Ab λj h aM=>K4 aM Oa,Ab<|by simp[NJ],Oz,G8⟩
 obtain⟨q,O,hq,rfl,F,aW,aY,cp,bl⟩:=hrel;obtain⟨cq,cr,rfl,b2⟩:=Af bl;by_cases ax:q<m
 .have bh:(q:Int)<(m:Int):=Oa;have J:q<Y L:=by rw[Aa aE];exact ax
  have af:=h2.bE L[q]<|zI J;obtain⟨bu,bv,rfl,bw,c0,c1,c2,c3⟩:=(h2.below F NLN).cells q J;have C:=Ab (show CU (decide (q+1=m)) L[q]=jI->Ee fld k m N L (jN<|.bool jI)from λe=>Fx (λh=>by have:=(Mi L).1 h.2.2.1 q J;rw[SK,Aa aE,e]at this;cases this));have P:=Ab (show CU (decide (q+1=m)) L[q]=jG->∀j,(h:j<Y L)->j<q+1->SK L j h=jG from λe j ai aM=>by
   by_cases aX:j=q
   .subst aX;rw[SK,Aa aE];exact e
   exact Aa aW j ai Oa);have aO:=Ab (show NJ (N.map Nd.aC) k ((L.take<|q+1).flatMap Av)=(Av L[q]).foldl (λo l=>Bf (N.map Nd.aC) k l o) O by rw[SL L q J,Zr,Aa aY]);have B:=Ab ax;generalize L[q]=s at c0 c1 c2 c3 af C P aO;obtain⟨z,name,cond,r⟩:=s;simp only at c0 c1 c2 c3 af;have ag:=Ah.new wr #[T .i64 z,.string name,T .i64 cond,T .i64 r] 97;have f:=F.alloc F.size<|EO z name cond r;have ay:=bl.alloc<|EO z name cond r;have aP:=AbI bl;have z1:R (Q<|World.alloc wr<|EO z name cond r)=R (Q wr)+1:=Oz;have aZ:=Ab (λl O=>by have:=Oy (K:=N.map Nd.aC) (Aa aN) k l O;rw[Aa b1]at this;exact this);by_cases kl:q+1=m
  .have b3:((q:Int)==(m:Int)-1)=jG:=zD.2 Oa;rw[zc kl]at C P;by_cases aj:z=1
   .have e1:(z==1)=jG:=zD.2 aj;subst aj;go_wp2;go_ret;exact⟨Aa<|Ab<|Aa C<|by simp[CU],f⟩
   have e1:(z==1)=jI:=zA.2 aj;by_cases ak:z=2
   .have e2:(z==2)=jG:=zD.2 ak;subst ak;go_wp2;go_ret;exact⟨Aa<|Ab<|Aa C<|by simp[CU],f⟩
   have e2:(z==2)=jI:=zA.2 ak;by_cases al:z=3
   .have e3:(z==3)=jG:=zD.2 al;subst al;by_cases W:name.size=0
    .have en:=Zq W;by_cases kc:cond=-1
     .have ec:(cond==-1)=jG:=zD.2 kc;subst kc;by_cases aF:-1<=r
      .by_cases a0:0<=r
       .have S:=Ab (Aa P<|by simp[CU,W,aF]);obtain⟨aa,aG⟩:∃aa,Hid (Bf (N.map Nd.aC) k r O=aa):=⟨_,Ab rfl⟩;have b4:Y aa<=max (Y O) (k+3*k)+1:=by rw[<-Aa aG];exact Aa aZ r O
        have ao:=Ab (show NJ (N.map Nd.aC) k ((L.take<|q+1).flatMap Av)=aa by rw[Aa aO];rw[<-Aa aG];simp[Av,a0]);go_wp2_with (go_at_call 56;refine(GE _ k c N w (R<|Q w) h1 NLN M (Aa aN) k r O _ _ M (.inl<|Z1<|Aa ae) Oa f f.size ay).mono ?_;rintro e b5 ⟨b6,rfl,a1,bm,K5⟩;rw[Aa aG]at a1;have bn:=f.trans bm);go_roundw;case rel=>exact⟨q+1,aa,Aa B,O0,bn,S,ao,Oa,a1⟩
        have:=Aa B;simp[intOf];omega
       have S:=Ab (Aa P<|by simp[CU,W,aF]);have ao:=Ab (show NJ (N.map Nd.aC) k ((L.take<|q+1).flatMap Av)=O by rw[Aa aO];simp[Av,a0]);go_wp2;go_roundw;case rel=>exact⟨q+1,O,Aa B,O0,f,S,ao,Oa,ay⟩
       have:=Aa B;simp[intOf];omega
      have H:=Ab (Aa C<|by simp[CU,aF]);go_wp2;go_ret;exact⟨Aa H,f⟩
     have ec:(cond==-1)=jI:=zA.2 kc;go_wp2;go_ret;exact⟨Aa<|Ab<|Aa C<|by simp[CU,kc],f⟩
    have en:=DX W;go_wp2;go_ret;exact⟨Aa<|Ab<|Aa C<|by simp[CU,W],f⟩
   have e3:(z==3)=jI:=zA.2 al;go_wp2;go_ret;exact⟨Aa<|Ab<|Aa C<|by simp[CU,aj,ak,al],f⟩
  have b3:((q:Int)==(m:Int)-1)=jI:=zA.2 Oa;rw[za kl]at C P;by_cases aj:z=1
  .have e1:(z==1)=jG:=zD.2 aj;subst aj;cases hi:CG name
   .have ap:=Ab hi;go_wp2_with (go_at_call 55;refine(Er _ _ af).mono ?_;rintro e w2 ⟨rfl,A⟩;rw[Aa ap];have aq:=f.trans<|A.mono f.size;have az:=ag.aB A NLN;have bd:=Ai ay A NLN;have z2:=A.size;obtain⟨aQ,aR,aS,aT,aU⟩:=Cb az);go_ret;exact⟨Aa<|Ab<|Aa C<|by simp[CU,Aa ap],aq⟩
   have ap:=Ab hi;by_cases ar:0<=cond
   .by_cases bf:r=-1
    .have b7:(r==-1)=jG:=zD.2 bf;subst bf;have S:=Ab (Aa P<|by simp[CU,Aa ap,ar]);obtain⟨D,ab⟩:∃D,Hid (Bf (N.map Nd.aC) k cond O=D):=⟨_,Ab rfl⟩;have bD:Y D<=max (Y O) (k+3*k)+1:=by rw[<-Aa ab];exact Aa aZ cond O
     have ao:=Ab (show NJ (N.map Nd.aC) k ((L.take<|q+1).flatMap Av)=D by rw[Aa aO];rw[<-Aa ab];simp[Av,ar]);go_wp2_with (first|(go_at_call 55;refine(Er _ _ af).mono ?_;rintro e w2 ⟨rfl,A⟩;rw[Aa ap];have aq:=f.trans (A.mono f.size);have az:=ag.aB A NLN;have bd:=Ai ay A NLN;have z2:=A.size;obtain⟨aQ,aR,aS,aT,aU⟩:=Cb az)|(go_at_call 56;refine(GE _ k c N w (R (Q w)) h1 NLN M (Aa aN) k cond O _ w2 M (.inl (Z1 (Aa ae))) Oa aq aq.size bd).mono ?_;rintro e bo ⟨a2,rfl,ac,a3,aA⟩;rw[Aa ab]at ac;have aI:=aq.trans a3;have a4:=az.aV aA aP;have bF:jO a2≠some (R (Q wr)):=(λe=>by obtain x|x:=aA.2.1 _ e;exact aP x;(have:=z2;(try simp at this);omega));obtain⟨bG,c4,rfl,_⟩:=Af ac;obtain⟨bH,bI,bJ,bK,bL⟩:=Cb a4));go_roundw;case rel=>exact⟨q+1,D,Aa B,O0,aI,S,ao,Oa,ac⟩
     have:=Aa B;simp[intOf];omega
    have b7:(r==-1)=jI:=zA.2 bf;go_wp2_with (go_at_call 55;refine(Er _ _ af).mono ?_;rintro e w2 ⟨rfl,A⟩;rw[Aa ap];have aq:=f.trans<|A.mono f.size;have az:=ag.aB A NLN;have bd:=Ai ay A NLN;have z2:=A.size;obtain⟨aQ,aR,aS,aT,aU⟩:=Cb az);go_ret;exact⟨Aa<|Ab<|Aa C<|by simp[CU,Aa ap,bf],aq⟩
   have H:=Ab (Aa C<|by simp[CU,Aa ap,ar]);go_wp2_with (go_at_call 55;refine(Er _ _ af).mono ?_;rintro e w2 ⟨rfl,A⟩;rw[Aa ap];have aq:=f.trans<|A.mono f.size;have az:=ag.aB A NLN;have bd:=Ai ay A NLN;have z2:=A.size;obtain⟨aQ,aR,aS,aT,aU⟩:=Cb az);go_ret;exact⟨Aa H,aq⟩
  have e1:(z==1)=jI:=zA.2 aj;by_cases ak:z=2
  .have e2:(z==2)=jG:=zD.2 ak;subst ak;by_cases W:name.size=0
   .have en:=Zq W;by_cases ar:0<=cond
    .by_cases aF:-1<=r
     .by_cases a0:0<=r
      .have S:=Ab (Aa P<|by simp[CU,W,ar,aF]);obtain⟨D,ab⟩:∃D,Hid (Bf (N.map Nd.aC) k cond O=D):=⟨_,Ab rfl⟩;have bD:Y D<=max (Y O) (k+3*k)+1:=by rw[<-Aa ab];exact Aa aZ cond O
       obtain⟨aa,aG⟩:∃aa,Hid (Bf (N.map Nd.aC) k r D=aa):=⟨_,Ab rfl⟩;have b4:Y aa<=max (Y D) (k+3*k)+1:=by rw[<-Aa aG];exact Aa aZ r D
       have ao:=Ab (show NJ (N.map Nd.aC) k ((L.take<|q+1).flatMap Av)=aa by rw[Aa aO];rw[<-Aa aG,<-Aa ab];simp[Av,ar,a0]);go_wp2_with (first|(go_at_call 56;refine(GE _ k c N w (R (Q w)) h1 NLN M (Aa aN) k r D _ bo M (.inl (Z1 (Aa ae))) Oa aI aI.size ac).mono ?_;rintro e b5 ⟨b6,rfl,a1,bm,K5⟩;rw[Aa aG]at a1;have bn:=aI.trans bm)|(go_at_call 56;refine(GE _ k c N w (R (Q w)) h1 NLN M (Aa aN) k cond O _ _ M (.inl (Z1 (Aa ae))) Oa f f.size ay).mono ?_;rintro e bo ⟨a2,rfl,ac,a3,aA⟩;rw[Aa ab]at ac;have aI:=f.trans a3;have a4:=ag.aV aA aP;have bF:jO a2≠some (R (Q wr)):=(λe=>by obtain x|x:=aA.2.1 _ e;exact aP x;(have:=z1;omega));obtain⟨bG,c4,rfl,_⟩:=Af ac;obtain⟨bH,bI,bJ,bK,bL⟩:=Cb a4));go_roundw;case rel=>exact⟨q+1,aa,Aa B,O0,bn,S,ao,Oa,a1⟩
       have:=Aa B;simp[intOf];omega
      have S:=Ab (Aa P<|by simp[CU,W,ar,aF]);obtain⟨D,ab⟩:∃D,Hid (Bf (N.map Nd.aC) k cond O=D):=⟨_,Ab rfl⟩;have bD:Y D<=max (Y O) (k+3*k)+1:=by rw[<-Aa ab];exact Aa aZ cond O
      have ao:=Ab (show NJ (N.map Nd.aC) k ((L.take<|q+1).flatMap Av)=D by rw[Aa aO];rw[<-Aa ab];simp[Av,ar,a0]);go_wp2_with (go_at_call 56;refine(GE _ k c N w (R<|Q w) h1 NLN M (Aa aN) k cond O _ _ M (.inl<|Z1<|Aa ae) Oa f f.size ay).mono ?_;rintro e bo ⟨a2,rfl,ac,a3,aA⟩;rw[Aa ab]at ac;have aI:=f.trans a3;have a4:=ag.aV aA aP;have bF:jO a2≠some (R<|Q wr):=(λe=>by obtain x|x:=aA.2.1 _ e;exact aP x;(have:=z1;omega));obtain⟨bG,c4,rfl,_⟩:=Af ac;obtain⟨bH,bI,bJ,bK,bL⟩:=Cb a4);go_roundw;case rel=>exact⟨q+1,D,Aa B,O0,aI,S,ao,Oa,ac⟩
      have:=Aa B;simp[intOf];omega
     have H:=Ab (Aa C<|by simp[CU,aF]);go_wp2;go_ret;exact⟨Aa H,f⟩
    have H:=Ab (Aa C<|by simp[CU,ar]);go_wp2;go_ret;exact⟨Aa H,f⟩
   have en:=DX W;go_wp2;go_ret;exact⟨Aa<|Ab<|Aa C<|by simp[CU,W],f⟩
  have e2:(z==2)=jI:=zA.2 ak;by_cases al:z=3
  .have e3:(z==3)=jG:=zD.2 al;subst al;go_wp2;go_ret;exact⟨Aa<|Ab<|Aa C<|by simp[CU],f⟩
  have e3:(z==3)=jI:=zA.2 al;go_wp2;go_ret;exact⟨Aa<|Ab<|Aa C<|by simp[CU,aj,ak,al],f⟩
 have e:q=m:=Oa;subst e;have b8:L.take q=L:=zh (by rw[Aa aE];exact NLN);rw[b8]at aY;have b9:=Ab<|show GF L=jG from(Mi L).2 (λj h=>Aa aW j h<|G7<|Aa aE);have bg:=Ab (show KF N L↔GF L=jG/\Y O=k/\GM O/\∀l∈L.flatMap Av,Ct (N.map Nd.aC) k l<=64 by rw[KF,Aa ae];rw[<-Aa aY];exact Iff.rfl);have ca:=Ab b2;by_cases bp:Y O=k;case neg=>have cb:((Y O:Int)!=(k:Int))=jG:=zW.2 Oa;have H:=Ab<|Fx (fld:=fld) (n:=k) (m:=q) (N:=N) (L:=L) λh=>bp ((Aa bg).1 h.2.2).2.1;go_wp2;go_ret;exact⟨Aa H,F⟩
 have cb:((Y O:Int)!=(k:Int))=jI:=by rw[bp];simp
 have bM:=Ab bp;go_wp2_with fail;go_loop[138] (λi=>∃j:Nat,j<=Y O/\i=T .i64 j/\Hid (∀p,(h:p<Y O)->p<j->O[p]=(p:Int))) (λi=>Y O-(intOf i).toNat);case atStart=>exact⟨0,Oa,rfl,Ab λp h aM=>K4 aM Oa⟩
 obtain⟨j,ai,rfl,bN⟩:=hrel;by_cases bq:j<Y O
 .have cc:(j:Int)<(Y O:Int):=Oa;obtain⟨g,rfl,cs,cd⟩:=Aa ca Oa;have ce:=cd j _ (show(Ap O)[j]?=some (T .i64 O[j])by rw[Ap,zi,zE bq];rfl);have I:=Ab (show O[j]=(j:Int)->∀p,(h:p<Y O)->p<j+1->O[p]=(p:Int)from λe p h aM=>by
   by_cases aX:p=j
   .subst aX;exact e
   exact Aa bN p h Oa);have aJ:=Ab<|show O[j]≠(j:Int)->Ee fld k q N L (jN<|.bool jI)from λe=>Fx λh=>e<|(Zm O).1 ((Aa bg).1 h.2.2).2.2.1 j bq;have bO:=Ab bq;generalize O[j]=y at ce I aJ;by_cases hy:y=(j:Int)
  .have cf:((j:Int)!=y)=jI:=by rw[hy];simp
   have au:=Ab<|Aa I hy;go_wp2;go_round;case rel=>exact⟨j+1,Aa bO,O0,au⟩
   have:=Aa bO;simp[intOf];omega
  have cf:((j:Int)!=y)=jG:=zW.2 λe=>hy e.symm;go_wp2;go_ret;exact⟨Aa<|Ab<|Aa aJ hy,F⟩
 have bP:=Ab<|show GM O from(Zm O).2 λp h=>Aa bN p h Oa;have bQ:=Ab (AbJ (N:=N) (n:=k) (rs:=L.flatMap Av) (Aa ae) (by rw[Aa aY];exact Aa bM)<|by rw[Aa aY];exact Aa bP);have cc:¬ ((j:Int)<(Y O:Int)):=Oa;have bk:=Ab F;go_wp2_with fail;go_loopw[149] (λi wr=>∃p:Nat,p<=q/\i=T .i64 p/\Ak w wr/\Hid (∀l∈(L.take p).flatMap Av,Ct (N.map Nd.aC) k l<=64)) (λi _=>q-(intOf i).toNat);case atStart=>exact⟨0,Oa,rfl,Aa bk,Ab Oz⟩
 obtain⟨p,ct,rfl,F,bR⟩:=hrel;by_cases ax:p<q
 .have bh:(p:Int)<(q:Int):=Oa;have J:p<Y L:=by rw[Aa aE];exact ax
  obtain⟨bu,bv,rfl,bw,c0,c1,c2,c3⟩:=(h2.below F NLN).cells p J;have a5:=Ab (show ∀l∈Av L[p],(0<=l/\l<(k:Int))/\l∈L.flatMap Av from λl E=>by have hm:l∈L.flatMap Av:=List.mem_flatMap.2 ⟨L[p],zI J,E⟩;exact⟨(Aa bQ).2 l hm,hm⟩);have aJ:=Ab (show ∀l∈Av L[p],¬ Ct (N.map Nd.aC) k l<=64->Ee fld k q N L (jN<|.bool jI)from λl E e=>Fx λh=>e<|((Aa bg).1 h.2.2).2.2.2 l (Aa a5 l E).2);have a6:=Ab (show(∀l∈Av L[p],Ct (N.map Nd.aC) k l<=64)->∀l∈(L.take<|p+1).flatMap Av,Ct (N.map Nd.aC) k l<=64 from λe l E=>by
   rw[SL L p J]at E;obtain x|x:=zJ.1 E
   .exact Aa bR l x
   exact e l x);have B:=Ab ax;generalize L[p]=s at c0 c1 c2 c3 a5 aJ a6;obtain⟨z,name,cond,r⟩:=s;simp only at c0 c1 c2 c3;have ag:=Ah.new wr #[T .i64 z,.string name,T .i64 cond,T .i64 r] 97;have f:=F.alloc F.size<|EO z name cond r;have aD:=Ab (Aa bQ).1;have cg:=Ab<|Vd (N.map Nd.aC) k;by_cases it:0<=cond
  .obtain⟨⟨cu,cv⟩,_⟩:=Aa a5 cond (by simp[Av,it]);obtain⟨t,rfl⟩:∃t:Nat,cond=(t:Int):=⟨cond.toNat,Oa⟩;obtain⟨a7,av⟩:∃a7,Hid (Ct (N.map Nd.aC) k (t:Int)=a7):=⟨_,Ab rfl⟩;by_cases cw:64<a7
   .have ch:(64:Int)<(a7:Int):=Oa;go_wp2_with (go_at_call 57;refine(Dg _ k c N w h1 (Aa aD) k t _ Oa Oa Oa f).mono ?_;rintro e a8 ⟨rfl,ah⟩;rw[Aa av];have ad:=f.trans<|ah.mono f.size);go_ret;exact⟨Aa<|Ab<|Aa aJ (t:Int) (by simp[Av,it])<|by rw[Aa av];omega,ad⟩
   have ch:¬ ((64:Int)<(a7:Int)):=Oa;by_cases aw:0<=r
   .obtain⟨⟨ci,cj⟩,_⟩:=Aa a5 r (by simp[Av,aw]);obtain⟨u,rfl⟩:∃u:Nat,r=(u:Int):=⟨r.toNat,Oa⟩;obtain⟨G,I⟩:∃G,Hid (Ct (N.map Nd.aC) k (u:Int)=G):=⟨_,Ab rfl⟩;have cx:G<=k+1:=by rw[<-Aa I];exact Aa cg _
    by_cases ck:64<G
    .have br:(64:Int)<(G:Int):=Oa;go_wp2_with (first|(go_at_call 57;refine(Dg _ k c N w h1 (Aa aD) k u a8 Oa Oa Oa ad).mono ?_;rintro e bs ⟨rfl,aK⟩;rw[Aa I];have aL:=ad.trans<|aK.mono ad.size)|(go_at_call 57;refine(Dg _ k c N w h1 (Aa aD) k t _ Oa Oa Oa f).mono ?_;rintro e a8 ⟨rfl,ah⟩;rw[Aa av];have ad:=f.trans<|ah.mono f.size;obtain⟨aQ,aR,aS,aT,aU⟩:=Cb<|ag.aB ah NLN));go_ret;exact⟨Aa<|Ab<|Aa aJ (u:Int) (by simp[Av,aw])<|by rw[Aa I];omega,aL⟩
    have br:¬ ((64:Int)<(G:Int)):=Oa;have au:=Ab<|Aa a6 (by intro l E;simp[Av,it,aw]at E;obtain rfl|rfl:=E;rw[Aa av];omega;rw[Aa I];omega);go_wp2_with (first|(go_at_call 57;refine(Dg _ k c N w h1 (Aa aD) k u a8 Oa Oa Oa ad).mono ?_;rintro e bs ⟨rfl,aK⟩;rw[Aa I];have aL:=ad.trans<|aK.mono ad.size)|(go_at_call 57;refine(Dg _ k c N w h1 (Aa aD) k t _ Oa Oa Oa f).mono ?_;rintro e a8 ⟨rfl,ah⟩;rw[Aa av];have ad:=f.trans<|ah.mono f.size;obtain⟨aQ,aR,aS,aT,aU⟩:=Cb<|ag.aB ah NLN));go_roundw;case rel=>exact⟨p+1,Aa B,O0,aL,au⟩
    have:=Aa B;simp[intOf];omega
   have au:=Ab (Aa a6<|by intro l E;simp[Av,it,aw]at E;rw[E,Aa av];omega);go_wp2_with (go_at_call 57;refine(Dg _ k c N w h1 (Aa aD) k t _ Oa Oa Oa f).mono ?_;rintro e a8 ⟨rfl,ah⟩;rw[Aa av];have ad:=f.trans<|ah.mono f.size;obtain⟨aQ,aR,aS,aT,aU⟩:=Cb<|ag.aB ah NLN);go_roundw;case rel=>exact⟨p+1,Aa B,O0,ad,au⟩
   have:=Aa B;simp[intOf];omega
  by_cases aw:0<=r
  .obtain⟨⟨ci,cj⟩,_⟩:=Aa a5 r (by simp[Av,aw]);obtain⟨u,rfl⟩:∃u:Nat,r=(u:Int):=⟨r.toNat,Oa⟩;obtain⟨G,I⟩:∃G,Hid (Ct (N.map Nd.aC) k (u:Int)=G):=⟨_,Ab rfl⟩;by_cases ck:64<G
   .have br:(64:Int)<(G:Int):=Oa;go_wp2_with (go_at_call 57;refine(Dg _ k c N w h1 (Aa aD) k u _ Oa Oa Oa f).mono ?_;rintro e bs ⟨rfl,aK⟩;rw[Aa I];have aL:=f.trans<|aK.mono f.size);go_ret;exact⟨Aa<|Ab<|Aa aJ (u:Int) (by simp[Av,aw])<|by rw[Aa I];omega,aL⟩
   have br:¬ ((64:Int)<(G:Int)):=Oa;have au:=Ab (Aa a6<|by intro l E;simp[Av,it,aw]at E;rw[E,Aa I];omega);go_wp2_with (go_at_call 57;refine(Dg _ k c N w h1 (Aa aD) k u _ Oa Oa Oa f).mono ?_;rintro e bs ⟨rfl,aK⟩;rw[Aa I];have aL:=f.trans<|aK.mono f.size);go_roundw;case rel=>exact⟨p+1,Aa B,O0,aL,au⟩
   have:=Aa B;simp[intOf];omega
  have au:=Ab (Aa a6<|by intro l E;simp[Av,it,aw]at E);go_wp2;go_roundw;case rel=>exact⟨p+1,Aa B,O0,f,au⟩
  have:=Aa B;simp[intOf];omega
 have av:=Ab (show ∀l∈L.flatMap Av,Ct (N.map Nd.aC) k l<=64 by have e:L.take p=L:=zh (by rw[Aa aE];omega);have:=Aa bR;rw[e]at this;exact this);have H:=Ab<|show Ee fld k q N L (jN<|.bool jG)from⟨jG,rfl,⟨λ_=>⟨⟨M,bZ,bY⟩,Aa bC,(Aa bg).2 ⟨Aa b9,Aa bM,Aa bP,Aa av⟩⟩,λ_=>rfl⟩⟩;have bh:¬ ((p:Int)<(q:Int)):=Oa;go_wp2;go_ret;exact⟨Aa H,F⟩
theorem Zs(a b:M2 Addr)(n c m d:Nat)(N:M7)(L:Nz)(w:World)(h1:GN w a n c N)(h2:Lr w b m d L):Calls jZ 20 #[X a n c,X b m d,.bool jI] w λe w'=>Ee By n m N L e/\Ak w w':=Ph jI By Wq (λx h=>by rw[QH,zF]at h;exact M0 h.1) a b n c m d N L w h1 h2
end Go.Proofs.YtlcfoihgfcmfeaaGreatDoor

import Derived.Test.YtlcfoihgfcmfeaaGreatDoorMXAO
import Derived.Test.YtlcfoihgfcmfeaaGreatDoorMXAS
open Option renaming none->V,none->jc,some->Z
open List renaming length->Y
open Go renaming World->jD,Value->jF,Addr->jH
open Bool renaming true->jG,false->jI
namespace Go.Proofs.YtlcfoihgfcmfeaaGreatDoor
open Proofs.Tryz
open Value renaming int->T,slice->X,string->jA,ownBlock->jO,pointer->jQ,tuple->jS
open IntKind renaming i64->U
open Addr renaming mk->jB
open World renaming cell?->jE,alloc->jK
open Proofs.Tryz renaming prog->jZ
open Go.RowKit
set_option linter.unusedVariables false
set_option maxHeartbeats 800000
variable{s:M1}{op:Int}{ss tt:M6}{ts:M4}{c A B:M7}{b t cn g:Nat}{an:M3}{a:jF}{w:jD}
theorem Kg(a f:M3)(n c g:Nat)(ss:M6)(w:jD)(h:Am w a n c ss)(l:Am w f n g ss):Calls jZ 31 #[X a n c,X f n g] w λe w'=>e=.returned (.bool jG)/\Ak w w':=by
 have p:n<=9223372036854775807:=P5;go_enter func31,ntmps31;go_wp2;go_loopw[5,6,14] (λ_ _ i wr=>∃k:Nat,k<=n/\i=T U k/\Ak w wr) (λ_ _ i _=>n-(intOf i).toNat);case atStart=>exact⟨0,zH _,rfl,BRN⟩
 obtain⟨k,q,rfl,d⟩:=hrel;by_cases j:k<n
 .obtain⟨b,r,m,_,hc⟩:=(h.below d NLN).cells k j;obtain⟨s,t,o,_,u⟩:=(l.below d NLN).cells k j;subst m;subst o;have v:(k:Int)<(n:Int):=Oa;go_wp2;first
   |go_roundw;case rel=>exact⟨k+1,Oa,O0,d⟩
    simp[intOf]<;>omega
   |go_quiet (fail);go_wp2;go_roundw;case rel=>exact⟨k+1,Oa,O0,below_drewN d _⟩
    simp[intOf]<;>omega
 go_wp2;go_ret;exact⟨rfl,d⟩
set_option maxRecDepth 100000
set_option maxHeartbeats 1600000
theorem Ll(a f:M3)(n c g:Nat)(L:M4)(w:jD)(h:BN w a n c L)(j:BN w f n g L):Calls jZ 36 #[X a n c,X f n g] w λe w'=>e=.returned (.bool jG)/\Ak w w':=by
 have o:=h.aH;have p:=h.len;go_enter func36,ntmps36;go_wp2_with fail;go_loopw[5,6,14] (λ_ _ i wr=>∃k:Nat,k<=n/\i=T U k/\Ak w wr) (λ_ _ i _=>n-(intOf i).toNat);case atStart=>exact⟨0,zH _,rfl,BRN⟩
 obtain⟨k,q,rfl,d⟩:=hrel;by_cases r:k<n
 .obtain⟨b,s,l,_,hc⟩:=(h.below d NLN).cells k Oa;obtain⟨t,u,m,_,v⟩:=(j.below d NLN).cells k Oa;subst l;subst m;have x:(k:Int)<(n:Int):=Oa;go_wp2_with fail;first
   |go_roundw;case rel=>exact⟨k+1,Oa,O0,d⟩
    simp[intOf]<;>omega
   |go_quiet (fail);go_wp2;go_roundw;case rel=>exact⟨k+1,Oa,O0,below_drewN d _⟩
    simp[intOf]<;>omega
 go_wp2;go_ret;exact⟨rfl,d⟩
theorem Aq{c d f:jF}{t:TypeId}(R:Ah w b #[a,c,d,f] t):jE w (jB b 0 V)=Z a/\jE w (jB b 1 V)=Z c/\jE w (jB b 2 V)=Z d/\jE w (jB b 3 V)=Z f:=⟨R.cell 0,R.cell 1,R.cell 2,R.cell 3⟩
theorem Rp(a m:M3)(n c o:Nat)(L:Nz)(w:jD)(h:Lr w a n c L)(s:Lr w m n o L):Calls jZ 35 #[X a n c,X m n o] w λe w'=>e=.returned (.bool jG)/\Ak w w':=by
 have B:=h.aH;have C:=h.len;go_enter func35,ntmps35;go_wp2_with fail;go_loopw[5,6,14] (λ_ _ i wr=>∃k:Nat,k<=n/\i=T U k/\Ak w wr) (λ_ _ i _=>n-(intOf i).toNat);case atStart=>exact⟨0,zH _,rfl,BRN⟩
 obtain⟨k,D,rfl,d⟩:=hrel;by_cases E:k<n
 .obtain⟨b,F,t,_,c0,c1,c2,c3⟩:=(h.below d NLN).cells k Oa;obtain⟨g,j,u,l,q,d1,d2,d3⟩:=(s.below d NLN).cells k Oa;subst t;subst u;have G:(k:Int)<(n:Int):=Oa;go_wp2_with fail;obtain⟨v,e1,e2,e3⟩:=Aq<|Ah.new wr #[T U L[k].aF,jA L[k].name,T U L[k].cond,T U L[k].aD] 97;have f:=Ar wr<|.cells #[T U L[k].aF,jA L[k].name,T U L[k].cond,T U L[k].aD] 97;have r:=d.trans<|f.mono d.size;have x:=(f.cell (p:=⟨g,j+k*4,V⟩) l).trans q;have y:=(f.cell (p:=⟨g,j+k*4+1,V⟩) l).trans d1;have z:=(f.cell (p:=⟨g,j+k*4+2,V⟩) l).trans d2;have A:=(f.cell (p:=⟨g,j+k*4+3,V⟩) l).trans d3;clear c0 c1 c2 c3 q d1 d2 d3 f d;generalize jK wr (.cells #[T U L[k].aF,jA L[k].name,T U L[k].cond,T U L[k].aD] 97)=w2 at v e1 e2 e3 x y z A r|-;go_region;go_wp2;go_roundw;case rel=>exact⟨k+1,Oa,O0,below_drewN r _⟩
  simp[intOf]<;>omega
 go_wp2;go_ret;exact⟨rfl,d⟩
set_option maxHeartbeats 3200000
def DpI(B R gb:Nat)(a:M3)(n c:Nat)(zs:M4)(wild:Bool)(p:Nat)(N:M7)(L:List<|M1×Int)(nd lt:jF)(t:Nat)(w:jD)(vx vi:jF)(wr:jD):Prop:=∃ (j q:Nat) (M:M7) (nd':jF),1<=j/\j<=t/\vi=T U (j:Int)/\vx=T U (Dn M)/\Hid (Tp zs L j p N q M)/\Y N<=Y M/\Y M<=Y N+j/\IR B R gb a n c zs wild q M L nd' lt wr/\Gk B R gb lt nd w nd' wr
theorem Agj{zs:M4}{L:List (M1×Int)}{j p q a:Nat}{N M b:M7}(h1:1<=j)(h:Tp zs L j p N q M)(hs:Snc q M (opN 9 [Dn M]) a b):Tp zs L (j+1) p N a b:=by obtain⟨rfl,rfl⟩:=hs;obtain⟨k,rfl⟩:∃k,j=k+1:=⟨j-1,Oa⟩;exact⟨M,h,rfl⟩
theorem Q6{B R b:Nat}{a:M3}{n c:Nat}{zs:M4}{wild:Bool}{p:Nat}{N:M7}{L:List (M1×Int)}{nd lt:jF}(h:IR B R b a n c zs wild p N L nd lt w)(hm:Y N+80<=1000000)(o:Y L<=100)(t:Nat)(q:1<=t)(P:t<=70):Calls jZ 78 #[jQ<|Z<|jB b 0 V,T U (t:Int)] w (GnA B R b a n c zs wild N 70 (Tp zs L t p N) L nd lt w):=by
 go_enter func78,ntmps78;go_wp2_with fail;refine(J8 h Oa o 1 Oa).mono ?_;rintro r s ⟨u,i,v,rfl,X1,a1,a2,x,y⟩;have z:=Ab<|show DpI B R b a n c zs wild p N L nd lt t w (T U<|Dn i) (T U 1) s from⟨1,u,i,v,Oa,q,rfl,rfl,X1,a1,a2,x,y⟩;go_wp2_with fail;go_loopw[5,6] (λA d wr=>DpI B R b a n c zs wild p N L nd lt t w A d wr) (λ_ d _=>t-(intOf d).toNat);case atStart=>exact Aa z
 obtain⟨j,C,f,D,E,S,rfl,rfl,X2,b1,b2,k,l⟩:=hrel;by_cases F:j<t
 .have G:(j:Int)<(t:Int):=Oa;go_wp2_with fail;refine(PM k Oa [Dn f] _ 1 rfl rfl Oa 9).mono ?_;rintro r H ⟨I,m,J,rfl,K,b3,b4,M,O⟩;have g:=Ab<|show DpI B R b a n c zs wild p N L nd lt t w (T U<|Dn m) (T U<|(j:Int)+1) H from⟨j+1,I,m,J,Oa,Oa,by rw[Int.natCast_add];rfl,rfl,Ab<|Agj E (Aa X2)<|Aa K,Oa,Oa,M,l.trans O⟩;go_wp2_with fail;exact⟨Aa g,Aa<|Ab<|Agc t j F⟩
 have G:¬ ((j:Int)<(t:Int)):=Oa;have g:=Ab<|show GnA B R b a n c zs wild N 70 (Tp zs L t p N) L nd lt w (.returned<|T U<|Dn f) wr from⟨C,f,D,rfl,by rw[(Oa:t=j)];exact X2,b1,Oa,k,l⟩;go_wp2;go_ret;exact Aa g
def Yd(k:Nat):M1:=[⟨#[118]⟩,⟨#[119]⟩,⟨#[98,97,115,101]⟩,⟨#[120,95,49]⟩].getD k ⟨#[]⟩
def Yc(k:Nat):M1:=[⟨#[118,48]⟩,⟨#[97,115,107,101,100]⟩,⟨#[110,111,119]⟩].getD k ⟨#[]⟩
def MS(wild:Bool)(x:Int)(m:Nat):M1:=if wild=jG/\245<x then Yc (x%3).toNat else Yd (x/12%4).toNat++Ig m
abbrev Lts:=List<|M1×Int
def Pz(zs:M4)(wild:Bool)(L:Lts)(x:Int)(p:Nat)(N:M7)(q:Nat)(M:M7):Prop:=if x=254 then Tp zs L (64-(nx zs p).1%2).toNat (nx zs p).2 N q M else NL zs L wild 5 1 p N q M
def PB(zs:M4)(wild:Bool)(m:Nat)(L:Lts)(x:Int)(p:Nat)(N:M7)(q:Nat)(M:M7)(s:St)(K:Lts):Prop:=if x%3=0 then NL zs L wild 4 (1+x/3%4) p N q M/\s=⟨1,MS wild x m,Dn M,-1⟩/\K=L++[(MS wild x m,1+x/3%4)]else if x%3=1 then ∃q1 N1,Pz zs wild L x p N q1 N1/\NL zs L wild 4 4 q1 N1 q M/\s=⟨2,⟨#[]⟩,Dn N1,Dn M⟩/\K=L else Pz zs wild L x p N q M/\s=⟨2,⟨#[]⟩,Dn M,-1⟩/\K=L
theorem Pz.aM{zs:M4}{wild:Bool}{L:Lts}{x:Int}{p q b:Nat}{N M d:M7}(h:Pz zs wild L x p N q M)(a:Pz zs wild L x p N b d):q=b/\M=d:=by
 unfold Pz at h a;split at h
 .rename_i c;rw[K1 c]at a;exact h.aM a
 rename_i c;rw[K0 c]at a;exact NL.aM _ _ _ _ _ _ _ _ _ _ _ h a
theorem PB.aM{zs:M4}{wild:Bool}{m:Nat}{L K b:Lts}{x:Int}{p q d:Nat}{N M f:M7}{s g:St}(h:PB zs wild m L x p N q M s K)(a:PB zs wild m L x p N d f g b):q=d/\M=f/\s=g/\K=b:=by
 unfold PB at h a;split at h
 .rename_i c;rw[K1 c]at a;obtain⟨rfl,rfl⟩:=NL.aM _ _ _ _ _ _ _ _ _ _ _ h.1 a.1;exact⟨rfl,rfl,by rw[h.2.1,a.2.1],by rw[h.2.2,a.2.2]⟩
 rename_i c;rw[K0 c]at a;split at h
 .rename_i c;rw[K1 c]at a;obtain⟨q1,N1,a1,a2,a3,a4⟩:=h;obtain⟨i,j,b1,b2,b3,b4⟩:=a;obtain⟨rfl,rfl⟩:=a1.aM b1;obtain⟨rfl,rfl⟩:=NL.aM _ _ _ _ _ _ _ _ _ _ _ a2 b2;exact⟨rfl,rfl,by rw[a3,b3],by rw[a4,b4]⟩
 rename_i c;rw[K0 c]at a;obtain⟨rfl,rfl⟩:=h.1.aM a.1;exact⟨rfl,rfl,by rw[h.2.1,a.2.1],by rw[h.2.2,a.2.2]⟩
def MR(zs:M4)(wild:Bool):Nat->Nat->M7->Nz->Lts->Nat->M7->Nz->Lts->Prop|0,p,N,S,L,q,M,Tt,K=>q=p/\M=N/\Tt=S/\K=L|k+1,p,N,S,L,q,M,Tt,K=>if 4<(Y zs:Int)-(p:Int)then ∃p1 N1 s L1,PB zs wild (Y S) L (nx zs p).1 (nx zs p).2 N p1 N1 s L1/\MR zs wild k p1 N1 (S++[s]) L1 q M Tt K else q=p/\M=N/\Tt=S/\K=L
theorem MR.aM{zs:M4}{wild:Bool}:∀{k p q a:Nat}{N M b:M7}{S T d:Nz}{L K f:Lts},MR zs wild k p N S L q M T K->MR zs wild k p N S L a b d f->q=a/\M=b/\T=d/\K=f
 |0,_,_,_,_,_,_,_,_,_,_,_,_,h,h'=>⟨by rw[h.1,h'.1],by rw[h.2.1,h'.2.1],by rw[h.2.2.1,h'.2.2.1],by rw[h.2.2.2,h'.2.2.2]⟩|k+1,_,_,_,_,_,_,_,_,_,_,_,_,h,h'=>by
  unfold MR at h h';split at h
  .rename_i c;rw[K1 c]at h';obtain⟨p1,N1,s,g,a1,a2⟩:=h;obtain⟨i,j,l,m,b1,b2⟩:=h';obtain⟨rfl,rfl,rfl,rfl⟩:=a1.aM b1;exact MR.aM a2 b2
  rename_i c;rw[K0 c]at h';exact⟨by rw[h.1,h'.1],by rw[h.2.1,h'.2.1],by rw[h.2.2.1,h'.2.2.1],by rw[h.2.2.2,h'.2.2.2]⟩
def Ai7(zs:M4)(wild:Bool)(L:Lts)(x:Int)(p:Nat)(N:M7)(S:Nz)(M:M7)(T:Nz):Prop:=if 0<x%3 then ∃q,NL zs L wild 3 4 p N q M/\T=S++[⟨3,⟨#[]⟩,-1,Dn M⟩]else M=N/\T=S++[⟨3,⟨#[]⟩,-1,-1⟩]
def ZC(zs:M4)(wild:Bool)(p:Nat)(M:M7)(T:Nz):Prop:=∃q N S L,MR zs wild 14 p [] [] [] q N S L/\Ai7 zs wild L (nx zs q).1 (nx zs q).2 N S M T
theorem ZC.aM{zs:M4}{wild:Bool}{p:Nat}{M a:M7}{T b:Nz}(h:ZC zs wild p M T)(d:ZC zs wild p a b):M=a/\T=b:=by
 obtain⟨q,N,S,L,a1,a2⟩:=h;obtain⟨f,g,i,j,b1,b2⟩:=d;obtain⟨rfl,rfl,rfl,rfl⟩:=a1.aM b1;unfold Ai7 at a2 b2;split at a2
 .rename_i c;rw[K1 c]at b2;obtain⟨k,c1,c2⟩:=a2;obtain⟨l,d1,d2⟩:=b2;obtain⟨rfl,rfl⟩:=NL.aM _ _ _ _ _ _ _ _ _ _ _ c1 d1;exact⟨rfl,by rw[c2,d2]⟩
 rename_i c;rw[K0 c]at b2;exact⟨by rw[a2.1,b2.1],by rw[a2.2,b2.2]⟩
section
variable{zs:M4}{wild:Bool}{L:Lts}{x:Int}{p p1 q q1 m:Nat}{N N1 M:M7}{S:Nz}
theorem Ai6(e:x%3=0)(h:NL zs L wild 4 (1+x/3%4) p N q M){nm:M1}(a:nm=MS wild x m):PB zs wild m L x p N q M ⟨1,nm,Dn M,-1⟩<|L++[(nm,1+x/3%4)]:=by grind[PB]
theorem Ad0(e:x%3=1)(h:Pz zs wild L x p N q1 N1)(h2:NL zs L wild 4 4 q1 N1 q M):PB zs wild m L x p N q M ⟨2,⟨#[]⟩,Dn N1,Dn M⟩ L:=by grind[PB]
theorem Ye(a:¬ x%3=0)(e:¬ x%3=1)(h:Pz zs wild L x p N q M):PB zs wild m L x p N q M ⟨2,⟨#[]⟩,Dn M,-1⟩ L:=by grind[PB]
theorem Agm{y:Int}{a:Nat}(e:x=254)(X:Hid<|nx zs p=(y,a))(ht:(t:Int)=64-y%2)(h:Tp zs L t a N q M):Pz zs wild L x p N q M:=by grind[Pz,Aa]
theorem Yf(e:¬ x=254)(h:NL zs L wild 5 1 p N q M):Pz zs wild L x p N q M:=by grind[Pz]
theorem KN{s:St}{K a:Lts}{T:Nz}(d:Y S<14)(hy:4<(Y zs:Int)-(p:Int))(X:Hid<|nx zs p=(x,p1))(h:PB zs wild (Y S) L x p1 N q M s a)(f:MR zs wild (14-Y (S++[s])) q M (S++[s]) a b c T K):MR zs wild (14-Y S) p N S L b c T K:=by obtain⟨j,g⟩:∃j,14-Y S=j+1:=⟨14-Y S-1,Oa⟩;grind[MR,Aa]
theorem Yg(h:¬ Y S<14\/¬ 4<(Y zs:Int)-(p:Int)):MR zs wild (14-Y S) p N S L p N S L:=by cases a:14-Y S with|zero=>exact⟨rfl,rfl,rfl,rfl⟩|succ j=>grind[MR]
end
theorem IA{o:Rs}{f:Int->Rs}(h:∀a,o=.ok a->inX (f a)):inX<|o.bind f:=by cases o with|error e=>intro a k;cases k|ok a=>exact h a rfl
theorem Qs{K:N7}(h:∀d∈K,1<=d.dA/\d.dA<=4):∀(e:Ex),inX (BH K e)
 |.int ..,a,k=>Gs|.text ..,a,k=>Gs|.bool ..,a,k=>Gs|.set ..,a,k=>Gs|.name i s,a,k=>Qr (f:=(7,i)) (o:=(JE K s).map Dc.dA) (λb e=>by cases hf:JE K s with|none=>rw[hf]at e;cases e|some d=>rw[hf]at e;cases e;exact h d (AiJ hf).1) a k|.attr _ n,a,k=>by cases k;exact Qt n|.lett i n,a,k=>Qr (f:=(7,i)) (o:=ltT K n) (λb e=>by
   unfold ltT at e;split at e
   .obtain⟨d,hd,rfl⟩:=Z6.1 e;exact h d<|List.mem_of_mem_drop<|zX hd
   cases e) a k|.un i op e,a,k=>IA (λb _=>Qr<|Xt op b) a k|.bin i op e f,a,k=>IA (λb _=>IA λc _=>Qr<|Xu op b c) a k|.ite i e f g,a,k=>IA (λb _=>IA λc hc=>IA λd _=>Qr<|Xv b c d<|Qs h f c hc) a k
def IS:N7:=[⟨⟨#[99,108,105,101,110,116]⟩,jI,0,3⟩,⟨⟨#[117,115,101,114]⟩,jI,1,3⟩,⟨⟨#[108,101,118,101,108]⟩,jI,2,2⟩,⟨⟨#[110,111,119]⟩,jI,3,2⟩,⟨⟨#[97,115,107,101,100]⟩,jI,4,4⟩,⟨⟨#[97,103,114,101,101,100]⟩,jI,5,4⟩]
def Ww:Nat->M6->M4->N7|k,n::ns,t::ts=>⟨n,jG,k,t⟩::Ww (k+1) ns ts|_,_,_=>[]
def CM(ns:M6)(ts:M4):N7:=IS++Ww 0 ns ts
noncomputable def nmR(ns:M6)(ts:M4)(s:M1):Rc:=if 0<=AH s AE 0 then .ok (Bc<|AH s AE 0)else if 0<=AH s ns 0 then ofC 7 ts[(AH s ns 0).toNat]?else .error 7
theorem Qw(s:M1):∀(L:M6)(k:Int),0<=k->(AH s L k=-1/\s ∉ L)\/(k<=AH s L k/\AH s L k<k+Y L):=by intro L;induction L<;>intros<;>grind[AH]
theorem Qx(s:M1):∀(ns:M6)(ts:M4)(k:Nat),Y ns=Y ts->(AH s ns k=-1/\JE (Ww k ns ts) s=V)\/∃(j:Nat)(t:Int),AH s ns k=((k+j:Nat):Int)/\ts[j]?=Z t/\JE (Ww k ns ts) s=Z ⟨s,jG,((k+j:Nat):Int),t⟩
 |[],[],k,_=>.inl ⟨by simp[AH],rfl⟩|n::ns,t::ts,k,h=>by
  rw[AH,Ww];by_cases e:n=s
  .rw[K1 e];exact .inr ⟨0,t,rfl,rfl,by rw[JE,List.find?_cons_of_pos<|by simpa using e,e];rfl⟩
  rw[K0 e];have e2:JE (⟨n,jG,(k:Int),t⟩::Ww (k+1) ns ts) s=JE (Ww (k+1) ns ts) s:=by rw[JE,List.find?_cons_of_neg<|by simpa using e];rfl
  rw[e2];obtain⟨h1,h2⟩|⟨j,a,h1,h2,h3⟩:=Qx s ns ts (k+1) P4
  .grind
  refine .inr ⟨j+1,a,?_,Hv,?_⟩;all_goals grind|[],_::_,_,h=>O6|_::_,[],_,h=>O6
def atD:Nat->M6->N7|k,n::ns=>⟨n,jI,k,Bc k⟩::atD (k+1) ns|_,[]=>[]
theorem AfG(s:M1):∀(ns:M6)(k:Nat),(AH s ns k=-1/\JE (atD k ns) s=V)\/∃j:Nat,j<Y ns/\AH s ns k=((k+j:Nat):Int)/\JE (atD k ns) s=Z ⟨s,jI,((k+j:Nat):Int),Bc ((k+j:Nat):Int)⟩
 |[],k=>.inl ⟨by simp[AH],rfl⟩|n::ns,k=>by
  rw[AH,atD];by_cases e:n=s
  .grind[JE]
  rw[K0 e];have e2:JE (⟨n,jI,(k:Int),Bc (k:Int)⟩::atD (k+1) ns) s=JE (atD (k+1) ns) s:=by rw[JE,List.find?_cons_of_neg<|by simpa using e];rfl
  rw[e2];obtain⟨h1,h2⟩|⟨j,a,h1,h3⟩:=AfG s ns<|k+1
  .grind
  have en:k+1+j=k+(j+1):=Oa;refine .inr ⟨j+1,by simpa using a,?_,?_⟩;all_goals grind
theorem AiL:IS=atD 0 AE:=rfl
theorem PK(s:M1):(AH s AE 0=-1/\JE IS s=V)\/∃j:Nat,j<6/\AH s AE 0=(j:Int)/\JE IS s=Z ⟨s,jI,(j:Int),Bc (j:Int)⟩:=by
 rw[AiL];obtain⟨h1,h2⟩|⟨j,a,h1,h2⟩:=AfG s AE 0
 .grind
 rw[zT]at h1 h2;exact .inr ⟨j,a,h1,h2⟩
theorem KI(A B:N7)(s:M1):JE (A++B) s=match JE A s with|some d=>Z d|none=>JE B s:=by grind[JE]
def cR:Rs->Rc|.ok t=>.ok t|.error f=>.error f.1
theorem ME:∀(ns:M6)(ts:M4)(k:Nat),Y ns=Y ts->(Ww k ns ts).map Dc.dA=ts/\(Ww k ns ts).map Dc.name=ns|[],[],k,_=>⟨rfl,rfl⟩|n::ns,t::ts,k,h=>by obtain⟨h1,h2⟩:=ME ns ts (k+1) P4;grind[Ww]|[],_::_,_,h=>O6|_::_,[],_,h=>O6
theorem AfH{ns:M6}(h:Y ns=Y ts)(n:Int):ltT (CM ns ts) n=if 0<=n then ts[n.toNat]?else V:=by rw[ltT,show(CM ns ts).drop 6=Ww 0 ns ts from rfl,<-zi,(ME ns ts 0 h).1]
theorem AkS(ns:M6)(ts:M4)(h:Y ns=Y ts)(i:Int)(s:M1):nmR ns ts s=cR (BH (CM ns ts)<|.name i s):=by
 rw[BH,CM,KI,nmR];obtain⟨h1,h2⟩|⟨j,b,h1,h2⟩:=PK s
 .rw[h1,h2,K0 Ob];obtain⟨g1,g2⟩|⟨j,t,g1,g2,g3⟩:=Qx s ns ts 0 h
  .have a:AH s ns 0=-1:=g1;rw[a,g2,K0 Ob];rfl
  have a:AH s ns 0=(j:Int):=by have:=g1;simpa using this
  rw[a,g3,K1 Oa,zP,g2];rfl
 rw[h1,h2,K1 Oa];rfl
set_option maxRecDepth 100000
set_option maxHeartbeats 1600000
structure Ltm(w:jD)(lb:Nat)(xa:M3)(nn cc:Nat)(ns:M6)(la:M3)(ln lc:Nat)(ts:M4):Prop where
 c0:jE w (jB lb 0 V)=Z (X xa nn cc)c1:jE w (jB lb 1 V)=Z (X la ln lc)lt:lb<Array.size (World.heap w)nms:Nms w xa ns
 nl:Y ns=nn
 aH:nn<=1048576
 ints:BN w la ln lc ts
 same:Y ns=Y ts
theorem Ltm.below{w w':jD}{lb:Nat}{b:M3}{nn cc:Nat}{ns:M6}{c:M3}{d f:Nat}{ts:M4}(h:Ltm w lb b nn cc ns c d f ts)(a:Ak w w'):Ltm w' lb b nn cc ns c d f ts:=⟨(a.cell (p:=(jB lb 0 V)) h.lt).trans h.c0,(a.cell (p:=(jB lb 1 V)) h.lt).trans h.c1,zG h.lt a.size,h.nms.below a NLN,h.nl,h.aH,h.ints.below a NLN,h.same⟩
theorem XA(a:M3)(n c:Nat)(N:M7)(lb:Nat)(w:jD)(y:GN w a n c N)(i:Nat)(x:Nd)(hx:N[i]?=Z x)(J:x.op=5)(z:M3)(nn cc:Nat)(ns:M6)(K:M3)(A L:Nat)(ts:M4)(M:Ltm w lb z nn cc ns K A L ts):Calls jZ 109 #[X a n c,T U i,jQ<|Z<|jB lb 0 V] w (NdC (nmR ns ts x.text) w):=by
 have ad:=y.len;have hi:i<Y N:=(zL.1 hx).1;have O:N[i]=x:=(zL.1 hx).2;have ae:(i:Int)<(n:Int):=Oa;obtain⟨b,af,rfl,ag,an,m,cn,o,p,q,c0,c1,c2,c3,c4,ah,P⟩:=y.cells i hi;rw[O]at c0 c1 c2 P;rw[J]at c0;have B:=Ah.new w #[T U 5,T U x.num,jA x.text,X an m cn,X o p q] 112;have j:=Ar w<|CW 5 x.num x.text an m cn o p q;have C:=M.below j;have S:∃D,D=jK w (CW 5 x.num x.text an m cn o p q):=⟨_,rfl⟩;generalize x.num=ai at*;generalize x.text=d at*;go_enter func109,ntmps109;go_wp2_with fail;obtain⟨D,W⟩:=S;rw[<-W]at B j C|-;refine(Gl d _).mono ?_;rintro E aa ⟨rfl,r⟩;have s:=j.trans<|r.mono j.size;have g:=C.below r;obtain⟨aj,ak,al,ao,ap⟩:=Cp<|B.aB r NLN;by_cases h0:0<=AH d AE 0
 .have h:=Ab (show nmR ns ts d=.ok (Bc<|AH d AE 0)by rw[nmR,K1 h0]);generalize AH d AE 0=u at h0 h;go_wp2_with fail;refine(JT u _).mono ?_;rintro E w2 ⟨rfl,rfl⟩;go_wp2;exact K8 (v:=jS #[T U<|Bc u,T U 0]) P2 rfl ⟨⟨_,_,rfl,.inl ⟨rfl,Aa h⟩⟩,s⟩
 have h:=Ab (show nmR ns ts d=if 0<=AH d ns 0 then ofC 7 ts[(AH d ns 0).toNat]?else .error 7 by rw[nmR,K0 h0]);generalize AH d AE 0=u at h0;go_wp2_with fail;refine(Aa<|Ab<|MF lb z nn cc ns d aa g.c0 g.lt g.nl g.aH g.nms).mono ?_;rintro E w2 ⟨rfl,F⟩;have G:=s.trans<|F.mono s.size;have k:=g.below F;have aq:=Qw d ns 0 Oa;by_cases h1:0<=AH d ns 0
 .obtain⟨f,H⟩:∃f:Nat,AH d ns 0=f:=⟨(AH d ns 0).toNat,Oa⟩;have I:f<Y ts:=G7 k.same;have l:=Ab (show nmR ns ts d=.ok ts[f]by rw[Aa h,K1 h1,H,zP,zE I];rfl);rw[H];obtain⟨ar,au,ab,av,ac⟩:=k.ints.cells f I;have e1:=k.c1;rw[ab]at e1;have aw:(f:Int)<(A:Int):=G7 k.ints.len;generalize ts[f]=t at ac l;have ax:¬ ((f:Int)<0):=Oa;go_wp2;exact K8 (v:=jS #[T U t,T U 0]) P2 rfl ⟨⟨_,_,rfl,.inl ⟨rfl,Aa l⟩⟩,G⟩
 have l:=Ab (show nmR ns ts d=.error 7 by rw[Aa h,K0 h1]);generalize AH d ns 0=f at h1;go_wp2;exact K8 (v:=jS #[T U 0,T U 7]) P2 rfl ⟨⟨_,_,rfl,.inr ⟨Ob,Aa l⟩⟩,G⟩
theorem AiM(h:8<=op/\op<=10)(b:N7)(i:Int)(k:Ex):NU op [cR<|BH b k]=cR (BH b<|.un i op k):=by rw[BH];cases BH b k with|error f=>rfl|ok a=>show ofC 9 (nz<|Ec op [a])=cR (ofO (9,i)<|nz<|Ba op [a]);rw[AfI op a h];cases nz (Ba op [a])<;>rfl
theorem AfJ(h:11<=op/\op<=26){c:N7}(g:∀d∈c,1<=d.dA/\d.dA<=4)(i:Int)(k l:Ex):NU op [cR<|BH c k,cR<|BH c l]=cR (BH c<|.bin i op k l):=by rw[BH];have j:=Qs g k;cases m:BH c k with|error f=>rfl|ok a=>have:=j a m;cases BH c l with|error f=>rfl|ok b=>show ofC 9 (nz<|Ec op [a,b])=cR (ofO (9,i)<|nz<|Ba op [a,b]);rw[Adz op a b h Oa];cases nz (Ba op [a,b])<;>rfl
theorem AfK{c:N7}(g:∀d∈c,1<=d.dA/\d.dA<=4)(i:Int)(k l m:Ex):NU 27 [cR<|BH c k,cR<|BH c l,cR<|BH c m]=cR (BH c<|.ite i k l m):=by rw[BH];have h:=Qs g l;cases n:BH c k with|error f=>rfl|ok a=>cases j:BH c l with|error f=>rfl|ok b=>have:=h b j;cases BH c m with|error f=>rfl|ok d=>show ofC 9 (nz<|Ec 27 [a,b,d])=cR (ofO (9,i)<|nz<|Ba 27 [a,b,d]);rw[AdA a b d Oa];cases nz (Ba 27 [a,b,d])<;>rfl
theorem XB(a:M3)(n c:Nat)(N:M7)(F:∀x∈N,FdX x)(lb:Nat)(B:M3)(nn cc:Nat)(ns:M6)(r:M3)(s z:Nat)(ts:M4)(D:∀d∈CM ns ts,1<=d.dA/\d.dA<=4){i:Nat}{e:Ex}(t:Be N i e):∀w,GN w a n c N->Ltm w lb B nn cc ns r s z ts->Calls jZ 109 #[X a n c,T U i,jQ<|Z<|jB lb 0 jc] w (NdC (cR<|BH (CM ns ts) e) w):=by have C:∀{i:Nat}{x:Nd},N[i]?=Z x->FdX x:=λhx=>F _<|zX hx;have A:∀{i:Nat}{x:Nd},N[i]?=Z x->Jw x.op->x.aC=[]->∀w,GN w a n c N->Calls jZ 109 #[X a n c,T U i,jQ<|Z<|jB lb 0 jc] w (NdC (NU x.op []) w):=λ{i x}hx b p w h1=>MC a n c N lb w h1 i x hx b (XC b (C hx).1) [] (by rw[p];rfl) (λj h=>K4 h<|by rw[p];simp);have J:∀{i:Nat}{x:Nd}{os:W0},N[i]?=Z x->Jw x.op->∀w,GN w a n c N->Ltm w lb B nn cc ns r s z ts->Y os=Y x.aC->(∀(j:Nat) (y:Int) (o:Rc),x.aC[j]?=Z y->os[j]?=Z o->∀q,GN q a n c N->Ltm q lb B nn cc ns r s z ts->Calls jZ 109 #[X a n c,T U y,jQ<|Z<|jB lb 0 jc] q (NdC o q))->Calls jZ 109 #[X a n c,T U i,jQ<|Z<|jB lb 0 jc] w (NdC (NU x.op os) w):=λ{i x os}hx b w h1 h2 hl V=>MC a n c N lb w h1 i x hx b (XC b (C hx).1) os hl (λj h G q E=>V j _ _ (zE h) (zE G) q (h1.below E NLN)<|h2.below E);induction t with|int h b p=>intro w h1 _;have:=A h (by rw[b];unfold Jw;omega) p w h1;rw[b]at this;exact this|text h b p=>intro w h1 _;have:=A h (by rw[b];unfold Jw;omega) p w h1;rw[b]at this;exact this|bool h b p=>intro w h1 _;have:=A h (by rw[b];unfold Jw;omega) p w h1;rw[b]at this;exact this|set h b p _ _ _=>intro w h1 _;have:=A h (by rw[b];unfold Jw;omega) p w h1;rw[b]at this;exact this|@name i x h b p=>intro w h1 h2;rw[<-AkS ns ts h2.same];grind[XA]|attr h b p=>intro w h1 _;exact XE a n c N lb w h1 _ _ h b|@lett i x h b p=>intro w h1 h2;have h0:=(C h).2 b;rw[show cR (BH (CM ns ts)<|.lett i x.num)=ofC 7 ts[x.num.toNat]?by rw[BH,AfH h2.same,K1 h0];cases ts[x.num.toNat]?<;>rfl];exact XF a n c N lb w h1 _ _ h b h0 r s z ts h2.c1 h2.lt h2.ints|@un i k x e h b p hi t K=>intro w h1 h2;rw[<-AiM b];grind[Jw]|@bin i k l x e f h b p hi t u H I=>intro w h1 h2;rw[<-AfJ b D];grind[Jw]|@ite i k l m x e f g h b p hi t u v H I L=>intro w h1 h2;rw[<-AfK D,<-b];grind[Jw]
def Pf(v:jF):Prop:=v=.nilIface\/∃t u,v=.iface t u
def BK(Es:M8)(k:Int):Nat:=if k=-1 then 0 else match Es[k.toNat]?with|some e=>e.aL|none=>0
def Dv(Es:M8)(L:Nz):Nat:=(L.map λs=>BK Es s.cond+BK Es s.aD).sum
theorem Kd.row{B a b:Nat}{lv c d f:jF}{w':jD}(h:Kd B a b lv c w d f w'){cs:Array jF}{t:TypeId}(R:Ah w g cs t)(h1:g≠a)(h2:g≠b)(h3:jO lv≠Z g)(h4:jO c≠Z g):Ah w' g cs t/\jO d≠Z g/\jO f≠Z g:=by
 refine⟨⟨(h.aV g R.lt h1 h2 (λe=>h3 e.symm) λe=>h4 e.symm).trans R.out⟩,λe=>?_,λe=>?_⟩
 .obtain e2|e2:=h.newl g e
  .exact h3 e2
  have:=R.lt;omega
 obtain e2|e2:=h.newt g e
 .exact h4 e2
 have:=R.lt;omega
theorem FM{Es:M8}{k:Int}{m:Nat}{e:Ex}(h:k=(m:Nat))(he:Es[m]?=Z e):BK Es k=e.aL:=by grind[BK]
theorem Uj(Es:M8)(L:Nz)(k:Nat)(h:k<Y L):Dv Es (L.take k)+(BK Es L[k].cond+BK Es L[k].aD)<=Dv Es L:=by grind[Z3,Dv,List.getElem_cons_drop]
abbrev Cs:=N7×M4×M4
def AfC(D:N7)(ts tt:M4)(nm:M1)(i:Int)(ot:Rs)(ys:M4):Except (Int×Int) Cs:=match ot with|.ok t=>if (JE D nm).isSome then .error (8,i)else .ok (D++[⟨nm,jG,Y ts,t⟩],ts++[t],tt++ys)|.error f=>.error f
def Jp(c:Int)(D:N7)(ts tt:M4)(i:Int)(ot:Rs)(ys:M4):Except (Int×Int) Cs:=match ot with|.ok t=>if t=c then .ok (D,ts,tt++ys)else .error (9,i)|.error f=>.error f
theorem J3(h:CG s=jG):s.size<=32:=by
 unfold CG at h;have e:Y (JB s)=s.size:=by simp[JB]
 grind
theorem Wk(h:BM s=jG):s.size<=32:=by grind[BM]
theorem GV(h:Ax ss=jG):Y ss<=64/\∀x∈ss,x.size<=32:=by unfold Ax at h;simp only[zF,zO]at h;refine⟨h.1,λx hx=>?_⟩;have:=zo.1 h.2.1 x hx;grind[vnB]
theorem Eh{N:M7}{i:Nat}{Es:M8}(b:Y Es=i)(a:∀j,(h:j<Y Es)->Be N j Es[j]){k:Int}(c:0<=k/\k<i):∃(m:Nat)(e:Ex),k=m/\m<i/\Es[m]?=Z e/\Be N m e:=by refine⟨k.toNat,Es[k.toNat]' Oa,Oa,Oa,zE _,a _ _⟩
theorem AkU{N:M7}{i:Nat}{x:Nd}{nn:Nat}(hx:N[i]?=Z x)(hf:By x=jG)(b:∀k∈x.aC,0<=k/\k<i)(B:x.num<=9223372036854775807){Es:M8}(c:Y Es=i)(d:∀j,(h:j<Y Es)->Be N j Es[j])(C:∀e∈Es,e.dX w)(hS:Am w an nn cn x.aE):∃e,MkT Es i x an nn cn e/\Be N i e/\e.dX w:=by
 unfold By at hf;rw[zF,zO]at hf;obtain⟨F,hf⟩:=hf;have u:∀n:Nat,Ci x.op=n->Y x.aC=n:=λn e=>Oa;have r:(1<=x.op/\x.op<=7)->x.aC=[]:=λh=>z4 (u 0<|by rw[Ci,K1 h];rfl);have q:∀{m:Nat}{e:Ex},Es[m]?=Z e->e.dX w:=λh=>C _<|zX h;by_cases h1:x.op=1
 .rw[K1 h1]at hf;simp only[zF,zO]at hf;exact⟨_,.int h1,.int hx h1<|r Oa,hf.1.1,B⟩
 rw[K0 h1]at hf;by_cases h2:x.op=2
 .rw[K1 h2]at hf;simp only[zF,zO]at hf;exact⟨_,.text h2,.text hx h2<|r Oa,Wk hf.1.1⟩
 rw[K0 h2]at hf;by_cases h3:x.op=3
 .exact⟨_,.bool h3,.bool hx h3<|r Oa,trivial⟩
 rw[K0 h3]at hf;by_cases h4:x.op=4
 .rw[K1 h4]at hf;simp only[zF,zO]at hf;obtain⟨s1,s2⟩:=GV hf.1.1;exact⟨_,.set h4,.set hx h4 (r Oa) an nn cn,hS,G7 hS.len,s2⟩
 rw[K0 h4]at hf;by_cases h5:x.op=5
 .rw[K1 h5]at hf;simp only[zF,zO]at hf;exact⟨_,.name h5,.name hx h5<|r Oa,J3 hf.1.1⟩
 rw[K0 h5]at hf;by_cases h6:x.op=6\/x.op=7
 .grind
 by_cases h8:8<=x.op/\x.op<=10
 .have s:=u 1 (by rw[Ci,K0 Oa,K1 h8];rfl);match a:x.aC,s with|[k],_=>obtain⟨m,e,rfl,hm,g1,g2⟩:=Eh c d<|b k Hm;exact⟨_,.un h8 a g1,.un hx h8 a hm g2,h8,q g1⟩
 by_cases h11:11<=x.op/\x.op<=26
 .have s:=u 2 (by rw[Ci,K0 Oa,K0 h8,K1 h11];rfl);match a:x.aC,s with|[k,l],_=>obtain⟨m,e,rfl,hm,g1,g2⟩:=Eh c d<|b k Hm;obtain⟨n,f,rfl,v,t,y⟩:=Eh c d<|b l Hm;exact⟨_,.bin h11 a g1 t,.bin hx h11 a ⟨hm,v⟩ g2 y,h11,q g1,q t⟩
 by_cases z:x.op=27
 .have s:=u 3 (by rw[Ci,K0 Oa,K0 h8,K0 h11,K1 z];rfl);match a:x.aC,s with|[k,l,o],_=>obtain⟨m,e,rfl,hm,g1,g2⟩:=Eh c d<|b k Hm;obtain⟨n,f,rfl,v,t,y⟩:=Eh c d<|b l Hm;obtain⟨p,g,rfl,D,A,E⟩:=Eh c d<|b o Hm;exact⟨_,.ite z a g1 t A,.ite hx z a ⟨hm,v,D⟩ g2 y E,q g1,q t,q A⟩
 grind[Ci]
theorem Pg{K:List M4}{a b:Nat}{c:List (Nat×Nat)}(h:As K a c b):∀t,a<=t->t<b->∃ks:List<|Nat×Nat,K[t]?=Z (Al ks)/\∀p∈ks,p.1<t:=by induction h with|nil a=>omega|@cons a t b ks c d ht hf g i2=>
   intro q h1 h2;by_cases h3:q<t
   .grind
   by_cases h4:q=t
   .subst h4;exact⟨ks,ht,λp f=>(d.lt p f).2⟩
   grind
theorem AfW{e:Ex}:∀{Es:M8},e∈Es->e.aL<=QV Es:=by intro Es;induction Es<;>intros<;>grind[QV,Ex.aL]
theorem QU:∀{L:Nz},Br L=jG->∀s∈L,DY s=jG:=by intro L;induction L<;>intros<;>grind[Br]
set_option linter.unusedSimpArgs false
def Gn(N:M7)(L:Nz):Bool:=decide (Y N<=4000)&&(decide (1<=Y L/\Y L<=600)&&Br L)&&N.all By&&Dy N L
structure AfO(N:M7)(L:Nz):Prop where
 n:Y N<=4000
 m0:1<=Y L
 m:Y L<=600
 bX:∀x∈N,By x=jG
 aC:∀(i:Nat)(x:Nd),N[i]?=Z x->∀k∈x.aC,0<=k/\k<(i:Int)cQ:∀s∈L,(s.cond=-1\/(0<=s.cond/\s.cond<Y N))/\(s.aD=-1\/(0<=s.aD/\s.aD<Y N))stm:∀s∈L,(s.aF=1/\s.name.size<=32/\0<=s.cond/\s.aD=-1)\/(s.aF=2/\0<=s.cond)\/(s.aF=3/\s.cond=-1)aL:∀(Es:M8),Y Es=Y N->(∀j,(h:j<Y Es)->Be N j Es[j])->∀s∈L,∀k,(k=s.cond\/k=s.aD)->0<=k->∀e,Es[k.toNat]?=Z e->e.aL<=4000
theorem QB{N:M7}{L:Nz}(h:Gn N L=jG):AfO N L:=by
 simp only[Gn,zF,zO]at h;obtain⟨⟨⟨h1,⟨h2,h3⟩,h4⟩,h5⟩,h6⟩:=h;obtain⟨S,t,ht⟩:∃S,CD (N.map Nd.aC) (Y N) [] 0=Z S/\Al S=L.flatMap Aj:=by rw[Dy]at h6;cases hq:CD (N.map Nd.aC) (Y N) [] 0 with|none=>rw[hq]at h6;cases h6|some S=>rw[hq]at h6;exact⟨S,rfl,M0 h6⟩
 obtain⟨d,_⟩:=De (Y N) (.nil 0) (λp a=>(by cases a)) t;rw[zT]at d;have n:∀s∈L,∀k∈Aj s,∃p∈S,k=(p.1:Int):=λs hs k b=>by
  have:k∈Al S:=by rw[ht];exact List.mem_flatMap.2 ⟨s,hs,b⟩
  rw[Al]at this;obtain⟨p,a,rfl⟩:=zU.1 this;exact⟨p,a,rfl⟩
 have f:∀s∈L,∀k∈Aj s,0<=k/\k<Y N:=λs hs k b=>by obtain⟨p,a,rfl⟩:=n s hs k b;have:=(d.lt p a).2;omega
 have ac:∀s∈L,s.aF≠3->s.cond∈Aj s:=λs _ h=>by rw[Aj,K1 h];simp
 have o:∀s∈L,s.aD≠-1->s.aD∈Aj s:=λs _ h=>by rw[Aj,K1 h];simp
 have u:=QU h4;have stm:∀s∈L,(s.aF=1/\s.name.size<=32/\0<=s.cond/\s.aD=-1)\/(s.aF=2/\0<=s.cond)\/(s.aF=3/\s.cond=-1):=λs hs=>by
  have h:=u s hs;rw[DY]at h;by_cases l:s.aF=1
  .rw[K1 l]at h;simp only[zF,zO]at h;exact .inl ⟨l,J3 h.1,(f s hs _<|ac s hs Oa).1,h.2⟩
  rw[K0 l]at h;by_cases r:s.aF=2
  .exact .inr (.inl ⟨r,(f s hs _<|ac s hs Oa).1⟩)
  rw[K0 r]at h;by_cases c:s.aF=3
  .rw[K1 c]at h;simp only[zF,zO]at h;exact .inr<|.inr ⟨c,h.2⟩
  rw[K0 c]at h;cases h
 refine⟨h1,h2,h3,λx hx=>zo.1 h5 x hx,λi x hx k b=>?_,λs hs=>⟨?_,?_⟩,stm,λEs v w s hs k b h0 e he=>?_⟩
 .have hi:i<Y N:=(zL.1 hx).1;obtain⟨ks,e1,e2⟩:=Pg d i (zH _) hi;rw[zi,hx]at e1;have e3:x.aC=Al ks:=Mk e1;rw[e3,Al]at b;obtain⟨p,a,rfl⟩:=zU.1 b;have:=e2 p a;omega
 .by_cases c:s.aF=3
  .obtain h|h|h:=stm s hs
   .omega
   .omega
   exact .inl h.2
  exact .inr (f s hs _<|ac s hs c)
 .by_cases g:s.aD=-1
  .exact .inl g
  exact .inr (f s hs _<|o s hs g)
 have y:k∈Aj s:=by
  obtain rfl|rfl:=b
  .apply ac s hs;intro c;obtain h|h|h:=stm s hs<;>omega
  exact o s hs Oa
 obtain⟨p,a,rfl⟩:=n s hs k y;have m:∀q∈S,q.1<Y Es:=λq hq=>by rw[v];exact(d.lt q hq).2
 have z:=IW d (S.attach.map λq=>Es[q.1.1]'(m q.1 q.2)) Oz (λj h1 h2=>by have:=w (S[j]).1<|m _<|zI h1;simpa using this);rw[zP]at he;have hm:e∈S.attach.map (λq=>Es[q.1.1]'(m q.1 q.2)):=by refine zU.2 ⟨⟨p,a⟩,List.mem_attach _ _,?_⟩;exact(zL.1 he).2
 have:=AfW hm;omega
theorem Sy(h:Ax ss=jG):Y ss<=64/\JC ss=jG/\Ch ss=jG:=by grind[Ax]
theorem Ac8(h1:Y ss<=64)(h2:JC ss=jG)(h3:Ch ss=jG):Ax ss=jG:=by simp[Ax,h1,h2,h3]
theorem AhN{q:Bool}{x:M1}:x∈CX ss tt q↔x∈ss/\KY tt x=q:=by grind[CX]
theorem Aew(tt:M6)(q:Bool)(h:Ch ss=jG):Ch (CX ss tt q)=jG:=by rw[Ch,zO]at h|-;exact h.filter _
theorem Pp{K:M6}(h:JC ss=jG)(a:∀x∈K,x∈ss):JC K=jG:=by grind[JC]
theorem UZ(tt:M6)(q:Bool)(h:Ax ss=jG):Ax (CX ss tt q)=jG:=by grind[Aew,IH,AhN,Ac8,Sy,Pp]
theorem AhO(h:JC ss=jG)(a:JC tt=jG):JC (ss++tt)=jG:=by grind[JC]
theorem Yv{M:M6}(h1:Ax ss=jG)(h2:Ax tt=jG)(a:Bl (ss++tt) M)(b:Y M<=64):Ax M=jG:=by grind[Bl.dB,Bl.mem,AhO,Ac8,Sy,Pp]
theorem Aec(h1:Ax ss=jG)(h2:Ax tt=jG):Ax (Bq ss tt)=jG:=by grind[CX,Bq,UZ]
theorem Yw(h1:Ax ss=jG)(h2:Ax tt=jG):Ax (AP ss tt)=jG:=by grind[CX,UZ,AP]
def mx(a b:Int):Int:=if a<b then b else a
def Eu:Ex->Int|.un _ _ k=>mx 0 (Eu k)+1|.bin _ _ l r=>mx (mx 0<|Eu l) (Eu r)+1|.ite _ c t e=>mx (mx (mx 0<|Eu c)<|Eu t) (Eu e)+1|_=>1
def dpO:N5->Int|none=>0|some e=>Eu e
theorem Pd(a b:Int):a<=mx a b/\b<=mx a b/\(mx a b=a\/mx a b=b):=by grind[mx]
theorem FN:∀(e:Ex),1<=Eu e/\Eu e<=(e.aL:Int):=by intro e;induction e<;>intros<;>grind[Eu,mx,Pd,Ex.aL]
theorem Ex.cY:∀(e:Ex),1<=e.aL:=by intro e;cases e<;>intros<;>grind[Ex.aL]
def EQ(N:M7)(b:Nat)(M:M7):Prop:=∀j x,M[j]?=Z x->N[b+j]?=Z x
theorem EQ.left{N:M7}(h:EQ N b<|A++B):EQ N b A:=λj x hx=>h j x (by have:=(zL.1 hx).1;rw[zp this];exact hx)
theorem EQ.right{N:M7}{k:Nat}(h:EQ N b<|A++B)(a:Y A=k):EQ N (b+k) B:=λj x hx=>by have:=h (k+j) x (by rw[yB Oa,<-a];rw[(Oa:Y A+j-Y A=j)];exact hx);rw[(Oa:b+k+j=b+(k+j))];exact this
theorem EQ.cK{N:M7}{x:Nd}(h:EQ N b [x]):(N.map Nd.aC)[b]?=Z x.aC:=by have:=h 0 x rfl;grind
theorem mxN{a b:Int}(c:0<=a)(d:0<=b):(mx a b).toNat=max a.toNat b.toNat:=by grind[mx]
theorem Fb:∀(e:Ex)(N:M7)(b:Nat),EQ N b (GY e b)->As (N.map Nd.aC) b [(b+e.aL-1,(Eu e).toNat)] (b+e.aL)|.un i op k,N,b,h=>by rw[GY]at h;have h1:=Fb k N b h.left;have h2:=(h.right<|Bi k b).cK;have c1:=k.cY;have d1:=(FN k).1;have:=As.cons h1 (show(N.map Nd.aC)[b+k.aL]?=Z (Al [(b+k.aL-1,(Eu k).toNat)])from h2)<|.nil _;grind[Eu,mxN,Pd,Ex.aL,EB]|.bin i op l r,N,b,h=>by rw[GY]at h;have h1:=Fb l N b h.left.left;have h2:=Fb r N (b+l.aL)<|h.left.right<|Bi l b;have h3:=(h.right (k:=l.aL+r.aL)<|by rw[zC,Bi,Bi]).cK;have c1:=l.cY;have c2:=r.cY;have d1:=(FN l).1;have d2:=(FN r).1;rw[<-Nat.add_assoc]at h3;have:=As.cons (h1.dQ h2) (show(N.map Nd.aC)[b+l.aL+r.aL]?=Z (Al [(b+l.aL-1,(Eu l).toNat),(b+l.aL+r.aL-1,(Eu r).toNat)])from h3)<|.nil _;grind[Eu,mx,Pd,Ex.aL,EB]|.ite i c t e,N,b,h=>by rw[GY]at h;have h1:=Fb c N b h.left.left.left;have h2:=Fb t N (b+c.aL)<|h.left.left.right<|Bi c b;have h3:=Fb e N (b+c.aL+t.aL) (by have:=h.left.right (k:=c.aL+t.aL) (by rw[zC,Bi,Bi]);rw[<-Nat.add_assoc]at this;exact this);have h4:=(h.right (k:=c.aL+t.aL+e.aL)<|by rw[zC,zC,Bi,Bi,Bi]).cK;have c2:=t.cY;have c3:=e.cY;have d1:=(FN c).1;have d2:=(FN t).1;have d3:=(FN e).1;rw[(Oa:b+(c.aL+t.aL+e.aL)=b+c.aL+t.aL+e.aL)]at h4;have:=As.cons ((h1.dQ h2).dQ h3) (show(N.map Nd.aC)[b+c.aL+t.aL+e.aL]?=Z (Al [(b+c.aL-1,(Eu c).toNat),(b+c.aL+t.aL-1,(Eu t).toNat),(b+c.aL+t.aL+e.aL-1,(Eu e).toNat)])from h4)<|.nil _;grind[Eu,mx,Pd,Ex.aL,EB]|.int i n,N,b,h=>As.cons (.nil b) (show(N.map Nd.aC)[b]?=Z (Al [])from h.cK)<|.nil _|.text i s,N,b,h=>As.cons (.nil b) (show(N.map Nd.aC)[b]?=Z (Al [])from h.cK)<|.nil _|.bool i v,N,b,h=>As.cons (.nil b) (show(N.map Nd.aC)[b]?=Z (Al [])from h.cK)<|.nil _|.set i a n c ss,N,b,h=>As.cons (.nil b) (show(N.map Nd.aC)[b]?=Z (Al [])from h.cK)<|.nil _|.name i s,N,b,h=>As.cons (.nil b) (show(N.map Nd.aC)[b]?=Z (Al [])from h.cK)<|.nil _|.attr i n,N,b,h=>As.cons (.nil b) (show(N.map Nd.aC)[b]?=Z (Al [])from h.cK)<|.nil _|.lett i n,N,b,h=>As.cons (.nil b) (show(N.map Nd.aC)[b]?=Z (Al [])from h.cK)<|.nil _
theorem QK(o:N5)(N:M7)(b:Nat)(h:EQ N b<|PL o b)(hd:dpO o<=64):∃a,As (N.map Nd.aC) b a (b+AQ o)/\Al a=(if o.isSome then[Jx o b]else[])/\∀p∈a,p.2<=64:=by cases o with|none=>exact⟨[],.nil _,rfl,λp c=>by cases c⟩|some e=>
  refine⟨_,Fb e N b h,?_,λp c=>?_⟩
  .simp[Al,Jx]
  rw[zK.1 c];have:Eu e<=64:=hd;show(Eu e).toNat<=64;omega
theorem QL(N:M7):∀(a:M9)(b:Nat),EQ N b (AV b a)->(∀x∈a,dpO x.cond<=64/\dpO x.aD<=64/\(x.aF=3↔x.cond=V))->∃c,As (N.map Nd.aC) b c (b+CB a)/\Al c=(CC b a).flatMap Aj/\∀p∈c,p.2<=64
 |[],b,_,_=>⟨[],.nil _,rfl,λp d=>by cases d⟩|x::a,b,h,hx=>by
  rw[AV]at h;have l1:Y (PL x.cond b)=AQ x.cond:=by cases x.cond<;>simp[PL,AQ,Bi]
  have l2:Y (PL x.aD<|b+AQ x.cond)=AQ x.aD:=by cases x.aD<;>simp[PL,AQ,Bi]
  obtain⟨g,i,r⟩:=hx x (zR ..);obtain⟨j,g1,l,d1⟩:=QK x.cond N b h.left.left g;obtain⟨m,g2,n,d2⟩:=QK x.aD N (b+AQ x.cond) (h.left.right l1) i;obtain⟨o,g3,q,d3⟩:=QL N a (b+AQ x.cond+AQ x.aD) (by have:=h.right (k:=AQ x.cond+AQ x.aD) (by rw[zC,l1,l2]);rw[<-Nat.add_assoc]at this;exact this) λy hy=>hx y<|zV _ hy;refine⟨j++m++o,?_,?_,λp d=>?_⟩
  .grind[Bm,As.dQ]
  .rw[CC,zu,<-q];have f:∀A B:List<|Nat×Nat,Al (A++B)=Al A++Al B:=λA B=>by simp[Al]
   rw[f,f,l,n];congr 1;rw[Aj];congr 1
   .cases hc:x.cond with|none=>grind|some e=>grind
   cases hc:x.aD with|none=>simp[Jx]|some e=>simp[Jx]
  grind
inductive Dr where|out(k:Int)(sc:List ByteArray)|err(c:Int)
noncomputable def Ju(R:Rq)(ls:N6)(Es:M8)(g:Int):Dr:=if g=-1 then .out 1 []else match Es[g.toNat]?with|some e=>(match At R ls e with|.ok (.set ss)=>.out 2 ss|.ok _=>.err 4|.err c=>.err c)|none=>.err 4
noncomputable def CV(R:Rq)(Es:M8):N6->Nz->Dr|ls,[]=>.err 4|ls,s::L=>if s.cond=-1 then Ju R ls Es s.aD else match Es[s.cond.toNat]?with|none=>.err 4|some e=>match At R ls e with|.err c=>.err c|.ok v=>if s.aF=1 then CV R Es (ls++[v]) L else match v with|.bool jG=>Ju R ls Es s.aD|_=>CV R Es ls L
theorem AdI(x:Nd):IX jG x=Bu x:=by unfold IX Bu;simp
theorem Th(x:Nd)(an:M3)(nn cn:Nat)(b:M3)(a c:Nat)(w:jD)(d:Am w an nn cn x.aE)(f:a=Y x.aC)(hs:x.text.size<=1048576)(g:a<=1048576):Calls jZ 54 #[ndV x.op x.num x.text an nn cn b a c,.bool jG] w λe w'=>e=.returned (.bool<|Bu x)/\Ak w w':=by grind[AdI,MK]
end Go.Proofs.YtlcfoihgfcmfeaaGreatDoor

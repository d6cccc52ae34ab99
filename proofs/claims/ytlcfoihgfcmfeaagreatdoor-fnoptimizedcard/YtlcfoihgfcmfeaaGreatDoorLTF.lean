import Derived.Test.YtlcfoihgfcmfeaaGreatDoorMXAO
open Option renaming none->V,some->Z
open List renaming length->Y
open Bool renaming true->jG,false->jI
namespace Go.Proofs.YtlcfoihgfcmfeaaGreatDoor
open Proofs.Tryz
open Proofs.Tryz renaming prog->jZ
set_option maxRecDepth 100000
set_option maxHeartbeats 12800000
open Go.RowKit
set_option linter.unusedVariables false
variable{wild:Bool}{L:List (M1×Int)}{zs:M4}{B:Nat}{a:M2 Addr}{lt:Value}
theorem Anf(x:Int):(x/8%8=0/\Li 1 x=Z (25+x/8/8%2,1,Z 1))\/(x/8%8=1/\Li 1 x=Z (25+x/8/8%2,1,Z 1))\/(x/8%8=2/\Li 1 x=Z (26,1,Z 1))\/(x/8%8=3/\Li 1 x=Z (9,1,V))\/(x/8%8=4/\Li 1 x=Z (23,3,Z 4))\/(x/8%8=5/\Li 1 x=Z (24,4,Z 4))\/(x/8%8=6/\Li 1 x=Z (21+x/8/8%2,2,Z 2))\/(x/8%8=7/\Li 1 x=Z (19+x%2,1+x/8/8,Z<|1+x/8/8)):=by rcases(Oa:x/8%8=0\/x/8%8=1\/x/8%8=2\/x/8%8=3\/x/8%8=4\/x/8%8=5\/x/8%8=6\/x/8%8=7)with e|e|e|e|e|e|e|e<;>simp[Li,e]
theorem Ang(x:Int):(x/8%8=6/\Li 2 x=Z (10,4,V))\/(x/8%8=7/\Li 2 x=Z (8,2,V))\/(x/8%8<6/\Li 2 x=Z (11+x/8%5,2,Z 2)):=by grind[Li]
theorem Anh{ty:Int}(x:Int)(h:ty=1\/ty=2\/ty=3\/ty=4):(ty=1/\x/8%8=0/\Li 1 x=Z (25+x/8/8%2,1,Z 1))\/(ty=1/\x/8%8=1/\Li 1 x=Z (25+x/8/8%2,1,Z 1))\/(ty=1/\x/8%8=2/\Li 1 x=Z (26,1,Z 1))\/(ty=1/\x/8%8=3/\Li 1 x=Z (9,1,V))\/(ty=1/\x/8%8=4/\Li 1 x=Z (23,3,Z 4))\/(ty=1/\x/8%8=5/\Li 1 x=Z (24,4,Z 4))\/(ty=1/\x/8%8=6/\Li 1 x=Z (21+x/8/8%2,2,Z 2))\/(ty=1/\x/8%8=7/\Li 1 x=Z (19+x%2,1+x/8/8,Z<|1+x/8/8))\/(ty=2/\x/8%8=6/\Li 2 x=Z (10,4,V))\/(ty=2/\x/8%8=7/\Li 2 x=Z (8,2,V))\/(ty=2/\x/8%8<6/\Li 2 x=Z (11+x/8%5,2,Z 2))\/(ty=3/\True/\Li 3 x=V)\/(ty=4/\True/\Li 4 x=Z (16+x/8%3,4,Z 4)):=by obtain rfl|rfl|rfl|rfl:=h;all_goals grind[Ang,Li,Anf]
theorem AdZ{R d:Nat}{n c:Nat}(f:Y L<=100):ExD B R d a n c zs wild L lt 0:=by intro ty p N nd w g hm h;have i:Y N+1<=1000000:=hm;go_enter func134,ntmps134;go_wp2_with fail;refine(J8 h i f ty g).mono ?_;intro k l b;have j:=Ab b;obtain⟨m,o,q,rfl,-⟩:=b;dsimp only;go_wp2;go_ret;exact Aa j
theorem AaI{R m:Nat}{n c d:Nat}(z:Y L<=100)(hd:d<=10)(af:ExD B R m a n c zs wild L lt d)(ty:Int)(p:Nat)(N:M7)(nd:Value)(w:World)(ag:ty=1\/ty=2\/ty=3\/ty=4)(G:Y N+tpN (d+1)<=1000000)(h:IR B R m a n c zs wild p N L nd lt w):Calls jZ 134 #[.pointer<|Z<|Addr.mk m 0 V,.int .i64 ty,.int .i64<|(d:Int)+1] w (GnA B R m a n c zs wild N (tpN<|d+1) (NL zs L wild (d+1) ty p N) L nd lt w):=by
 have o:=Ab af;unfold ExD at o;rw[tpN]at G|-;obtain⟨H,I⟩:∃H,H=tpN d:=⟨_,rfl⟩;rw[<-I]at G|-;have g:=Ab I.symm;obtain⟨ah,cn,ai,cl,J,aj,c0,c1,c2,c3⟩:=h.cells;have aQ:¬ ((d:Int)+1<=0):=Oa;have ak:=Ab h.lt.2.2.le;have al:=Ab h.lt.2.2.len;go_enter func134,ntmps134;go_wp2_with fail;refine(Age R a n c zs p w h.lt.2.2).mono ?_;rintro r K ⟨y,rfl,O,aR,aS,P⟩;have i:=h.below P;have A:Gk B R m lt nd w nd K:=Gk.aU P h.lt.1.1;obtain⟨ah,cn,ai,cl,J,aj,c0,c1,c2,c3⟩:=i.cells;rw[J]at c1;by_cases hy:y=0;case' pos=>have ao:(y==0)=jG:=zD.2 hy;have S:=Ab<|show Y zs<=p\/300<Y N from .inl D8;have f:=A;go_wp2_with fail;refine(J8 i Oa z ty Oa).mono ?_
 case' neg=>
  have ao:(y==0)=jI:=zA.2 hy;by_cases W:300<Y N;case' pos=>have ap:(300:Int)<(Y N:Int):=Oa;have S:=Ab<|show Y zs<=p\/300<Y N from .inr W;have f:=A;go_wp2_with fail;refine(J8 i Oa z ty Oa).mono ?_
  case' neg=>
   have ap:¬ ((300:Int)<(Y N:Int)):=Oa;have C:=Ab (show ¬ (Y zs<=p\/300<Y N)by rintro(h|h);{have:=Aa O;have:=Aa ak;have:=Aa al;omega};{exact W h});go_wp2_with fail;refine(Cq R a n c zs p K i.lt.2.2).mono ?_;rintro r w2 ⟨x,u,rfl,D,aT,aV,hr2,aa⟩;have v:=i.bM aa hr2;have f:=A.trans<|Gk.bV (nd:=nd) aa i.lt.2.1.2 i.lt.1.2.2;obtain⟨aW,aX,aY,aZ,a0,a6,c0,c1,c2,c3⟩:=v.cells;by_cases s:x=201;case' pos=>
    have aq:(x==201)=jG:=zD.2 s;have ab:(x%8==7)=jI:=zA.2 Oa;have e2:x%8<2:=Oa;have ac:=Ab<|show x%8<2 from e2;cases wild;case' false=>have j:=Ab λq M (h:Uv (CN zs L) (NL zs L jI d) ty x u N q M)=>Agg (wild:=jI) (ty:=ty) (Aa C) D Oz h
    case' true=>have j:=Ab λq M (h:Uv (CN zs L) (NL zs L jG d) (1+ty%4) x u N q M)=>Agg (wild:=jG) (ty:=ty) (Aa C) D (by rw[K1 ⟨rfl,s⟩]) h
    all_goals clear s
   case' neg=>
    have aq:(x==201)=jI:=zA.2 s;have j:=Ab λq M (h:Uv (CN zs L) (NL zs L wild d) ty x u N q M)=>Agg (wild:=wild) (ty:=ty) (Aa C) D (by rw[K0 λh=>s h.2]) h;by_cases t:x%8=7;case' pos=>have ab:(x%8==7)=jG:=zD.2 t;have ar:=Ab t
    case' neg=>
     have ab:(x%8==7)=jI:=zA.2 t;by_cases e2:x%8<2;case' pos=>have ac:=Ab<|show x%8<2 from e2
     case' neg=>
      have k:=Ab<|L7 t e2;obtain⟨rfl,b,hs⟩|⟨rfl,b,hs⟩|⟨rfl,b,hs⟩|⟨rfl,b,hs⟩|⟨rfl,b,hs⟩|⟨rfl,b,hs⟩|⟨rfl,b,hs⟩|⟨rfl,b,hs⟩|⟨rfl,b,hs⟩|⟨rfl,b,hs⟩|⟨rfl,b,hs⟩|⟨rfl,b,hs⟩|⟨rfl,b,hs⟩:=Anh x ag;all_goals try (first|have k0:(x/8%8==0)=jG:=zD.2 Oa|have k0:(x/8%8==0)=jI:=zA.2 Oa)
      all_goals try (first|have au:(x/8%8==1)=jG:=zD.2 Oa|have au:(x/8%8==1)=jI:=zA.2 Oa)
      all_goals try (first|have av:(x/8%8==2)=jG:=zD.2 Oa|have av:(x/8%8==2)=jI:=zA.2 Oa)
      all_goals try (first|have aw:(x/8%8==3)=jG:=zD.2 Oa|have aw:(x/8%8==3)=jI:=zA.2 Oa)
      all_goals try (first|have ax:(x/8%8==4)=jG:=zD.2 Oa|have ax:(x/8%8==4)=jI:=zA.2 Oa)
      all_goals try (first|have ay:(x/8%8==5)=jG:=zD.2 Oa|have ay:(x/8%8==5)=jI:=zA.2 Oa)
      all_goals try (first|have az:(x/8%8==6)=jG:=zD.2 Oa|have az:(x/8%8==6)=jI:=zA.2 Oa)
      all_goals try (first|have aA:(x/8%8==7)=jG:=zD.2 Oa|have aA:(x/8%8==7)=jI:=zA.2 Oa)
      all_goals try have E:=Ab hs
      all_goals try clear hs
      all_goals try clear b
    all_goals clear t
    all_goals cases wild
   all_goals go_wp2_with fail
   all_goals first|with_reducible refine(J8 v Oa z _ Oa).mono ?_|refine(Ai1 (Aa o) v (by rw[Aa g];omega) _ _ _ Oa Oa).mono ?_;rw[Aa g]|refine(Aa o _ u N nd _ Oa (by rw[Aa g];omega) v).mono ?_;rw[Aa g];rintro r a7 ⟨aB,F,NM,rfl,ad,a1,a2,S5,K5⟩;replace f:=f.trans K5;go_wp2_with fail;first|refine(PM S5 Oa [Dn F] _ 1 rfl rfl Oa _).mono ?_|refine(Aa o ty aB F NM _ Oa (by rw[Aa g];omega) S5).mono ?_;rw[Aa g];rintro r a8 ⟨aC,ae,aD,rfl,aE,a3,a4,aF,aG⟩;replace f:=f.trans aG;go_wp2_with fail;refine(Aa o ty aC ae aD _ Oa (by rw[Aa g];omega) aF).mono ?_;rw[Aa g];rintro r a9 ⟨ba,aH,bb,rfl,aI,a5,bc,aJ,aK⟩;replace f:=f.trans aK;go_wp2_with fail;refine(PM aJ Oa [Dn F,Dn ae,Dn aH] _ 3 rfl rfl Oa 27).mono ?_
 all_goals rintro r bd ⟨aL,aM,aN,rfl,l,b1,b2,aO,aP⟩;go_wp2;go_ret;refine⟨aL,aM,aN,rfl,Ab ?_,Oa,Oa,aO,f.trans aP⟩;first|exact Agf (G7<|Aa S)<|Aa l|exact Aa j _ _<|Agh (G7<|Aa ac)<|Aa l|exact Aa j _ _<|Ak5 (Aa ar) (Aa ad) (Aa aE) (Aa aI)<|Aa l|exact Aa j _ _<|Ai3 (Aa k).1 (G7<|(Aa k).2) (Aa E) (Aa ad)<|Aa l|exact Aa j _ _<|Ai2 (Aa k).1 (G7<|(Aa k).2) (Aa E)<|Aa l|exact Aa j _ _<|Agi (Aa k).1 (G7<|(Aa k).2) (Aa E)<|Aa l
theorem J9{B R f:Nat}{a:M2 Addr}{n c:Nat}{zs:M4}{wild:Bool}{L:List (M1×Int)}{lt:Value}(b:Y L<=100):∀d,d<=10->ExD B R f a n c zs wild L lt d|0,_=>AdZ b|d+1,hd=>λty p N nd w g hm h=>by have:=AaI b Oa (J9 b d Oa) ty p N nd w g hm h;grind
end Go.Proofs.YtlcfoihgfcmfeaaGreatDoor

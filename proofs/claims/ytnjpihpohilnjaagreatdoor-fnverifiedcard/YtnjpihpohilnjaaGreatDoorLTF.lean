import Derived.Test.YtnjpihpohilnjaaGreatDoorMXAE
open List renaming length->T
open Option renaming none->U,some->Q
open Bool renaming true->jD,false->jE
namespace Go.Proofs.YtnjpihpohilnjaaGreatDoor
open Proofs.Tryz
open Proofs.Tryz renaming prog->jZ
set_option maxRecDepth 100000
set_option maxHeartbeats 12800000
open Go.RowKit
set_option linter.unusedVariables false
variable{wild:Bool}{L:List (K9×Int)}{zs:L2}{B:Nat}{a:L0 Addr}{lt:Value}
theorem Alc (x:Int):(x / 8 % 8=0/\Lv 1 x=Q (25+x / 8 / 8 % 2,1,Q 1))\/(x / 8 % 8=1/\Lv 1 x=Q (25+x / 8 / 8 % 2,1,Q 1))\/(x / 8 % 8=2/\Lv 1 x=Q (26,1,Q 1))\/(x / 8 % 8=3/\Lv 1 x=Q (9,1,U))\/(x / 8 % 8=4/\Lv 1 x=Q (23,3,Q 4))\/(x / 8 % 8=5/\Lv 1 x=Q (24,4,Q 4))\/(x / 8 % 8=6/\Lv 1 x=Q (21+x / 8 / 8 % 2,2,Q 2))\/(x / 8 % 8=7/\Lv 1 x=Q (19+x % 2,1+x / 8 / 8,Q<|1+x / 8 / 8)):=by rcases(Oa:x / 8 % 8=0\/x / 8 % 8=1\/x / 8 % 8=2\/x / 8 % 8=3\/x / 8 % 8=4\/x / 8 % 8=5\/x / 8 % 8=6\/x / 8 % 8=7)with e|e|e|e|e|e|e|e<;>simp[Lv,e]
theorem Ald (x:Int):(x / 8 % 8=6/\Lv 2 x=Q (10,4,U))\/(x / 8 % 8=7/\Lv 2 x=Q (8,2,U))\/(x / 8 % 8<6/\Lv 2 x=Q (11+x / 8 % 5,2,Q 2)):=by grind [Lv]
theorem Ale {ty:Int}(x:Int)(h:ty=1\/ty=2\/ty=3\/ty=4):(ty=1/\x / 8 % 8=0/\Lv 1 x=Q (25+x / 8 / 8 % 2,1,Q 1))\/(ty=1/\x / 8 % 8=1/\Lv 1 x=Q (25+x / 8 / 8 % 2,1,Q 1))\/(ty=1/\x / 8 % 8=2/\Lv 1 x=Q (26,1,Q 1))\/(ty=1/\x / 8 % 8=3/\Lv 1 x=Q (9,1,U))\/(ty=1/\x / 8 % 8=4/\Lv 1 x=Q (23,3,Q 4))\/(ty=1/\x / 8 % 8=5/\Lv 1 x=Q (24,4,Q 4))\/(ty=1/\x / 8 % 8=6/\Lv 1 x=Q (21+x / 8 / 8 % 2,2,Q 2))\/(ty=1/\x / 8 % 8=7/\Lv 1 x=Q (19+x % 2,1+x / 8 / 8,Q<|1+x / 8 / 8))\/(ty=2/\x / 8 % 8=6/\Lv 2 x=Q (10,4,U))\/(ty=2/\x / 8 % 8=7/\Lv 2 x=Q (8,2,U))\/(ty=2/\x / 8 % 8<6/\Lv 2 x=Q (11+x / 8 % 5,2,Q 2))\/(ty=3/\True/\Lv 3 x=U)\/(ty=4/\True/\Lv 4 x=Q (16+x / 8 % 3,4,Q 4)):=by
 obtain rfl|rfl|rfl|rfl:=h
 all_goals grind [Ald,Lv,Alc]
theorem Ace {R d:Nat}{n c:Nat}(f:T L<=100):ExD B R d a n c zs wild L lt 0:=by
 intro ty p N nd w g hm h;have i:T N+1<=1000000:=hm;go_enter func90,ntmps90
 go_wp2_with fail
 refine(Kk h i f ty g).mono ?_;intro r k b;have j:=Ab b;obtain⟨l,m,o,rfl,-⟩:=b;dsimp only;go_wp2
 go_ret
 exact Aa j
theorem Zp {R l:Nat}{n c d:Nat}(t:T L<=100)(hd:d<=10)(ac:ExD B R l a n c zs wild L lt d)(ty:Int)(p:Nat)(N:L6)(nd:Value)(w:World)(ad:ty=1\/ty=2\/ty=3\/ty=4)(D:T N+tpN (d+1)<=1000000)(h:Kj B R l a n c zs wild p N L nd lt w):
  Calls jZ 90 #[.pointer<|Q<|Addr.mk l 0 U,.int .i64 ty,.int .i64<|(d:Int)+1] w (GnA B R l a n c zs wild N (tpN<|d+1) (MI zs L wild (d+1) ty p N) L nd lt w):=by
 have m:=Ab ac;unfold ExD at m;rw[tpN]at D|-;obtain⟨E,F⟩:∃E,E=tpN d:=⟨_,rfl⟩
 rw[<-F]at D|-;have f:=Ab F.symm;obtain⟨ae,cn,af,cl,G,ag,c0,c1,c2,c3⟩:=h.cells;have aQ: ¬ ((d:Int)+1<=0):=Oa
 have ah:=Ab h.lt.2.2.le;have ai:=Ab h.lt.2.2.len;go_enter func90,ntmps90
 go_wp2_with fail
 refine(YC R a n c zs p w h.lt.2.2).mono ?_;rintro r H ⟨y,rfl,I,aS,aT,J⟩;have g:=h.below J;have u:Gk B R l lt nd w nd H:=Gk.aH J h.lt.1.1;obtain⟨ae,cn,af,cl,G,ag,c0,c1,c2,c3⟩:=g.cells;rw[G]at c1;by_cases hy:y=0
 case' pos=>
  have aj:(y==0)=jD:=zD.2 hy;have K:=Ab<|show T zs<=p\/300<T N from .inl<|H2<|Aa I;have K2:=u;go_wp2_with fail
  refine(Kk g Oa t ty Oa).mono ?_
 case' neg=>
  have aj:(y==0)=jE:=zA.2 hy;by_cases O: 300<T N
  case' pos=>
   have ak:(300 :Int)<(T N:Int):=Oa;have K:=Ab<|show T zs<=p\/300<T N from .inr O;have K2:=u;go_wp2_with fail
   refine(Kk g Oa t ty Oa).mono ?_
  case' neg=>
   have ak: ¬ ((300 :Int)<(T N:Int)):=Oa;have v:=Ab (show ¬ (T zs<=p\/300<T N) by rintro(h|h);{ have:=Aa I;have:=Aa ah;have:=Aa ai;omega };{ exact O h });go_wp2_with fail
   refine(BN R a n c zs p H g.lt.2.2).mono ?_;rintro r w2 ⟨x,s,rfl,z,aU,aV,al,P⟩;have S2:=g.aR P al;have K2:=u.trans<|Gk.bO (nd:=nd) P g.lt.2.1.2 g.lt.1.2.2;obtain⟨aW,aX,aY,aZ,a0,a6,c0,c1,c2,c3⟩:=S2.cells;by_cases o:x=201
   case' pos=>
    have ao:(x==201)=jD:=zD.2 o;have S:(x % 8==7)=jE:=zA.2 Oa;have e2:x % 8<2:=Oa;have W:=Ab<|show x % 8<2 from e2;cases wild
    case' false=>have i:=Ab λq M (h:SU (Cy zs L) (MI zs L jE d) ty x s N q M)=>Aex (wild:=jE) (ty:=ty) (Aa v) z Ox h
    case' true=>have i:=Ab λq M (h:SU (Cy zs L) (MI zs L jD d) (1+ty % 4) x s N q M)=>Aex (wild:=jD) (ty:=ty) (Aa v) z (by rw[H8 ⟨rfl,o⟩]) h
    all_goals clear o
   case' neg=>
    have ao:(x==201)=jE:=zA.2 o;have i:=Ab λq M (h:SU (Cy zs L) (MI zs L wild d) ty x s N q M)=>Aex (wild:=wild) (ty:=ty) (Aa v) z (by rw[H7 λh=>o h.2]) h;by_cases e7:x % 8=7
    case' pos=>
     have S:(x % 8==7)=jD:=zD.2 e7;have ap:=Ab e7
    case' neg=>
     have S:(x % 8==7)=jE:=zA.2 e7;by_cases e2:x % 8<2
     case' pos=>have W:=Ab<|show x % 8<2 from e2
     case' neg=>
      have j:=Ab<|K6 e7 e2;obtain⟨rfl,b,hs⟩|⟨rfl,b,hs⟩|⟨rfl,b,hs⟩|⟨rfl,b,hs⟩|⟨rfl,b,hs⟩|⟨rfl,b,hs⟩|⟨rfl,b,hs⟩|⟨rfl,b,hs⟩|⟨rfl,b,hs⟩|⟨rfl,b,hs⟩|⟨rfl,b,hs⟩|⟨rfl,b,hs⟩|⟨rfl,b,hs⟩:=Ale x ad
      all_goals try (first|have aq:(x / 8 % 8==0)=jD:=zD.2 Oa|have aq:(x / 8 % 8==0)=jE:=zA.2 Oa)
      all_goals try (first|have ar:(x / 8 % 8==1)=jD:=zD.2 Oa|have ar:(x / 8 % 8==1)=jE:=zA.2 Oa)
      all_goals try (first|have au:(x / 8 % 8==2)=jD:=zD.2 Oa|have au:(x / 8 % 8==2)=jE:=zA.2 Oa)
      all_goals try (first|have av:(x / 8 % 8==3)=jD:=zD.2 Oa|have av:(x / 8 % 8==3)=jE:=zA.2 Oa)
      all_goals try (first|have aw:(x / 8 % 8==4)=jD:=zD.2 Oa|have aw:(x / 8 % 8==4)=jE:=zA.2 Oa)
      all_goals try (first|have ax:(x / 8 % 8==5)=jD:=zD.2 Oa|have ax:(x / 8 % 8==5)=jE:=zA.2 Oa)
      all_goals try (first|have ay:(x / 8 % 8==6)=jD:=zD.2 Oa|have ay:(x / 8 % 8==6)=jE:=zA.2 Oa)
      all_goals try (first|have az:(x / 8 % 8==7)=jD:=zD.2 Oa|have az:(x / 8 % 8==7)=jE:=zA.2 Oa)
      all_goals try have A:=Ab hs
      all_goals try clear hs
      all_goals try clear b
    all_goals clear e7
    all_goals cases wild
   all_goals go_wp2_with fail
   all_goals
    first
    |with_reducible refine(Kk S2 Oa t _ Oa).mono ?_
    |refine(Ag7 (Aa m) S2 (by rw[Aa f];omega) _ _ _ Oa Oa).mono ?_
     rw[Aa f]
    |refine(Aa m _ s N nd _ Oa (by rw[Aa f];omega) S2).mono ?_
     rw[Aa f];rintro r a7 ⟨aA,C,nd5,rfl,aa,a1,a2,S5,K5⟩;replace K2:=K2.trans K5;go_wp2_with fail
     first
     |refine(PB S5 Oa [Fl C] _ 1 rfl rfl Oa _).mono ?_
     |refine(Aa m ty aA C nd5 _ Oa (by rw[Aa f];omega) S5).mono ?_
      rw[Aa f];rintro r a8 ⟨aB,ab,aC,rfl,aD,a3,a4,aE,aF⟩;replace K2:=K2.trans aF;go_wp2_with fail
      refine(Aa m ty aB ab aC _ Oa (by rw[Aa f];omega) aE).mono ?_;rw[Aa f];rintro r a9 ⟨ba,aG,bb,rfl,aI,a5,bc,aJ,aK⟩;replace K2:=K2.trans aK;go_wp2_with fail
      refine(PB aJ Oa [Fl C,Fl ab,Fl aG] _ 3 rfl rfl Oa 27).mono ?_
 all_goals
  rintro r bd ⟨aL,aM,aN,rfl,k,b1,b2,aO,aP⟩;go_wp2
  go_ret
  refine⟨aL,aM,aN,rfl,Ab ?_,Oa,Oa,aO,K2.trans aP⟩
  first
  |exact Aew Hw<|Aa k
  |exact Aa i _ _<|Aey (H2<|Aa W)<|Aa k
  |exact Aa i _ _<|AiX (Aa ap) (Aa aa) (Aa aD) (Aa aI)<|Aa k
  |exact Aa i _ _<|Ag9 (Aa j).1 (H2<|(Aa j).2) (Aa A) (Aa aa)<|Aa k
  |exact Aa i _ _<|Ag8 (Aa j).1 (H2<|(Aa j).2) (Aa A)<|Aa k
  |exact Aa i _ _<|Aez (Aa j).1 (H2<|(Aa j).2) (Aa A)<|Aa k
theorem Kl {B R f:Nat}{a:L0 Addr}{n c:Nat}{zs:L2}{wild:Bool}{L:List (K9×Int)}{lt:Value}(b:T L<=100):∀d,d<=10->ExD B R f a n c zs wild L lt d
 |0,_=>Ace b
 |d+1,hd=>λty p N nd w g hm h=>by
  have:=Zp b Oa (Kl b d Oa) ty p N nd w g hm h
  grind
end Go.Proofs.YtnjpihpohilnjaaGreatDoor

import Derived.Test.YtppafecmccdplaaGreatMXAJ
open Go.Proofs.Tryz
open Option renaming none->T,some->Y
open Bool renaming false->jA
open Go.Proofs.Tryz renaming prog->jL
namespace Go.Proofs.YtppafecmccdplaaGreat
set_option maxRecDepth 100000
set_option maxHeartbeats 12800000
open Go.RowKit
set_option linter.unusedVariables false
variable {wild:Bool}{L:List (ByteArray×Int)}{zs:List Int}{B:Nat}{a:Option Addr}{lt:Value}
theorem Ah6 (x:Int):(x / 8 % 8=0/\J9 1 x=Y (25+x / 8 / 8 % 2,1,Y 1))\/(x / 8 % 8=1/\J9 1 x=Y (25+x / 8 / 8 % 2,1,Y 1))\/(x / 8 % 8=2/\J9 1 x=Y (26,1,Y 1))\/(x / 8 % 8=3/\J9 1 x=Y (9,1,T))\/(x / 8 % 8=4/\J9 1 x=Y (23,3,Y 4))\/(x / 8 % 8=5/\J9 1 x=Y (24,4,Y 4))\/(x / 8 % 8=6/\J9 1 x=Y (21+x / 8 / 8 % 2,2,Y 2))\/(x / 8 % 8=7/\J9 1 x=Y (19+x % 2,1+x / 8 / 8,Y (1+x / 8 / 8))):=by
 rcases(show x / 8 % 8=0\/x / 8 % 8=1\/x / 8 % 8=2\/x / 8 % 8=3\/x / 8 % 8=4\/x / 8 % 8=5\/x / 8 % 8=6\/x / 8 % 8=7 by omega)with e|e|e|e|e|e|e|e<;>simp[J9,e]
theorem Ah7 (x:Int):(x / 8 % 8=6/\J9 2 x=Y (10,4,T))\/(x / 8 % 8=7/\J9 2 x=Y (8,2,T))\/(x / 8 % 8<6/\J9 2 x=Y (11+x / 8 % 5,2,Y 2)):=by
 rcases(show x / 8 % 8=6\/x / 8 % 8=7\/x / 8 % 8<6 by omega)with e|e|e
 ·simp[J9,e]
 ·simp[J9,e]
 ·exact .inr (.inr ⟨e,by unfold J9;rw[if_neg (by decide),if_pos rfl,if_neg (by omega),if_neg (by omega)]⟩)
theorem Ah8 {ty:Int}(x:Int)(h:ty=1\/ty=2\/ty=3\/ty=4):(ty=1/\x / 8 % 8=0/\J9 1 x=Y (25+x / 8 / 8 % 2,1,Y 1))\/(ty=1/\x / 8 % 8=1/\J9 1 x=Y (25+x / 8 / 8 % 2,1,Y 1))\/(ty=1/\x / 8 % 8=2/\J9 1 x=Y (26,1,Y 1))\/(ty=1/\x / 8 % 8=3/\J9 1 x=Y (9,1,T))\/(ty=1/\x / 8 % 8=4/\J9 1 x=Y (23,3,Y 4))\/(ty=1/\x / 8 % 8=5/\J9 1 x=Y (24,4,Y 4))\/(ty=1/\x / 8 % 8=6/\J9 1 x=Y (21+x / 8 / 8 % 2,2,Y 2))\/(ty=1/\x / 8 % 8=7/\J9 1 x=Y (19+x % 2,1+x / 8 / 8,Y (1+x / 8 / 8)))\/(ty=2/\x / 8 % 8=6/\J9 2 x=Y (10,4,T))\/(ty=2/\x / 8 % 8=7/\J9 2 x=Y (8,2,T))\/(ty=2/\x / 8 % 8<6/\J9 2 x=Y (11+x / 8 % 5,2,Y 2))\/(ty=3/\True/\J9 3 x=T)\/(ty=4/\True/\J9 4 x=Y (16+x / 8 % 3,4,Y 4)):=by
 rcases h with rfl|rfl|rfl|rfl
 ·rcases Ah6 x with⟨e,h⟩|⟨e,h⟩|⟨e,h⟩|⟨e,h⟩|⟨e,h⟩|⟨e,h⟩|⟨e,h⟩|⟨e,h⟩<;>simp[e,h]
 ·rcases Ah7 x with⟨e,h⟩|⟨e,h⟩|⟨e,h⟩<;>simp[e,h]
 ·simp[J9]
 ·simp[J9]
theorem Aa1 {R d:Nat}{n c:Nat}(f:L.length<=100):ExD B R d a n c zs wild L lt 0:=by
 intro ty p N nd w g hm h;have i:N.length+1<=1000000:=hm;go_enter func65,ntmps65
 go_wp2_with fail
 refine(Kb h i f ty g).mono ?_;intro r k b;have j:=Ab b;obtain⟨l,m,o,rfl,-⟩:=b;dsimp only;go_wp2
 go_ret
 exact Aa j
theorem Yw {R m:Nat}{n c d:Nat}(v:L.length<=100)(hd:d<=10)(J:ExD B R m a n c zs wild L lt d)(ty:Int)(p:Nat)(N:List Nd)(nd:Value)(w:World)(af:ty=1\/ty=2\/ty=3\/ty=4)(K:N.length+tpN (d+1)<=1000000)(h:Ka B R m a n c zs wild p N L nd lt w):
  Calls jL 65 #[.pointer (Y ⟨m,0,T⟩),.int .i64 ty,.int .i64 ((d:Int)+1)] w (ZC B R m a n c zs wild N (tpN (d+1)) (Ng zs L wild (d+1) ty p N) L nd lt w):=by
 have o:=Ab J;unfold ExD at o;rw[tpN]at K|-;obtain⟨O,z⟩:∃O,O=tpN d:=⟨_,rfl⟩
 rw[<-z]at K|-;have f:=Ab z.symm;clear J z;obtain⟨ag,cn,ah,cl,s,A,c0,c1,c2,c3⟩:=h.cells;have aR: ¬ ((d:Int)+1<=0):=by omega
 have ai:=Ab h.lt.2.2.le;have aj:=Ab h.lt.2.2.len;go_enter func65,ntmps65
 go_wp2_with fail
 refine(XG R a n c zs p w h.lt.2.2).mono ?_;rintro r P ⟨y,rfl,S,aS,aT,C⟩;have g:=h.below C;have t:Gk B R m lt nd w nd P:=Gk.of_below C h.lt.1.1;clear c0 c1 c2 c3 s A;obtain⟨ag,cn,ah,cl,s,A,c0,c1,c2,c3⟩:=g.cells;rw[s]at c1;clear h C s A;dsimp only;by_cases hy:y=0
 case' pos=>
  have ak:(y==0)=true:=zF.2 hy;have W:=Ab (show zs.length<=p\/300<N.length from .inl (by have:=Aa S;omega));have K2:=t;clear hy;go_wp2_with fail
  refine(Kb g (by omega) v ty (by omega)).mono ?_
 case' neg=>
  have ak:(y==0)=jA:=zA.2 hy;by_cases D: 300<N.length
  case' pos=>
   have al:(300 :Int)<(N.length:Int):=by omega
   have W:=Ab (show zs.length<=p\/300<N.length from .inr D);have K2:=t;clear hy;go_wp2_with fail
   refine(Kb g (by omega) v ty (by omega)).mono ?_
  case' neg=>
   have al: ¬ ((300 :Int)<(N.length:Int)):=by omega
   have E:=Ab (show ¬ (zs.length<=p\/300<N.length) by rintro(h|h);{ have:=Aa S;have:=Aa ai;have:=Aa aj;omega };{ exact D h });clear hy D;go_wp2_with fail
   refine(BH R a n c zs p P g.lt.2.2).mono ?_;rintro r w2 ⟨x,u,rfl,F,aU,aV,aa,G⟩;have S2:=g.touch G aa;have K2:=t.trans (Gk.of_touch (nd:=nd) G g.lt.2.1.2 g.lt.1.2.2);clear g t G aa c0 c1 c2 c3;obtain⟨aW,aX,aY,aZ,ao,ap,c0,c1,c2,c3⟩:=S2.cells;clear ao ap;dsimp only;by_cases j:x=201
   case' pos=>
    have aq:(x==201)=true:=zF.2 j;have ab:(x % 8==7)=jA:=zA.2 (by omega);have e2:x % 8<2:=by omega
    have ac:=Ab (show x % 8<2 from e2);cases wild
    case' false=>have i:=Ab (fun q M (h:TI (CU zs L) (Ng zs L jA d) ty x u N q M)=>Ac3 (wild:=jA) (ty:=ty) (Aa E) F (by simp) h)
    case' true=>have i:=Ab (fun q M (h:TI (CU zs L) (Ng zs L true d) (1+ty % 4) x u N q M)=>Ac3 (wild:=true) (ty:=ty) (Aa E) F (by rw[if_pos ⟨rfl,j⟩]) h)
    all_goals clear j
   case' neg=>
    have aq:(x==201)=jA:=zA.2 j;have i:=Ab (fun q M (h:TI (CU zs L) (Ng zs L wild d) ty x u N q M)=>Ac3 (wild:=wild) (ty:=ty) (Aa E) F (by rw[if_neg (fun h=>j h.2)]) h);clear j;by_cases e7:x % 8=7
    case' pos=>
     have ab:(x % 8==7)=true:=zF.2 e7;have ar:=Ab e7
    case' neg=>
     have ab:(x % 8==7)=jA:=zA.2 e7;by_cases e2:x % 8<2
     case' pos=>have ac:=Ab (show x % 8<2 from e2)
     case' neg=>
      have k:=Ab (And.intro e7 e2);rcases Ah8 x af with⟨rfl,b,hs⟩|⟨rfl,b,hs⟩|⟨rfl,b,hs⟩|⟨rfl,b,hs⟩|⟨rfl,b,hs⟩|⟨rfl,b,hs⟩|⟨rfl,b,hs⟩|⟨rfl,b,hs⟩|⟨rfl,b,hs⟩|⟨rfl,b,hs⟩|⟨rfl,b,hs⟩|⟨rfl,b,hs⟩|⟨rfl,b,hs⟩
      all_goals try (first|have au:(x / 8 % 8==0)=true:=zF.2 (by omega)|have au:(x / 8 % 8==0)=jA:=zA.2 (by omega))
      all_goals try (first|have av:(x / 8 % 8==1)=true:=zF.2 (by omega)|have av:(x / 8 % 8==1)=jA:=zA.2 (by omega))
      all_goals try (first|have aw:(x / 8 % 8==2)=true:=zF.2 (by omega)|have aw:(x / 8 % 8==2)=jA:=zA.2 (by omega))
      all_goals try (first|have ax:(x / 8 % 8==3)=true:=zF.2 (by omega)|have ax:(x / 8 % 8==3)=jA:=zA.2 (by omega))
      all_goals try (first|have ay:(x / 8 % 8==4)=true:=zF.2 (by omega)|have ay:(x / 8 % 8==4)=jA:=zA.2 (by omega))
      all_goals try (first|have az:(x / 8 % 8==5)=true:=zF.2 (by omega)|have az:(x / 8 % 8==5)=jA:=zA.2 (by omega))
      all_goals try (first|have aA:(x / 8 % 8==6)=true:=zF.2 (by omega)|have aA:(x / 8 % 8==6)=jA:=zA.2 (by omega))
      all_goals try (first|have aB:(x / 8 % 8==7)=true:=zF.2 (by omega)|have aB:(x / 8 % 8==7)=jA:=zA.2 (by omega))
      all_goals try have H:=Ab hs
      all_goals try clear hs
      all_goals try clear b
    all_goals clear e7
    all_goals cases wild
   all_goals go_wp2_with fail
   all_goals
    first
    |with_reducible refine(Kb S2 (by omega) v _ (by omega)).mono ?_
    |refine(AeX (Aa o) S2 (by rw[Aa f];omega) _ _ _ (by omega) (by omega)).mono ?_
     rw[Aa f]
    |refine(Aa o _ u N nd _ (by omega) (by rw[Aa f];omega) S2).mono ?_
     rw[Aa f];rintro r a0 ⟨aC,I,nd5,rfl,ad,a1,a2,S5,K5⟩;replace K2:=K2.trans K5;dsimp only;go_wp2_with fail
     first
     |refine(PF S5 (by omega) [Fn I] _ 1 rfl rfl (by omega) _).mono ?_
     |refine(Aa o ty aC I nd5 _ (by omega) (by rw[Aa f];omega) S5).mono ?_
      rw[Aa f];rintro r a7 ⟨aD,ae,aE,rfl,aF,a3,a4,aG,aH⟩;replace K2:=K2.trans aH;dsimp only;go_wp2_with fail
      refine(Aa o ty aD ae aE _ (by omega) (by rw[Aa f];omega) aG).mono ?_;rw[Aa f];rintro r a8 ⟨a9,aI,ba,rfl,aJ,a5,a6,aK,aL⟩;replace K2:=K2.trans aL;dsimp only;go_wp2_with fail
      refine(PF aK (by omega) [Fn I,Fn ae,Fn aI] _ 3 rfl rfl (by omega) 27).mono ?_
 all_goals
  rintro r bb ⟨aM,aN,aO,rfl,l,b1,b2,aP,aQ⟩;dsimp only;go_wp2
  go_ret
  refine⟨aM,aN,aO,rfl,Ab ?_,by omega,by omega,aP,K2.trans aQ⟩
  first
  |exact Ac2 (by have:=Aa W;omega) (Aa l)
  |exact Aa i _ _ (Ac4 (by have:=Aa ac;omega) (Aa l))
  |exact Aa i _ _ (Agn (Aa ar) (Aa ad) (Aa aF) (Aa aJ) (Aa l))
  |exact Aa i _ _ (AeZ (Aa k).1 (by have:=(Aa k).2;omega) (Aa H) (Aa ad) (Aa l))
  |exact Aa i _ _ (AeY (Aa k).1 (by have:=(Aa k).2;omega) (Aa H) (Aa l))
  |exact Aa i _ _ (Ac5 (Aa k).1 (by have:=(Aa k).2;omega) (Aa H) (Aa l))
theorem Kc {B R f:Nat}{a:Option Addr}{n c:Nat}{zs:List Int}{wild:Bool}{L:List (ByteArray×Int)}{lt:Value}(b:L.length<=100):∀d,d<=10->ExD B R f a n c zs wild L lt d
 |0,_=>Aa1 b
 |d+1,hd=>fun ty p N nd w g hm h=>by
  have:=Yw b (by omega) (Kc b d (by omega)) ty p N nd w g hm h;rw[yC];exact this
end Go.Proofs.YtppafecmccdplaaGreat

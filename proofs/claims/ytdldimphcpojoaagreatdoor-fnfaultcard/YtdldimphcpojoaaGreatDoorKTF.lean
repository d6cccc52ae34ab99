/-
  Drawn policies: trees (written by mkktf.py). Own work.
-/
import Derived.Test.YtdldimphcpojoaaGreatDoorMXAQ
namespace Go.Proofs.YtdldimphcpojoaaGreatDoor
set_option maxRecDepth 100000
set_option maxHeartbeats 12800000
open Go.RowKit
set_option linter.unusedVariables false
theorem TQ {B R d:Nat}{a:Option Addr}{n c:Nat}{L:List (ByteArray × Int)}{lt:Value}(f:L.length≤100):Ym B R d a n c L lt 0:=by
 intro ty m nd w g hm h;have i:m+1≤1000000:=hm;go_enter Tryz.func41,Tryz.ntmps41
 go_wp2_with fail
 refine (De h i f ty g).mono ?_;intro r k b;have j:=Ab b;obtain ⟨⟨l,rfl⟩,-⟩:=b;dsimp only;go_wp2_with fail
 go_ret
 exact Aa j
theorem Q5 {B R p:Nat}{a:Option Addr}{n c d:Nat}{L:List (ByteArray × Int)}{lt:Value}(P:L.length≤100)(aJ:d≤10)(al:Ym B R p a n c L lt d)(ty:Int)(m:Nat)(nd:Value)(w:World)(ao:ty=1∨ty=2∨ty=3∨ty=4)(ap:m+We (d+1)≤1000000)(h:GF B R p a n c m L nd lt w):
  Calls Tryz.prog 41 #[.pointer (some ⟨p,0,none⟩),.int .i64 ty,.int .i64 ((d:Int)+1)] w (Eu B R p a n c m (We (d+1)) L nd lt w):=by
 have u:=Ab al;unfold Ym at u;rw[We] at ap ⊢;obtain ⟨q,Y⟩:∃ q,q=We d:=⟨_,rfl⟩
 rw[← Y] at ap ⊢;have o:=Ab Y.symm;clear al Y;obtain ⟨av,aw,ax,ay,az,T,Z,U,c1,c2,c3⟩:=h.cells;have aK: ¬ ((d:Int)+1≤0):=by omega
 go_enter Tryz.func41,Tryz.ntmps41
 go_wp2_with fail
 refine (OX R a n c w h.lt.2.2).mono ?_;rintro r aq ⟨y,rfl,aL,aM,aa⟩;have Q:=h.below aa;have V:Gk B R p lt nd w nd aq:=Gk.of_below aa h.lt.1.1;clear U c1 c2 c3 T Z;obtain ⟨av,aw,ax,ay,az,T,Z,U,c1,c2,c3⟩:=Q.cells;rw[T] at c1;clear h aa T Z;dsimp only;by_cases hy:y=0
 ·have aA:(y== 0)=true:=beq_iff_eq.2 hy;clear hy;go_wp2_with fail
  refine (De Q (by omega) P ty (by omega)).mono ?_;rintro r f ⟨⟨b,rfl⟩,g,i,b1,b2,j,k⟩;have l:=Ab (show Eu B R p a n c m (3 * q+1) L nd lt w (.returned (.int .i64 b)) f from ⟨⟨b,rfl⟩,g,i,by omega,by omega,j,V.trans k⟩);dsimp only;go_wp2_with fail
  go_ret
  exact Aa l
 have aA:(y== 0)=false:=beq_eq_false_iff_ne.2 hy;clear hy;by_cases aN: 300 < m
 ·have aB:(300 :Int) < (m:Int):=by omega
  go_wp2_with fail
  refine (De Q (by omega) P ty (by omega)).mono ?_;rintro r f ⟨⟨b,rfl⟩,g,i,b1,b2,j,k⟩;have l:=Ab (show Eu B R p a n c m (3 * q+1) L nd lt w (.returned (.int .i64 b)) f from ⟨⟨b,rfl⟩,g,i,by omega,by omega,j,V.trans k⟩);dsimp only;go_wp2_with fail
  go_ret
  exact Aa l
 have aB: ¬ ((300 :Int) < (m:Int)):=by omega
 go_wp2_with fail
 refine (BA R a n c aq Q.lt.2.2).mono ?_;rintro r aO ⟨x,rfl,aP,aQ,ar,ab⟩;have s:=Q.touch ab ar;have t:=V.trans (Gk.of_touch (nd:=nd) ab Q.lt.2.1.2 Q.lt.1.2.2);clear Q V ab ar U c1 c2 c3;obtain ⟨aR,aS,aT,aU,au,aC,aD,U,c1,c2,c3⟩:=s.cells;clear aC aD;dsimp only;by_cases W:x=201
 ·have aE:(x== 201)=true:=beq_iff_eq.2 W;have X:(x % 8== 7)=false:=beq_eq_false_iff_ne.2 (by omega);have e2:x % 8 < 2:=by omega
  clear W;cases au
  ·skip;go_wp2_with fail
   refine (De s (by omega) P ty (by omega)).mono ?_;rintro r f ⟨⟨b,rfl⟩,g,i,b1,b2,j,k⟩;have l:=Ab (show Eu B R p a n c m (3 * q+1) L nd lt w (.returned (.int .i64 b)) f from ⟨⟨b,rfl⟩,g,i,by omega,by omega,j,t.trans k⟩);dsimp only;go_wp2_with fail
   go_ret
   exact Aa l
  ·skip;go_wp2_with fail
   refine (De s (by omega) P (1+ty % 4) (by omega)).mono ?_;rintro r f ⟨⟨b,rfl⟩,g,i,b1,b2,j,k⟩;have l:=Ab (show Eu B R p a n c m (3 * q+1) L nd lt w (.returned (.int .i64 b)) f from ⟨⟨b,rfl⟩,g,i,by omega,by omega,j,t.trans k⟩);dsimp only;go_wp2_with fail
   go_ret
   exact Aa l
 have aE:(x== 201)=false:=beq_eq_false_iff_ne.2 W;clear W;cases au
 ·skip;by_cases N:x % 8=7
  ·have X:(x % 8== 7)=true:=beq_iff_eq.2 N;clear N;go_wp2_with fail
   refine (Aa u 1 m nd _ (by omega) (by rw[Aa o];omega) s).mono ?_;rw[Aa o];rintro r S ⟨⟨I,rfl⟩,O,GH,a1,a2,J,K⟩;have M:=t.trans K;dsimp only;go_wp2_with fail
   refine (Aa u ty O GH _ (by omega) (by rw[Aa o];omega) J).mono ?_;rw[Aa o];rintro r aF ⟨⟨ac,rfl⟩,ad,ae,a3,a4,S6,af⟩;have ag:=M.trans af;dsimp only;go_wp2_with fail
   refine (Aa u ty ad ae _ (by omega) (by rw[Aa o];omega) S6).mono ?_;rw[Aa o];rintro r aG ⟨⟨ah,rfl⟩,aH,aI,a5,a6,ai,aj⟩;have ak:=ag.trans aj;dsimp only;go_wp2_with fail
   refine (DT ai (by omega) [I,ac,ah] _ 3 rfl rfl (by omega) 27).mono ?_;rintro r f ⟨⟨b,rfl⟩,g,i,b1,b2,j,k⟩;have l:=Ab (show Eu B R p a n c m (3 * q+1) L nd lt w (.returned (.int .i64 b)) f from ⟨⟨b,rfl⟩,g,i,by omega,by omega,j,ak.trans k⟩);dsimp only;go_wp2_with fail
   go_ret
   exact Aa l
  have X:(x % 8== 7)=false:=beq_eq_false_iff_ne.2 N;clear N;by_cases e2:x % 8 < 2
  ·skip;go_wp2_with fail
   refine (De s (by omega) P ty (by omega)).mono ?_;rintro r f ⟨⟨b,rfl⟩,g,i,b1,b2,j,k⟩;have l:=Ab (show Eu B R p a n c m (3 * q+1) L nd lt w (.returned (.int .i64 b)) f from ⟨⟨b,rfl⟩,g,i,by omega,by omega,j,t.trans k⟩);dsimp only;go_wp2_with fail
   go_ret
   exact Aa l
  rcases ao with rfl | rfl | rfl | rfl
  ·rcases (show x / 8 % 8=0∨x / 8 % 8=1∨x / 8 % 8=2∨x / 8 % 8=3∨x / 8 % 8=4∨x / 8 % 8=5∨x / 8 % 8=6∨x / 8 % 8=7 by omega) with ek | ek | ek | ek | ek | ek | ek | ek
   ·skip;have A:(x / 8 % 8== 0)=true:=beq_iff_eq.2 (by omega);have C:(x / 8 % 8== 1)=false:=beq_eq_false_iff_ne.2 (by omega);have E:(x / 8 % 8== 2)=false:=beq_eq_false_iff_ne.2 (by omega);have F:(x / 8 % 8== 3)=false:=beq_eq_false_iff_ne.2 (by omega);have H:(x / 8 % 8== 4)=false:=beq_eq_false_iff_ne.2 (by omega);have k5:(x / 8 % 8== 5)=false:=beq_eq_false_iff_ne.2 (by omega);have v:(x / 8 % 8== 6)=false:=beq_eq_false_iff_ne.2 (by omega);have z:(x / 8 % 8== 7)=false:=beq_eq_false_iff_ne.2 (by omega);clear ek;go_wp2_with fail
    refine (BU (Aa u) s (by rw[Aa o];omega) (25+x / 8 / 8 % 2) (1) (1) (by omega) (by omega)).mono ?_;rw[Aa o];rintro r f ⟨⟨b,rfl⟩,g,i,b1,b2,j,k⟩;have l:=Ab (show Eu B R p a n c m (3 * q+1) L nd lt w (.returned (.int .i64 b)) f from ⟨⟨b,rfl⟩,g,i,by omega,by omega,j,t.trans k⟩);dsimp only;go_wp2_with fail
    go_ret
    exact Aa l
   ·skip;have A:(x / 8 % 8== 0)=false:=beq_eq_false_iff_ne.2 (by omega);have C:(x / 8 % 8== 1)=true:=beq_iff_eq.2 (by omega);have E:(x / 8 % 8== 2)=false:=beq_eq_false_iff_ne.2 (by omega);have F:(x / 8 % 8== 3)=false:=beq_eq_false_iff_ne.2 (by omega);have H:(x / 8 % 8== 4)=false:=beq_eq_false_iff_ne.2 (by omega);have k5:(x / 8 % 8== 5)=false:=beq_eq_false_iff_ne.2 (by omega);have v:(x / 8 % 8== 6)=false:=beq_eq_false_iff_ne.2 (by omega);have z:(x / 8 % 8== 7)=false:=beq_eq_false_iff_ne.2 (by omega);clear ek;go_wp2_with fail
    refine (BU (Aa u) s (by rw[Aa o];omega) (25+x / 8 / 8 % 2) (1) (1) (by omega) (by omega)).mono ?_;rw[Aa o];rintro r f ⟨⟨b,rfl⟩,g,i,b1,b2,j,k⟩;have l:=Ab (show Eu B R p a n c m (3 * q+1) L nd lt w (.returned (.int .i64 b)) f from ⟨⟨b,rfl⟩,g,i,by omega,by omega,j,t.trans k⟩);dsimp only;go_wp2_with fail
    go_ret
    exact Aa l
   ·skip;have A:(x / 8 % 8== 0)=false:=beq_eq_false_iff_ne.2 (by omega);have C:(x / 8 % 8== 1)=false:=beq_eq_false_iff_ne.2 (by omega);have E:(x / 8 % 8== 2)=true:=beq_iff_eq.2 (by omega);have F:(x / 8 % 8== 3)=false:=beq_eq_false_iff_ne.2 (by omega);have H:(x / 8 % 8== 4)=false:=beq_eq_false_iff_ne.2 (by omega);have k5:(x / 8 % 8== 5)=false:=beq_eq_false_iff_ne.2 (by omega);have v:(x / 8 % 8== 6)=false:=beq_eq_false_iff_ne.2 (by omega);have z:(x / 8 % 8== 7)=false:=beq_eq_false_iff_ne.2 (by omega);clear ek;go_wp2_with fail
    refine (BU (Aa u) s (by rw[Aa o];omega) (26) (1) (1) (by omega) (by omega)).mono ?_;rw[Aa o];rintro r f ⟨⟨b,rfl⟩,g,i,b1,b2,j,k⟩;have l:=Ab (show Eu B R p a n c m (3 * q+1) L nd lt w (.returned (.int .i64 b)) f from ⟨⟨b,rfl⟩,g,i,by omega,by omega,j,t.trans k⟩);dsimp only;go_wp2_with fail
    go_ret
    exact Aa l
   ·skip;have A:(x / 8 % 8== 0)=false:=beq_eq_false_iff_ne.2 (by omega);have C:(x / 8 % 8== 1)=false:=beq_eq_false_iff_ne.2 (by omega);have E:(x / 8 % 8== 2)=false:=beq_eq_false_iff_ne.2 (by omega);have F:(x / 8 % 8== 3)=true:=beq_iff_eq.2 (by omega);have H:(x / 8 % 8== 4)=false:=beq_eq_false_iff_ne.2 (by omega);have k5:(x / 8 % 8== 5)=false:=beq_eq_false_iff_ne.2 (by omega);have v:(x / 8 % 8== 6)=false:=beq_eq_false_iff_ne.2 (by omega);have z:(x / 8 % 8== 7)=false:=beq_eq_false_iff_ne.2 (by omega);clear ek;go_wp2_with fail
    refine (Aa u (1) m nd _ (by omega) (by rw[Aa o];omega) s).mono ?_;rw[Aa o];rintro r S ⟨⟨I,rfl⟩,O,GH,a1,a2,J,K⟩;have M:=t.trans K;dsimp only;go_wp2_with fail
    refine (DT J (by omega) [I] _ 1 rfl rfl (by omega) (9)).mono ?_;rintro r f ⟨⟨b,rfl⟩,g,i,b1,b2,j,k⟩;have l:=Ab (show Eu B R p a n c m (3 * q+1) L nd lt w (.returned (.int .i64 b)) f from ⟨⟨b,rfl⟩,g,i,by omega,by omega,j,M.trans k⟩);dsimp only;go_wp2_with fail
    go_ret
    exact Aa l
   ·skip;have A:(x / 8 % 8== 0)=false:=beq_eq_false_iff_ne.2 (by omega);have C:(x / 8 % 8== 1)=false:=beq_eq_false_iff_ne.2 (by omega);have E:(x / 8 % 8== 2)=false:=beq_eq_false_iff_ne.2 (by omega);have F:(x / 8 % 8== 3)=false:=beq_eq_false_iff_ne.2 (by omega);have H:(x / 8 % 8== 4)=true:=beq_iff_eq.2 (by omega);have k5:(x / 8 % 8== 5)=false:=beq_eq_false_iff_ne.2 (by omega);have v:(x / 8 % 8== 6)=false:=beq_eq_false_iff_ne.2 (by omega);have z:(x / 8 % 8== 7)=false:=beq_eq_false_iff_ne.2 (by omega);clear ek;go_wp2_with fail
    refine (BU (Aa u) s (by rw[Aa o];omega) (23) (3) (4) (by omega) (by omega)).mono ?_;rw[Aa o];rintro r f ⟨⟨b,rfl⟩,g,i,b1,b2,j,k⟩;have l:=Ab (show Eu B R p a n c m (3 * q+1) L nd lt w (.returned (.int .i64 b)) f from ⟨⟨b,rfl⟩,g,i,by omega,by omega,j,t.trans k⟩);dsimp only;go_wp2_with fail
    go_ret
    exact Aa l
   ·skip;have A:(x / 8 % 8== 0)=false:=beq_eq_false_iff_ne.2 (by omega);have C:(x / 8 % 8== 1)=false:=beq_eq_false_iff_ne.2 (by omega);have E:(x / 8 % 8== 2)=false:=beq_eq_false_iff_ne.2 (by omega);have F:(x / 8 % 8== 3)=false:=beq_eq_false_iff_ne.2 (by omega);have H:(x / 8 % 8== 4)=false:=beq_eq_false_iff_ne.2 (by omega);have k5:(x / 8 % 8== 5)=true:=beq_iff_eq.2 (by omega);have v:(x / 8 % 8== 6)=false:=beq_eq_false_iff_ne.2 (by omega);have z:(x / 8 % 8== 7)=false:=beq_eq_false_iff_ne.2 (by omega);clear ek;go_wp2_with fail
    refine (BU (Aa u) s (by rw[Aa o];omega) (24) (4) (4) (by omega) (by omega)).mono ?_;rw[Aa o];rintro r f ⟨⟨b,rfl⟩,g,i,b1,b2,j,k⟩;have l:=Ab (show Eu B R p a n c m (3 * q+1) L nd lt w (.returned (.int .i64 b)) f from ⟨⟨b,rfl⟩,g,i,by omega,by omega,j,t.trans k⟩);dsimp only;go_wp2_with fail
    go_ret
    exact Aa l
   ·skip;have A:(x / 8 % 8== 0)=false:=beq_eq_false_iff_ne.2 (by omega);have C:(x / 8 % 8== 1)=false:=beq_eq_false_iff_ne.2 (by omega);have E:(x / 8 % 8== 2)=false:=beq_eq_false_iff_ne.2 (by omega);have F:(x / 8 % 8== 3)=false:=beq_eq_false_iff_ne.2 (by omega);have H:(x / 8 % 8== 4)=false:=beq_eq_false_iff_ne.2 (by omega);have k5:(x / 8 % 8== 5)=false:=beq_eq_false_iff_ne.2 (by omega);have v:(x / 8 % 8== 6)=true:=beq_iff_eq.2 (by omega);have z:(x / 8 % 8== 7)=false:=beq_eq_false_iff_ne.2 (by omega);clear ek;go_wp2_with fail
    refine (BU (Aa u) s (by rw[Aa o];omega) (21+x / 8 / 8 % 2) (2) (2) (by omega) (by omega)).mono ?_;rw[Aa o];rintro r f ⟨⟨b,rfl⟩,g,i,b1,b2,j,k⟩;have l:=Ab (show Eu B R p a n c m (3 * q+1) L nd lt w (.returned (.int .i64 b)) f from ⟨⟨b,rfl⟩,g,i,by omega,by omega,j,t.trans k⟩);dsimp only;go_wp2_with fail
    go_ret
    exact Aa l
   ·skip;have A:(x / 8 % 8== 0)=false:=beq_eq_false_iff_ne.2 (by omega);have C:(x / 8 % 8== 1)=false:=beq_eq_false_iff_ne.2 (by omega);have E:(x / 8 % 8== 2)=false:=beq_eq_false_iff_ne.2 (by omega);have F:(x / 8 % 8== 3)=false:=beq_eq_false_iff_ne.2 (by omega);have H:(x / 8 % 8== 4)=false:=beq_eq_false_iff_ne.2 (by omega);have k5:(x / 8 % 8== 5)=false:=beq_eq_false_iff_ne.2 (by omega);have v:(x / 8 % 8== 6)=false:=beq_eq_false_iff_ne.2 (by omega);have z:(x / 8 % 8== 7)=true:=beq_iff_eq.2 (by omega);clear ek;go_wp2_with fail
    refine (BU (Aa u) s (by rw[Aa o];omega) (19+x % 2) (1+x / 8 / 8) (1+x / 8 / 8) (by omega) (by omega)).mono ?_;rw[Aa o];rintro r f ⟨⟨b,rfl⟩,g,i,b1,b2,j,k⟩;have l:=Ab (show Eu B R p a n c m (3 * q+1) L nd lt w (.returned (.int .i64 b)) f from ⟨⟨b,rfl⟩,g,i,by omega,by omega,j,t.trans k⟩);dsimp only;go_wp2_with fail
    go_ret
    exact Aa l
  ·rcases (show x / 8 % 8=6∨x / 8 % 8=7∨x / 8 % 8 < 6 by omega) with ek | ek | ek
   ·skip;have A:(x / 8 % 8== 0)=false:=beq_eq_false_iff_ne.2 (by omega);have C:(x / 8 % 8== 1)=false:=beq_eq_false_iff_ne.2 (by omega);have E:(x / 8 % 8== 2)=false:=beq_eq_false_iff_ne.2 (by omega);have F:(x / 8 % 8== 3)=false:=beq_eq_false_iff_ne.2 (by omega);have H:(x / 8 % 8== 4)=false:=beq_eq_false_iff_ne.2 (by omega);have k5:(x / 8 % 8== 5)=false:=beq_eq_false_iff_ne.2 (by omega);have v:(x / 8 % 8== 6)=true:=beq_iff_eq.2 (by omega);have z:(x / 8 % 8== 7)=false:=beq_eq_false_iff_ne.2 (by omega);clear ek;go_wp2_with fail
    refine (Aa u (4) m nd _ (by omega) (by rw[Aa o];omega) s).mono ?_;rw[Aa o];rintro r S ⟨⟨I,rfl⟩,O,GH,a1,a2,J,K⟩;have M:=t.trans K;dsimp only;go_wp2_with fail
    refine (DT J (by omega) [I] _ 1 rfl rfl (by omega) (10)).mono ?_;rintro r f ⟨⟨b,rfl⟩,g,i,b1,b2,j,k⟩;have l:=Ab (show Eu B R p a n c m (3 * q+1) L nd lt w (.returned (.int .i64 b)) f from ⟨⟨b,rfl⟩,g,i,by omega,by omega,j,M.trans k⟩);dsimp only;go_wp2_with fail
    go_ret
    exact Aa l
   ·skip;have A:(x / 8 % 8== 0)=false:=beq_eq_false_iff_ne.2 (by omega);have C:(x / 8 % 8== 1)=false:=beq_eq_false_iff_ne.2 (by omega);have E:(x / 8 % 8== 2)=false:=beq_eq_false_iff_ne.2 (by omega);have F:(x / 8 % 8== 3)=false:=beq_eq_false_iff_ne.2 (by omega);have H:(x / 8 % 8== 4)=false:=beq_eq_false_iff_ne.2 (by omega);have k5:(x / 8 % 8== 5)=false:=beq_eq_false_iff_ne.2 (by omega);have v:(x / 8 % 8== 6)=false:=beq_eq_false_iff_ne.2 (by omega);have z:(x / 8 % 8== 7)=true:=beq_iff_eq.2 (by omega);clear ek;go_wp2_with fail
    refine (Aa u (2) m nd _ (by omega) (by rw[Aa o];omega) s).mono ?_;rw[Aa o];rintro r S ⟨⟨I,rfl⟩,O,GH,a1,a2,J,K⟩;have M:=t.trans K;dsimp only;go_wp2_with fail
    refine (DT J (by omega) [I] _ 1 rfl rfl (by omega) (8)).mono ?_;rintro r f ⟨⟨b,rfl⟩,g,i,b1,b2,j,k⟩;have l:=Ab (show Eu B R p a n c m (3 * q+1) L nd lt w (.returned (.int .i64 b)) f from ⟨⟨b,rfl⟩,g,i,by omega,by omega,j,M.trans k⟩);dsimp only;go_wp2_with fail
    go_ret
    exact Aa l
   ·have v:(x / 8 % 8== 6)=false:=beq_eq_false_iff_ne.2 (by omega);have z:(x / 8 % 8== 7)=false:=beq_eq_false_iff_ne.2 (by omega);clear ek;go_wp2_with fail
    refine (BU (Aa u) s (by rw[Aa o];omega) (11+x / 8 % 5) (2) (2) (by omega) (by omega)).mono ?_;rw[Aa o];rintro r f ⟨⟨b,rfl⟩,g,i,b1,b2,j,k⟩;have l:=Ab (show Eu B R p a n c m (3 * q+1) L nd lt w (.returned (.int .i64 b)) f from ⟨⟨b,rfl⟩,g,i,by omega,by omega,j,t.trans k⟩);dsimp only;go_wp2_with fail
    go_ret
    exact Aa l
  ·skip;go_wp2_with fail
   refine (De s (by omega) P 3 (by omega)).mono ?_;rintro r f ⟨⟨b,rfl⟩,g,i,b1,b2,j,k⟩;have l:=Ab (show Eu B R p a n c m (3 * q+1) L nd lt w (.returned (.int .i64 b)) f from ⟨⟨b,rfl⟩,g,i,by omega,by omega,j,t.trans k⟩);dsimp only;go_wp2_with fail
   go_ret
   exact Aa l
  ·skip;go_wp2_with fail
   refine (BU (Aa u) s (by rw[Aa o];omega) (16+x / 8 % 3) (4) (4) (by omega) (by omega)).mono ?_;rw[Aa o];rintro r f ⟨⟨b,rfl⟩,g,i,b1,b2,j,k⟩;have l:=Ab (show Eu B R p a n c m (3 * q+1) L nd lt w (.returned (.int .i64 b)) f from ⟨⟨b,rfl⟩,g,i,by omega,by omega,j,t.trans k⟩);dsimp only;go_wp2_with fail
   go_ret
   exact Aa l
 ·skip;by_cases N:x % 8=7
  ·have X:(x % 8== 7)=true:=beq_iff_eq.2 N;clear N;go_wp2_with fail
   refine (Aa u 1 m nd _ (by omega) (by rw[Aa o];omega) s).mono ?_;rw[Aa o];rintro r S ⟨⟨I,rfl⟩,O,GH,a1,a2,J,K⟩;have M:=t.trans K;dsimp only;go_wp2_with fail
   refine (Aa u ty O GH _ (by omega) (by rw[Aa o];omega) J).mono ?_;rw[Aa o];rintro r aF ⟨⟨ac,rfl⟩,ad,ae,a3,a4,S6,af⟩;have ag:=M.trans af;dsimp only;go_wp2_with fail
   refine (Aa u ty ad ae _ (by omega) (by rw[Aa o];omega) S6).mono ?_;rw[Aa o];rintro r aG ⟨⟨ah,rfl⟩,aH,aI,a5,a6,ai,aj⟩;have ak:=ag.trans aj;dsimp only;go_wp2_with fail
   refine (DT ai (by omega) [I,ac,ah] _ 3 rfl rfl (by omega) 27).mono ?_;rintro r f ⟨⟨b,rfl⟩,g,i,b1,b2,j,k⟩;have l:=Ab (show Eu B R p a n c m (3 * q+1) L nd lt w (.returned (.int .i64 b)) f from ⟨⟨b,rfl⟩,g,i,by omega,by omega,j,ak.trans k⟩);dsimp only;go_wp2_with fail
   go_ret
   exact Aa l
  have X:(x % 8== 7)=false:=beq_eq_false_iff_ne.2 N;clear N;by_cases e2:x % 8 < 2
  ·skip;go_wp2_with fail
   refine (De s (by omega) P ty (by omega)).mono ?_;rintro r f ⟨⟨b,rfl⟩,g,i,b1,b2,j,k⟩;have l:=Ab (show Eu B R p a n c m (3 * q+1) L nd lt w (.returned (.int .i64 b)) f from ⟨⟨b,rfl⟩,g,i,by omega,by omega,j,t.trans k⟩);dsimp only;go_wp2_with fail
   go_ret
   exact Aa l
  rcases ao with rfl | rfl | rfl | rfl
  ·rcases (show x / 8 % 8=0∨x / 8 % 8=1∨x / 8 % 8=2∨x / 8 % 8=3∨x / 8 % 8=4∨x / 8 % 8=5∨x / 8 % 8=6∨x / 8 % 8=7 by omega) with ek | ek | ek | ek | ek | ek | ek | ek
   ·skip;have A:(x / 8 % 8== 0)=true:=beq_iff_eq.2 (by omega);have C:(x / 8 % 8== 1)=false:=beq_eq_false_iff_ne.2 (by omega);have E:(x / 8 % 8== 2)=false:=beq_eq_false_iff_ne.2 (by omega);have F:(x / 8 % 8== 3)=false:=beq_eq_false_iff_ne.2 (by omega);have H:(x / 8 % 8== 4)=false:=beq_eq_false_iff_ne.2 (by omega);have k5:(x / 8 % 8== 5)=false:=beq_eq_false_iff_ne.2 (by omega);have v:(x / 8 % 8== 6)=false:=beq_eq_false_iff_ne.2 (by omega);have z:(x / 8 % 8== 7)=false:=beq_eq_false_iff_ne.2 (by omega);clear ek;go_wp2_with fail
    refine (BU (Aa u) s (by rw[Aa o];omega) (25+x / 8 / 8 % 2) (1) (1) (by omega) (by omega)).mono ?_;rw[Aa o];rintro r f ⟨⟨b,rfl⟩,g,i,b1,b2,j,k⟩;have l:=Ab (show Eu B R p a n c m (3 * q+1) L nd lt w (.returned (.int .i64 b)) f from ⟨⟨b,rfl⟩,g,i,by omega,by omega,j,t.trans k⟩);dsimp only;go_wp2_with fail
    go_ret
    exact Aa l
   ·skip;have A:(x / 8 % 8== 0)=false:=beq_eq_false_iff_ne.2 (by omega);have C:(x / 8 % 8== 1)=true:=beq_iff_eq.2 (by omega);have E:(x / 8 % 8== 2)=false:=beq_eq_false_iff_ne.2 (by omega);have F:(x / 8 % 8== 3)=false:=beq_eq_false_iff_ne.2 (by omega);have H:(x / 8 % 8== 4)=false:=beq_eq_false_iff_ne.2 (by omega);have k5:(x / 8 % 8== 5)=false:=beq_eq_false_iff_ne.2 (by omega);have v:(x / 8 % 8== 6)=false:=beq_eq_false_iff_ne.2 (by omega);have z:(x / 8 % 8== 7)=false:=beq_eq_false_iff_ne.2 (by omega);clear ek;go_wp2_with fail
    refine (BU (Aa u) s (by rw[Aa o];omega) (25+x / 8 / 8 % 2) (1) (1) (by omega) (by omega)).mono ?_;rw[Aa o];rintro r f ⟨⟨b,rfl⟩,g,i,b1,b2,j,k⟩;have l:=Ab (show Eu B R p a n c m (3 * q+1) L nd lt w (.returned (.int .i64 b)) f from ⟨⟨b,rfl⟩,g,i,by omega,by omega,j,t.trans k⟩);dsimp only;go_wp2_with fail
    go_ret
    exact Aa l
   ·skip;have A:(x / 8 % 8== 0)=false:=beq_eq_false_iff_ne.2 (by omega);have C:(x / 8 % 8== 1)=false:=beq_eq_false_iff_ne.2 (by omega);have E:(x / 8 % 8== 2)=true:=beq_iff_eq.2 (by omega);have F:(x / 8 % 8== 3)=false:=beq_eq_false_iff_ne.2 (by omega);have H:(x / 8 % 8== 4)=false:=beq_eq_false_iff_ne.2 (by omega);have k5:(x / 8 % 8== 5)=false:=beq_eq_false_iff_ne.2 (by omega);have v:(x / 8 % 8== 6)=false:=beq_eq_false_iff_ne.2 (by omega);have z:(x / 8 % 8== 7)=false:=beq_eq_false_iff_ne.2 (by omega);clear ek;go_wp2_with fail
    refine (BU (Aa u) s (by rw[Aa o];omega) (26) (1) (1) (by omega) (by omega)).mono ?_;rw[Aa o];rintro r f ⟨⟨b,rfl⟩,g,i,b1,b2,j,k⟩;have l:=Ab (show Eu B R p a n c m (3 * q+1) L nd lt w (.returned (.int .i64 b)) f from ⟨⟨b,rfl⟩,g,i,by omega,by omega,j,t.trans k⟩);dsimp only;go_wp2_with fail
    go_ret
    exact Aa l
   ·skip;have A:(x / 8 % 8== 0)=false:=beq_eq_false_iff_ne.2 (by omega);have C:(x / 8 % 8== 1)=false:=beq_eq_false_iff_ne.2 (by omega);have E:(x / 8 % 8== 2)=false:=beq_eq_false_iff_ne.2 (by omega);have F:(x / 8 % 8== 3)=true:=beq_iff_eq.2 (by omega);have H:(x / 8 % 8== 4)=false:=beq_eq_false_iff_ne.2 (by omega);have k5:(x / 8 % 8== 5)=false:=beq_eq_false_iff_ne.2 (by omega);have v:(x / 8 % 8== 6)=false:=beq_eq_false_iff_ne.2 (by omega);have z:(x / 8 % 8== 7)=false:=beq_eq_false_iff_ne.2 (by omega);clear ek;go_wp2_with fail
    refine (Aa u (1) m nd _ (by omega) (by rw[Aa o];omega) s).mono ?_;rw[Aa o];rintro r S ⟨⟨I,rfl⟩,O,GH,a1,a2,J,K⟩;have M:=t.trans K;dsimp only;go_wp2_with fail
    refine (DT J (by omega) [I] _ 1 rfl rfl (by omega) (9)).mono ?_;rintro r f ⟨⟨b,rfl⟩,g,i,b1,b2,j,k⟩;have l:=Ab (show Eu B R p a n c m (3 * q+1) L nd lt w (.returned (.int .i64 b)) f from ⟨⟨b,rfl⟩,g,i,by omega,by omega,j,M.trans k⟩);dsimp only;go_wp2_with fail
    go_ret
    exact Aa l
   ·skip;have A:(x / 8 % 8== 0)=false:=beq_eq_false_iff_ne.2 (by omega);have C:(x / 8 % 8== 1)=false:=beq_eq_false_iff_ne.2 (by omega);have E:(x / 8 % 8== 2)=false:=beq_eq_false_iff_ne.2 (by omega);have F:(x / 8 % 8== 3)=false:=beq_eq_false_iff_ne.2 (by omega);have H:(x / 8 % 8== 4)=true:=beq_iff_eq.2 (by omega);have k5:(x / 8 % 8== 5)=false:=beq_eq_false_iff_ne.2 (by omega);have v:(x / 8 % 8== 6)=false:=beq_eq_false_iff_ne.2 (by omega);have z:(x / 8 % 8== 7)=false:=beq_eq_false_iff_ne.2 (by omega);clear ek;go_wp2_with fail
    refine (BU (Aa u) s (by rw[Aa o];omega) (23) (3) (4) (by omega) (by omega)).mono ?_;rw[Aa o];rintro r f ⟨⟨b,rfl⟩,g,i,b1,b2,j,k⟩;have l:=Ab (show Eu B R p a n c m (3 * q+1) L nd lt w (.returned (.int .i64 b)) f from ⟨⟨b,rfl⟩,g,i,by omega,by omega,j,t.trans k⟩);dsimp only;go_wp2_with fail
    go_ret
    exact Aa l
   ·skip;have A:(x / 8 % 8== 0)=false:=beq_eq_false_iff_ne.2 (by omega);have C:(x / 8 % 8== 1)=false:=beq_eq_false_iff_ne.2 (by omega);have E:(x / 8 % 8== 2)=false:=beq_eq_false_iff_ne.2 (by omega);have F:(x / 8 % 8== 3)=false:=beq_eq_false_iff_ne.2 (by omega);have H:(x / 8 % 8== 4)=false:=beq_eq_false_iff_ne.2 (by omega);have k5:(x / 8 % 8== 5)=true:=beq_iff_eq.2 (by omega);have v:(x / 8 % 8== 6)=false:=beq_eq_false_iff_ne.2 (by omega);have z:(x / 8 % 8== 7)=false:=beq_eq_false_iff_ne.2 (by omega);clear ek;go_wp2_with fail
    refine (BU (Aa u) s (by rw[Aa o];omega) (24) (4) (4) (by omega) (by omega)).mono ?_;rw[Aa o];rintro r f ⟨⟨b,rfl⟩,g,i,b1,b2,j,k⟩;have l:=Ab (show Eu B R p a n c m (3 * q+1) L nd lt w (.returned (.int .i64 b)) f from ⟨⟨b,rfl⟩,g,i,by omega,by omega,j,t.trans k⟩);dsimp only;go_wp2_with fail
    go_ret
    exact Aa l
   ·skip;have A:(x / 8 % 8== 0)=false:=beq_eq_false_iff_ne.2 (by omega);have C:(x / 8 % 8== 1)=false:=beq_eq_false_iff_ne.2 (by omega);have E:(x / 8 % 8== 2)=false:=beq_eq_false_iff_ne.2 (by omega);have F:(x / 8 % 8== 3)=false:=beq_eq_false_iff_ne.2 (by omega);have H:(x / 8 % 8== 4)=false:=beq_eq_false_iff_ne.2 (by omega);have k5:(x / 8 % 8== 5)=false:=beq_eq_false_iff_ne.2 (by omega);have v:(x / 8 % 8== 6)=true:=beq_iff_eq.2 (by omega);have z:(x / 8 % 8== 7)=false:=beq_eq_false_iff_ne.2 (by omega);clear ek;go_wp2_with fail
    refine (BU (Aa u) s (by rw[Aa o];omega) (21+x / 8 / 8 % 2) (2) (2) (by omega) (by omega)).mono ?_;rw[Aa o];rintro r f ⟨⟨b,rfl⟩,g,i,b1,b2,j,k⟩;have l:=Ab (show Eu B R p a n c m (3 * q+1) L nd lt w (.returned (.int .i64 b)) f from ⟨⟨b,rfl⟩,g,i,by omega,by omega,j,t.trans k⟩);dsimp only;go_wp2_with fail
    go_ret
    exact Aa l
   ·skip;have A:(x / 8 % 8== 0)=false:=beq_eq_false_iff_ne.2 (by omega);have C:(x / 8 % 8== 1)=false:=beq_eq_false_iff_ne.2 (by omega);have E:(x / 8 % 8== 2)=false:=beq_eq_false_iff_ne.2 (by omega);have F:(x / 8 % 8== 3)=false:=beq_eq_false_iff_ne.2 (by omega);have H:(x / 8 % 8== 4)=false:=beq_eq_false_iff_ne.2 (by omega);have k5:(x / 8 % 8== 5)=false:=beq_eq_false_iff_ne.2 (by omega);have v:(x / 8 % 8== 6)=false:=beq_eq_false_iff_ne.2 (by omega);have z:(x / 8 % 8== 7)=true:=beq_iff_eq.2 (by omega);clear ek;go_wp2_with fail
    refine (BU (Aa u) s (by rw[Aa o];omega) (19+x % 2) (1+x / 8 / 8) (1+x / 8 / 8) (by omega) (by omega)).mono ?_;rw[Aa o];rintro r f ⟨⟨b,rfl⟩,g,i,b1,b2,j,k⟩;have l:=Ab (show Eu B R p a n c m (3 * q+1) L nd lt w (.returned (.int .i64 b)) f from ⟨⟨b,rfl⟩,g,i,by omega,by omega,j,t.trans k⟩);dsimp only;go_wp2_with fail
    go_ret
    exact Aa l
  ·rcases (show x / 8 % 8=6∨x / 8 % 8=7∨x / 8 % 8 < 6 by omega) with ek | ek | ek
   ·skip;have A:(x / 8 % 8== 0)=false:=beq_eq_false_iff_ne.2 (by omega);have C:(x / 8 % 8== 1)=false:=beq_eq_false_iff_ne.2 (by omega);have E:(x / 8 % 8== 2)=false:=beq_eq_false_iff_ne.2 (by omega);have F:(x / 8 % 8== 3)=false:=beq_eq_false_iff_ne.2 (by omega);have H:(x / 8 % 8== 4)=false:=beq_eq_false_iff_ne.2 (by omega);have k5:(x / 8 % 8== 5)=false:=beq_eq_false_iff_ne.2 (by omega);have v:(x / 8 % 8== 6)=true:=beq_iff_eq.2 (by omega);have z:(x / 8 % 8== 7)=false:=beq_eq_false_iff_ne.2 (by omega);clear ek;go_wp2_with fail
    refine (Aa u (4) m nd _ (by omega) (by rw[Aa o];omega) s).mono ?_;rw[Aa o];rintro r S ⟨⟨I,rfl⟩,O,GH,a1,a2,J,K⟩;have M:=t.trans K;dsimp only;go_wp2_with fail
    refine (DT J (by omega) [I] _ 1 rfl rfl (by omega) (10)).mono ?_;rintro r f ⟨⟨b,rfl⟩,g,i,b1,b2,j,k⟩;have l:=Ab (show Eu B R p a n c m (3 * q+1) L nd lt w (.returned (.int .i64 b)) f from ⟨⟨b,rfl⟩,g,i,by omega,by omega,j,M.trans k⟩);dsimp only;go_wp2_with fail
    go_ret
    exact Aa l
   ·skip;have A:(x / 8 % 8== 0)=false:=beq_eq_false_iff_ne.2 (by omega);have C:(x / 8 % 8== 1)=false:=beq_eq_false_iff_ne.2 (by omega);have E:(x / 8 % 8== 2)=false:=beq_eq_false_iff_ne.2 (by omega);have F:(x / 8 % 8== 3)=false:=beq_eq_false_iff_ne.2 (by omega);have H:(x / 8 % 8== 4)=false:=beq_eq_false_iff_ne.2 (by omega);have k5:(x / 8 % 8== 5)=false:=beq_eq_false_iff_ne.2 (by omega);have v:(x / 8 % 8== 6)=false:=beq_eq_false_iff_ne.2 (by omega);have z:(x / 8 % 8== 7)=true:=beq_iff_eq.2 (by omega);clear ek;go_wp2_with fail
    refine (Aa u (2) m nd _ (by omega) (by rw[Aa o];omega) s).mono ?_;rw[Aa o];rintro r S ⟨⟨I,rfl⟩,O,GH,a1,a2,J,K⟩;have M:=t.trans K;dsimp only;go_wp2_with fail
    refine (DT J (by omega) [I] _ 1 rfl rfl (by omega) (8)).mono ?_;rintro r f ⟨⟨b,rfl⟩,g,i,b1,b2,j,k⟩;have l:=Ab (show Eu B R p a n c m (3 * q+1) L nd lt w (.returned (.int .i64 b)) f from ⟨⟨b,rfl⟩,g,i,by omega,by omega,j,M.trans k⟩);dsimp only;go_wp2_with fail
    go_ret
    exact Aa l
   ·have v:(x / 8 % 8== 6)=false:=beq_eq_false_iff_ne.2 (by omega);have z:(x / 8 % 8== 7)=false:=beq_eq_false_iff_ne.2 (by omega);clear ek;go_wp2_with fail
    refine (BU (Aa u) s (by rw[Aa o];omega) (11+x / 8 % 5) (2) (2) (by omega) (by omega)).mono ?_;rw[Aa o];rintro r f ⟨⟨b,rfl⟩,g,i,b1,b2,j,k⟩;have l:=Ab (show Eu B R p a n c m (3 * q+1) L nd lt w (.returned (.int .i64 b)) f from ⟨⟨b,rfl⟩,g,i,by omega,by omega,j,t.trans k⟩);dsimp only;go_wp2_with fail
    go_ret
    exact Aa l
  ·skip;go_wp2_with fail
   refine (De s (by omega) P 3 (by omega)).mono ?_;rintro r f ⟨⟨b,rfl⟩,g,i,b1,b2,j,k⟩;have l:=Ab (show Eu B R p a n c m (3 * q+1) L nd lt w (.returned (.int .i64 b)) f from ⟨⟨b,rfl⟩,g,i,by omega,by omega,j,t.trans k⟩);dsimp only;go_wp2_with fail
   go_ret
   exact Aa l
  ·skip;go_wp2_with fail
   refine (BU (Aa u) s (by rw[Aa o];omega) (16+x / 8 % 3) (4) (4) (by omega) (by omega)).mono ?_;rw[Aa o];rintro r f ⟨⟨b,rfl⟩,g,i,b1,b2,j,k⟩;have l:=Ab (show Eu B R p a n c m (3 * q+1) L nd lt w (.returned (.int .i64 b)) f from ⟨⟨b,rfl⟩,g,i,by omega,by omega,j,t.trans k⟩);dsimp only;go_wp2_with fail
   go_ret
   exact Aa l
theorem Fr {B R f:Nat}{a:Option Addr}{n c:Nat}{L:List (ByteArray × Int)}{lt:Value}(b:L.length≤100):∀ d,d≤10→Ym B R f a n c L lt d
 | 0,_=>TQ b
 | d+1,hd=>fun ty m nd w g hm h=>by
  have:=Q5 b (by omega) (Fr b d (by omega)) ty m nd w g hm h;rw[Int.natCast_add];exact this
end Go.Proofs.YtdldimphcpojoaaGreatDoor

/-
  Drawn policies, exactly: trees (written by mkltf.py). Own work.
-/
import Derived.Test.YtoplnhndilmlcaaGreatDoorMXAM
namespace Go.Proofs.YtoplnhndilmlcaaGreatDoor
set_option maxRecDepth 100000
set_option maxHeartbeats 12800000
open Go.RowKit
set_option linter.unusedVariables false
theorem VC {B R d:Nat}{a:Option Addr}{n c:Nat}{zs:List Int}{wild:Bool}{L:List (ByteArray × Int)}{lt:Value}(f:L.length≤100):ExD B R d a n c zs wild L lt 0:=by
 intro ty p N nd w g hm h;have i:N.length+1≤1000000:=hm;go_enter Tryz.func50,Tryz.ntmps50
 go_wp2_with fail
 refine (CT h i f ty g).mono ?_;intro r k b;have j:=Ab b;obtain ⟨l,m,o,rfl,-⟩:=b;dsimp only;go_wp2_with fail
 go_ret
 exact Aa j
theorem Te {B R u:Nat}{a:Option Addr}{n c d:Nat}{zs:List Int}{wild:Bool}{L:List (ByteArray × Int)}{lt:Value}(aa:L.length≤100)(aZ:d≤10)(aE:ExD B R u a n c zs wild L lt d)(ty:Int)(p:Nat)(N:List Nd)(nd:Value)(w:World)(aF:ty=1∨ty=2∨ty=3∨ty=4)(aG:N.length+YW (d+1)≤1000000)(h:FV B R u a n c zs wild p N L nd lt w):
  Calls Tryz.prog 50 #[.pointer (some ⟨u,0,none⟩),.int .i64 ty,.int .i64 ((d:Int)+1)] w (Ev B R u a n c zs wild N (YW (d+1)) (Dj zs L wild (d+1) ty p N) L nd lt w):=by
 have F:=Ab aE;unfold ExD at F;rw[YW] at aG ⊢;obtain ⟨v,ak⟩:∃ v,v=YW d:=⟨_,rfl⟩
 rw[← ak] at aG ⊢;have o:=Ab ak.symm;clear aE ak;obtain ⟨aJ,aK,aL,aM,ag,al,ah,c1,c2,c3⟩:=h.cells;have a0: ¬ ((d:Int)+1≤0):=by omega
 have aN:=Ab h.lt.2.2.le;have aO:=Ab h.lt.2.2.len;go_enter Tryz.func50,Tryz.ntmps50
 go_wp2_with fail
 refine (Xv R a n c zs p w h.lt.2.2).mono ?_;rintro r aH ⟨y,rfl,aI,a7,a8,ao⟩;have ab:=h.below ao;have ai:Gk B R u lt nd w nd aH:=Gk.of_below ao h.lt.1.1;clear ah c1 c2 c3 ag al;obtain ⟨aJ,aK,aL,aM,ag,al,ah,c1,c2,c3⟩:=ab.cells;rw[ag] at c1;clear h ao ag al;dsimp only;by_cases hy:y=0
 ·have aP:(y== 0)=true:=beq_iff_eq.2 hy;have ac:=Ab (show zs.length≤p∨300 < N.length from .inl (by have:=Aa aI;omega));clear hy;go_wp2_with fail
  refine (CT ab (by omega) aa ty (by omega)).mono ?_;rintro r f ⟨g,b,i,rfl,j,b1,b2,k,l⟩;have m:=Ab (show Ev B R u a n c zs wild N (3 * v+1) (Dj zs L wild (d+1) ty p N) L nd lt w (.returned (.int .i64 (Ay b))) f from ⟨g,b,i,rfl,Ab (QH (by have:=Aa ac;omega) (Aa j)),by omega,by omega,k,ai.trans l⟩);dsimp only;go_wp2_with fail
  go_ret
  exact Aa m
 have aP:(y== 0)=false:=beq_eq_false_iff_ne.2 hy;by_cases ap: 300 < N.length
 ·have aQ:(300 :Int) < (N.length:Int):=by omega
  have ac:=Ab (show zs.length≤p∨300 < N.length from .inr ap);clear hy;go_wp2_with fail
  refine (CT ab (by omega) aa ty (by omega)).mono ?_;rintro r f ⟨g,b,i,rfl,j,b1,b2,k,l⟩;have m:=Ab (show Ev B R u a n c zs wild N (3 * v+1) (Dj zs L wild (d+1) ty p N) L nd lt w (.returned (.int .i64 (Ay b))) f from ⟨g,b,i,rfl,Ab (QH (by have:=Aa ac;omega) (Aa j)),by omega,by omega,k,ai.trans l⟩);dsimp only;go_wp2_with fail
  go_ret
  exact Aa m
 have aQ: ¬ ((300 :Int) < (N.length:Int)):=by omega
 have ac:=Ab (show ¬ (zs.length≤p∨300 < N.length) by rintro (h | h);{ have:=Aa aI;have:=Aa aN;have:=Aa aO;omega };{ exact ap h });clear hy ap;go_wp2_with fail
 refine (Cd R a n c zs p aH ab.lt.2.2).mono ?_;rintro r a9 ⟨x,Z,rfl,aq,ba,bb,hr2,ar⟩;have C:=ab.touch ar hr2;have E:=ai.trans (Gk.of_touch (nd:=nd) ar ab.lt.2.1.2 ab.lt.1.2.2);clear ab ai ar hr2 ah c1 c2 c3;obtain ⟨bc,bd,bf,bg,aR,aS,ah,c1,c2,c3⟩:=C.cells;clear aR aS;dsimp only;by_cases ae:x=201
 ·have aT:(x== 201)=true:=beq_iff_eq.2 ae;have aj:(x % 8== 7)=false:=beq_eq_false_iff_ne.2 (by omega);have e2:x % 8 < 2:=by omega
  have z:=Ab e2;have aU:=Ab ae;clear ae;cases wild
  ·have A:=Ab (fun q M (h:NO (Bh zs L) (Dj zs L false d) ty x Z N q M)=>Xw (wild:=false) (ty:=ty) (by have:=Aa ac;omega) aq (by simp) h);go_wp2_with fail
   refine (CT C (by omega) aa ty (by omega)).mono ?_;rintro r f ⟨g,b,i,rfl,j,b1,b2,k,l⟩;have m:=Ab (show Ev B R u a n c zs false N (3 * v+1) (Dj zs L false (d+1) ty p N) L nd lt w (.returned (.int .i64 (Ay b))) f from ⟨g,b,i,rfl,Ab (Aa A _ _ (IZ (by have:=Aa z;omega) (Aa j))),by omega,by omega,k,E.trans l⟩);dsimp only;go_wp2_with fail
   go_ret
   exact Aa m
  ·have A:=Ab (fun q M (h:NO (Bh zs L) (Dj zs L true d) (1+ty % 4) x Z N q M)=>Xw (wild:=true) (ty:=ty) (by have:=Aa ac;omega) aq (by rw[if_pos ⟨rfl,Aa aU⟩]) h);go_wp2_with fail
   refine (CT C (by omega) aa (1+ty % 4) (by omega)).mono ?_;rintro r f ⟨g,b,i,rfl,j,b1,b2,k,l⟩;have m:=Ab (show Ev B R u a n c zs true N (3 * v+1) (Dj zs L true (d+1) ty p N) L nd lt w (.returned (.int .i64 (Ay b))) f from ⟨g,b,i,rfl,Ab (Aa A _ _ (IZ (by have:=Aa z;omega) (Aa j))),by omega,by omega,k,E.trans l⟩);dsimp only;go_wp2_with fail
   go_ret
   exact Aa m
 have aT:(x== 201)=false:=beq_eq_false_iff_ne.2 ae;have A:=Ab (fun q M (h:NO (Bh zs L) (Dj zs L wild d) ty x Z N q M)=>Xw (wild:=wild) (ty:=ty) (by have:=Aa ac;omega) aq (by rw[if_neg (fun h=>ae h.2)]) h);clear ae;cases wild
 ·skip;by_cases Y:x % 8=7
  ·have aj:(x % 8== 7)=true:=beq_iff_eq.2 Y;have H:=Ab Y;clear Y;go_wp2_with fail
   refine (Aa F 1 Z N nd _ (by omega) (by rw[Aa o];omega) C).mono ?_;rw[Aa o];rintro r ad ⟨q5,T,Gi,rfl,U,a1,a2,V,W⟩;have X:=E.trans W;dsimp only;go_wp2_with fail
   refine (Aa F ty q5 T Gi _ (by omega) (by rw[Aa o];omega) V).mono ?_;rw[Aa o];rintro r aV ⟨au,af,av,rfl,aw,a3,a4,S6,ax⟩;have ay:=X.trans ax;dsimp only;go_wp2_with fail
   refine (Aa F ty au af av _ (by omega) (by rw[Aa o];omega) S6).mono ?_;rw[Aa o];rintro r aW ⟨aX,az,aY,rfl,aA,a5,a6,aB,aC⟩;have aD:=ay.trans aC;dsimp only;go_wp2_with fail
   refine (DQ aB (by omega) [Ay T,Ay af,Ay az] _ 3 rfl rfl (by omega) 27).mono ?_;rintro r f ⟨g,b,i,rfl,j,b1,b2,k,l⟩;have m:=Ab (show Ev B R u a n c zs false N (3 * v+1) (Dj zs L false (d+1) ty p N) L nd lt w (.returned (.int .i64 (Ay b))) f from ⟨g,b,i,rfl,Ab (Aa A _ _ (Xx (Aa H) (Aa U) (Aa aw) (Aa aA) (Aa j))),by omega,by omega,k,aD.trans l⟩);dsimp only;go_wp2_with fail
   go_ret
   exact Aa m
  have aj:(x % 8== 7)=false:=beq_eq_false_iff_ne.2 Y;have H:=Ab Y;clear Y;by_cases e2:x % 8 < 2
  ·have z:=Ab e2;go_wp2_with fail
   refine (CT C (by omega) aa ty (by omega)).mono ?_;rintro r f ⟨g,b,i,rfl,j,b1,b2,k,l⟩;have m:=Ab (show Ev B R u a n c zs false N (3 * v+1) (Dj zs L false (d+1) ty p N) L nd lt w (.returned (.int .i64 (Ay b))) f from ⟨g,b,i,rfl,Ab (Aa A _ _ (IZ (by have:=Aa z;omega) (Aa j))),by omega,by omega,k,E.trans l⟩);dsimp only;go_wp2_with fail
   go_ret
   exact Aa m
  have z:=Ab e2;rcases aF with rfl | rfl | rfl | rfl
  ·rcases (show x / 8 % 8=0∨x / 8 % 8=1∨x / 8 % 8=2∨x / 8 % 8=3∨x / 8 % 8=4∨x / 8 % 8=5∨x / 8 % 8=6∨x / 8 % 8=7 by omega) with ek | ek | ek | ek | ek | ek | ek | ek
   ·skip;have K:(x / 8 % 8== 0)=true:=beq_iff_eq.2 (by omega);have O:(x / 8 % 8== 1)=false:=beq_eq_false_iff_ne.2 (by omega);have P:(x / 8 % 8== 2)=false:=beq_eq_false_iff_ne.2 (by omega);have Q:(x / 8 % 8== 3)=false:=beq_eq_false_iff_ne.2 (by omega);have S:(x / 8 % 8== 4)=false:=beq_eq_false_iff_ne.2 (by omega);have k5:(x / 8 % 8== 5)=false:=beq_eq_false_iff_ne.2 (by omega);have I:(x / 8 % 8== 6)=false:=beq_eq_false_iff_ne.2 (by omega);have J:(x / 8 % 8== 7)=false:=beq_eq_false_iff_ne.2 (by omega);have t:=Ab ek;clear ek;have s:=Ab (show DI (1) x=some (25+x / 8 / 8 % 2,1,some (1)) by unfold DI;simp[Aa t]);go_wp2_with fail
    refine (BE (Aa F) C (by rw[Aa o];omega) (25+x / 8 / 8 % 2) (1) (1) (by omega) (by omega)).mono ?_;rw[Aa o];rintro r f ⟨g,b,i,rfl,j,b1,b2,k,l⟩;have m:=Ab (show Ev B R u a n c zs false N (3 * v+1) (Dj zs L false (d+1) 1 p N) L nd lt w (.returned (.int .i64 (Ay b))) f from ⟨g,b,i,rfl,Ab (Aa A _ _ (BH (Aa H) (by have:=Aa z;omega) (Aa s) (Aa j))),by omega,by omega,k,E.trans l⟩);dsimp only;go_wp2_with fail
    go_ret
    exact Aa m
   ·skip;have K:(x / 8 % 8== 0)=false:=beq_eq_false_iff_ne.2 (by omega);have O:(x / 8 % 8== 1)=true:=beq_iff_eq.2 (by omega);have P:(x / 8 % 8== 2)=false:=beq_eq_false_iff_ne.2 (by omega);have Q:(x / 8 % 8== 3)=false:=beq_eq_false_iff_ne.2 (by omega);have S:(x / 8 % 8== 4)=false:=beq_eq_false_iff_ne.2 (by omega);have k5:(x / 8 % 8== 5)=false:=beq_eq_false_iff_ne.2 (by omega);have I:(x / 8 % 8== 6)=false:=beq_eq_false_iff_ne.2 (by omega);have J:(x / 8 % 8== 7)=false:=beq_eq_false_iff_ne.2 (by omega);have t:=Ab ek;clear ek;have s:=Ab (show DI (1) x=some (25+x / 8 / 8 % 2,1,some (1)) by unfold DI;simp[Aa t]);go_wp2_with fail
    refine (BE (Aa F) C (by rw[Aa o];omega) (25+x / 8 / 8 % 2) (1) (1) (by omega) (by omega)).mono ?_;rw[Aa o];rintro r f ⟨g,b,i,rfl,j,b1,b2,k,l⟩;have m:=Ab (show Ev B R u a n c zs false N (3 * v+1) (Dj zs L false (d+1) 1 p N) L nd lt w (.returned (.int .i64 (Ay b))) f from ⟨g,b,i,rfl,Ab (Aa A _ _ (BH (Aa H) (by have:=Aa z;omega) (Aa s) (Aa j))),by omega,by omega,k,E.trans l⟩);dsimp only;go_wp2_with fail
    go_ret
    exact Aa m
   ·skip;have K:(x / 8 % 8== 0)=false:=beq_eq_false_iff_ne.2 (by omega);have O:(x / 8 % 8== 1)=false:=beq_eq_false_iff_ne.2 (by omega);have P:(x / 8 % 8== 2)=true:=beq_iff_eq.2 (by omega);have Q:(x / 8 % 8== 3)=false:=beq_eq_false_iff_ne.2 (by omega);have S:(x / 8 % 8== 4)=false:=beq_eq_false_iff_ne.2 (by omega);have k5:(x / 8 % 8== 5)=false:=beq_eq_false_iff_ne.2 (by omega);have I:(x / 8 % 8== 6)=false:=beq_eq_false_iff_ne.2 (by omega);have J:(x / 8 % 8== 7)=false:=beq_eq_false_iff_ne.2 (by omega);have t:=Ab ek;clear ek;have s:=Ab (show DI (1) x=some (26,1,some (1)) by unfold DI;simp[Aa t]);go_wp2_with fail
    refine (BE (Aa F) C (by rw[Aa o];omega) (26) (1) (1) (by omega) (by omega)).mono ?_;rw[Aa o];rintro r f ⟨g,b,i,rfl,j,b1,b2,k,l⟩;have m:=Ab (show Ev B R u a n c zs false N (3 * v+1) (Dj zs L false (d+1) 1 p N) L nd lt w (.returned (.int .i64 (Ay b))) f from ⟨g,b,i,rfl,Ab (Aa A _ _ (BH (Aa H) (by have:=Aa z;omega) (Aa s) (Aa j))),by omega,by omega,k,E.trans l⟩);dsimp only;go_wp2_with fail
    go_ret
    exact Aa m
   ·skip;have K:(x / 8 % 8== 0)=false:=beq_eq_false_iff_ne.2 (by omega);have O:(x / 8 % 8== 1)=false:=beq_eq_false_iff_ne.2 (by omega);have P:(x / 8 % 8== 2)=false:=beq_eq_false_iff_ne.2 (by omega);have Q:(x / 8 % 8== 3)=true:=beq_iff_eq.2 (by omega);have S:(x / 8 % 8== 4)=false:=beq_eq_false_iff_ne.2 (by omega);have k5:(x / 8 % 8== 5)=false:=beq_eq_false_iff_ne.2 (by omega);have I:(x / 8 % 8== 6)=false:=beq_eq_false_iff_ne.2 (by omega);have J:(x / 8 % 8== 7)=false:=beq_eq_false_iff_ne.2 (by omega);have t:=Ab ek;clear ek;have s:=Ab (show DI (1) x=some (9,1,none) by unfold DI;simp[Aa t]);go_wp2_with fail
    refine (Aa F (1) Z N nd _ (by omega) (by rw[Aa o];omega) C).mono ?_;rw[Aa o];rintro r ad ⟨q5,T,Gi,rfl,U,a1,a2,V,W⟩;have X:=E.trans W;dsimp only;go_wp2_with fail
    refine (DQ V (by omega) [Ay T] _ 1 rfl rfl (by omega) (9)).mono ?_;rintro r f ⟨g,b,i,rfl,j,b1,b2,k,l⟩;have m:=Ab (show Ev B R u a n c zs false N (3 * v+1) (Dj zs L false (d+1) 1 p N) L nd lt w (.returned (.int .i64 (Ay b))) f from ⟨g,b,i,rfl,Ab (Aa A _ _ (GY (Aa H) (by have:=Aa z;omega) (Aa s) (Aa U) (Aa j))),by omega,by omega,k,X.trans l⟩);dsimp only;go_wp2_with fail
    go_ret
    exact Aa m
   ·skip;have K:(x / 8 % 8== 0)=false:=beq_eq_false_iff_ne.2 (by omega);have O:(x / 8 % 8== 1)=false:=beq_eq_false_iff_ne.2 (by omega);have P:(x / 8 % 8== 2)=false:=beq_eq_false_iff_ne.2 (by omega);have Q:(x / 8 % 8== 3)=false:=beq_eq_false_iff_ne.2 (by omega);have S:(x / 8 % 8== 4)=true:=beq_iff_eq.2 (by omega);have k5:(x / 8 % 8== 5)=false:=beq_eq_false_iff_ne.2 (by omega);have I:(x / 8 % 8== 6)=false:=beq_eq_false_iff_ne.2 (by omega);have J:(x / 8 % 8== 7)=false:=beq_eq_false_iff_ne.2 (by omega);have t:=Ab ek;clear ek;have s:=Ab (show DI (1) x=some (23,3,some (4)) by unfold DI;simp[Aa t]);go_wp2_with fail
    refine (BE (Aa F) C (by rw[Aa o];omega) (23) (3) (4) (by omega) (by omega)).mono ?_;rw[Aa o];rintro r f ⟨g,b,i,rfl,j,b1,b2,k,l⟩;have m:=Ab (show Ev B R u a n c zs false N (3 * v+1) (Dj zs L false (d+1) 1 p N) L nd lt w (.returned (.int .i64 (Ay b))) f from ⟨g,b,i,rfl,Ab (Aa A _ _ (BH (Aa H) (by have:=Aa z;omega) (Aa s) (Aa j))),by omega,by omega,k,E.trans l⟩);dsimp only;go_wp2_with fail
    go_ret
    exact Aa m
   ·skip;have K:(x / 8 % 8== 0)=false:=beq_eq_false_iff_ne.2 (by omega);have O:(x / 8 % 8== 1)=false:=beq_eq_false_iff_ne.2 (by omega);have P:(x / 8 % 8== 2)=false:=beq_eq_false_iff_ne.2 (by omega);have Q:(x / 8 % 8== 3)=false:=beq_eq_false_iff_ne.2 (by omega);have S:(x / 8 % 8== 4)=false:=beq_eq_false_iff_ne.2 (by omega);have k5:(x / 8 % 8== 5)=true:=beq_iff_eq.2 (by omega);have I:(x / 8 % 8== 6)=false:=beq_eq_false_iff_ne.2 (by omega);have J:(x / 8 % 8== 7)=false:=beq_eq_false_iff_ne.2 (by omega);have t:=Ab ek;clear ek;have s:=Ab (show DI (1) x=some (24,4,some (4)) by unfold DI;simp[Aa t]);go_wp2_with fail
    refine (BE (Aa F) C (by rw[Aa o];omega) (24) (4) (4) (by omega) (by omega)).mono ?_;rw[Aa o];rintro r f ⟨g,b,i,rfl,j,b1,b2,k,l⟩;have m:=Ab (show Ev B R u a n c zs false N (3 * v+1) (Dj zs L false (d+1) 1 p N) L nd lt w (.returned (.int .i64 (Ay b))) f from ⟨g,b,i,rfl,Ab (Aa A _ _ (BH (Aa H) (by have:=Aa z;omega) (Aa s) (Aa j))),by omega,by omega,k,E.trans l⟩);dsimp only;go_wp2_with fail
    go_ret
    exact Aa m
   ·skip;have K:(x / 8 % 8== 0)=false:=beq_eq_false_iff_ne.2 (by omega);have O:(x / 8 % 8== 1)=false:=beq_eq_false_iff_ne.2 (by omega);have P:(x / 8 % 8== 2)=false:=beq_eq_false_iff_ne.2 (by omega);have Q:(x / 8 % 8== 3)=false:=beq_eq_false_iff_ne.2 (by omega);have S:(x / 8 % 8== 4)=false:=beq_eq_false_iff_ne.2 (by omega);have k5:(x / 8 % 8== 5)=false:=beq_eq_false_iff_ne.2 (by omega);have I:(x / 8 % 8== 6)=true:=beq_iff_eq.2 (by omega);have J:(x / 8 % 8== 7)=false:=beq_eq_false_iff_ne.2 (by omega);have t:=Ab ek;clear ek;have s:=Ab (show DI (1) x=some (21+x / 8 / 8 % 2,2,some (2)) by unfold DI;simp[Aa t]);go_wp2_with fail
    refine (BE (Aa F) C (by rw[Aa o];omega) (21+x / 8 / 8 % 2) (2) (2) (by omega) (by omega)).mono ?_;rw[Aa o];rintro r f ⟨g,b,i,rfl,j,b1,b2,k,l⟩;have m:=Ab (show Ev B R u a n c zs false N (3 * v+1) (Dj zs L false (d+1) 1 p N) L nd lt w (.returned (.int .i64 (Ay b))) f from ⟨g,b,i,rfl,Ab (Aa A _ _ (BH (Aa H) (by have:=Aa z;omega) (Aa s) (Aa j))),by omega,by omega,k,E.trans l⟩);dsimp only;go_wp2_with fail
    go_ret
    exact Aa m
   ·skip;have K:(x / 8 % 8== 0)=false:=beq_eq_false_iff_ne.2 (by omega);have O:(x / 8 % 8== 1)=false:=beq_eq_false_iff_ne.2 (by omega);have P:(x / 8 % 8== 2)=false:=beq_eq_false_iff_ne.2 (by omega);have Q:(x / 8 % 8== 3)=false:=beq_eq_false_iff_ne.2 (by omega);have S:(x / 8 % 8== 4)=false:=beq_eq_false_iff_ne.2 (by omega);have k5:(x / 8 % 8== 5)=false:=beq_eq_false_iff_ne.2 (by omega);have I:(x / 8 % 8== 6)=false:=beq_eq_false_iff_ne.2 (by omega);have J:(x / 8 % 8== 7)=true:=beq_iff_eq.2 (by omega);have t:=Ab ek;clear ek;have s:=Ab (show DI (1) x=some (19+x % 2,1+x / 8 / 8,some (1+x / 8 / 8)) by unfold DI;simp[Aa t]);go_wp2_with fail
    refine (BE (Aa F) C (by rw[Aa o];omega) (19+x % 2) (1+x / 8 / 8) (1+x / 8 / 8) (by omega) (by omega)).mono ?_;rw[Aa o];rintro r f ⟨g,b,i,rfl,j,b1,b2,k,l⟩;have m:=Ab (show Ev B R u a n c zs false N (3 * v+1) (Dj zs L false (d+1) 1 p N) L nd lt w (.returned (.int .i64 (Ay b))) f from ⟨g,b,i,rfl,Ab (Aa A _ _ (BH (Aa H) (by have:=Aa z;omega) (Aa s) (Aa j))),by omega,by omega,k,E.trans l⟩);dsimp only;go_wp2_with fail
    go_ret
    exact Aa m
  ·rcases (show x / 8 % 8=6∨x / 8 % 8=7∨x / 8 % 8 < 6 by omega) with ek | ek | ek
   ·skip;have K:(x / 8 % 8== 0)=false:=beq_eq_false_iff_ne.2 (by omega);have O:(x / 8 % 8== 1)=false:=beq_eq_false_iff_ne.2 (by omega);have P:(x / 8 % 8== 2)=false:=beq_eq_false_iff_ne.2 (by omega);have Q:(x / 8 % 8== 3)=false:=beq_eq_false_iff_ne.2 (by omega);have S:(x / 8 % 8== 4)=false:=beq_eq_false_iff_ne.2 (by omega);have k5:(x / 8 % 8== 5)=false:=beq_eq_false_iff_ne.2 (by omega);have I:(x / 8 % 8== 6)=true:=beq_iff_eq.2 (by omega);have J:(x / 8 % 8== 7)=false:=beq_eq_false_iff_ne.2 (by omega);have t:=Ab ek;clear ek;have s:=Ab (show DI (2) x=some (10,4,none) by unfold DI;simp[Aa t]);go_wp2_with fail
    refine (Aa F (4) Z N nd _ (by omega) (by rw[Aa o];omega) C).mono ?_;rw[Aa o];rintro r ad ⟨q5,T,Gi,rfl,U,a1,a2,V,W⟩;have X:=E.trans W;dsimp only;go_wp2_with fail
    refine (DQ V (by omega) [Ay T] _ 1 rfl rfl (by omega) (10)).mono ?_;rintro r f ⟨g,b,i,rfl,j,b1,b2,k,l⟩;have m:=Ab (show Ev B R u a n c zs false N (3 * v+1) (Dj zs L false (d+1) 2 p N) L nd lt w (.returned (.int .i64 (Ay b))) f from ⟨g,b,i,rfl,Ab (Aa A _ _ (GY (Aa H) (by have:=Aa z;omega) (Aa s) (Aa U) (Aa j))),by omega,by omega,k,X.trans l⟩);dsimp only;go_wp2_with fail
    go_ret
    exact Aa m
   ·skip;have K:(x / 8 % 8== 0)=false:=beq_eq_false_iff_ne.2 (by omega);have O:(x / 8 % 8== 1)=false:=beq_eq_false_iff_ne.2 (by omega);have P:(x / 8 % 8== 2)=false:=beq_eq_false_iff_ne.2 (by omega);have Q:(x / 8 % 8== 3)=false:=beq_eq_false_iff_ne.2 (by omega);have S:(x / 8 % 8== 4)=false:=beq_eq_false_iff_ne.2 (by omega);have k5:(x / 8 % 8== 5)=false:=beq_eq_false_iff_ne.2 (by omega);have I:(x / 8 % 8== 6)=false:=beq_eq_false_iff_ne.2 (by omega);have J:(x / 8 % 8== 7)=true:=beq_iff_eq.2 (by omega);have t:=Ab ek;clear ek;have s:=Ab (show DI (2) x=some (8,2,none) by unfold DI;simp[Aa t]);go_wp2_with fail
    refine (Aa F (2) Z N nd _ (by omega) (by rw[Aa o];omega) C).mono ?_;rw[Aa o];rintro r ad ⟨q5,T,Gi,rfl,U,a1,a2,V,W⟩;have X:=E.trans W;dsimp only;go_wp2_with fail
    refine (DQ V (by omega) [Ay T] _ 1 rfl rfl (by omega) (8)).mono ?_;rintro r f ⟨g,b,i,rfl,j,b1,b2,k,l⟩;have m:=Ab (show Ev B R u a n c zs false N (3 * v+1) (Dj zs L false (d+1) 2 p N) L nd lt w (.returned (.int .i64 (Ay b))) f from ⟨g,b,i,rfl,Ab (Aa A _ _ (GY (Aa H) (by have:=Aa z;omega) (Aa s) (Aa U) (Aa j))),by omega,by omega,k,X.trans l⟩);dsimp only;go_wp2_with fail
    go_ret
    exact Aa m
   ·have I:(x / 8 % 8== 6)=false:=beq_eq_false_iff_ne.2 (by omega);have J:(x / 8 % 8== 7)=false:=beq_eq_false_iff_ne.2 (by omega);have t:=Ab (show ¬ x / 8 % 8=6∧¬ x / 8 % 8=7 by omega);clear ek;have s:=Ab (show DI (2) x=some (11+x / 8 % 5,2,some (2)) by unfold DI;simp[Aa t]);go_wp2_with fail
    refine (BE (Aa F) C (by rw[Aa o];omega) (11+x / 8 % 5) (2) (2) (by omega) (by omega)).mono ?_;rw[Aa o];rintro r f ⟨g,b,i,rfl,j,b1,b2,k,l⟩;have m:=Ab (show Ev B R u a n c zs false N (3 * v+1) (Dj zs L false (d+1) 2 p N) L nd lt w (.returned (.int .i64 (Ay b))) f from ⟨g,b,i,rfl,Ab (Aa A _ _ (BH (Aa H) (by have:=Aa z;omega) (Aa s) (Aa j))),by omega,by omega,k,E.trans l⟩);dsimp only;go_wp2_with fail
    go_ret
    exact Aa m
  ·skip;go_wp2_with fail
   refine (CT C (by omega) aa 3 (by omega)).mono ?_;rintro r f ⟨g,b,i,rfl,j,b1,b2,k,l⟩;have m:=Ab (show Ev B R u a n c zs false N (3 * v+1) (Dj zs L false (d+1) 3 p N) L nd lt w (.returned (.int .i64 (Ay b))) f from ⟨g,b,i,rfl,Ab (Aa A _ _ (QI (Aa H) (by have:=Aa z;omega) (by unfold DI;simp) (Aa j))),by omega,by omega,k,E.trans l⟩);dsimp only;go_wp2_with fail
   go_ret
   exact Aa m
  ·skip;have s:=Ab (show DI (4) x=some (16+x / 8 % 3,4,some (4)) by unfold DI;simp);go_wp2_with fail
   refine (BE (Aa F) C (by rw[Aa o];omega) (16+x / 8 % 3) (4) (4) (by omega) (by omega)).mono ?_;rw[Aa o];rintro r f ⟨g,b,i,rfl,j,b1,b2,k,l⟩;have m:=Ab (show Ev B R u a n c zs false N (3 * v+1) (Dj zs L false (d+1) 4 p N) L nd lt w (.returned (.int .i64 (Ay b))) f from ⟨g,b,i,rfl,Ab (Aa A _ _ (BH (Aa H) (by have:=Aa z;omega) (Aa s) (Aa j))),by omega,by omega,k,E.trans l⟩);dsimp only;go_wp2_with fail
   go_ret
   exact Aa m
 ·skip;by_cases Y:x % 8=7
  ·have aj:(x % 8== 7)=true:=beq_iff_eq.2 Y;have H:=Ab Y;clear Y;go_wp2_with fail
   refine (Aa F 1 Z N nd _ (by omega) (by rw[Aa o];omega) C).mono ?_;rw[Aa o];rintro r ad ⟨q5,T,Gi,rfl,U,a1,a2,V,W⟩;have X:=E.trans W;dsimp only;go_wp2_with fail
   refine (Aa F ty q5 T Gi _ (by omega) (by rw[Aa o];omega) V).mono ?_;rw[Aa o];rintro r aV ⟨au,af,av,rfl,aw,a3,a4,S6,ax⟩;have ay:=X.trans ax;dsimp only;go_wp2_with fail
   refine (Aa F ty au af av _ (by omega) (by rw[Aa o];omega) S6).mono ?_;rw[Aa o];rintro r aW ⟨aX,az,aY,rfl,aA,a5,a6,aB,aC⟩;have aD:=ay.trans aC;dsimp only;go_wp2_with fail
   refine (DQ aB (by omega) [Ay T,Ay af,Ay az] _ 3 rfl rfl (by omega) 27).mono ?_;rintro r f ⟨g,b,i,rfl,j,b1,b2,k,l⟩;have m:=Ab (show Ev B R u a n c zs true N (3 * v+1) (Dj zs L true (d+1) ty p N) L nd lt w (.returned (.int .i64 (Ay b))) f from ⟨g,b,i,rfl,Ab (Aa A _ _ (Xx (Aa H) (Aa U) (Aa aw) (Aa aA) (Aa j))),by omega,by omega,k,aD.trans l⟩);dsimp only;go_wp2_with fail
   go_ret
   exact Aa m
  have aj:(x % 8== 7)=false:=beq_eq_false_iff_ne.2 Y;have H:=Ab Y;clear Y;by_cases e2:x % 8 < 2
  ·have z:=Ab e2;go_wp2_with fail
   refine (CT C (by omega) aa ty (by omega)).mono ?_;rintro r f ⟨g,b,i,rfl,j,b1,b2,k,l⟩;have m:=Ab (show Ev B R u a n c zs true N (3 * v+1) (Dj zs L true (d+1) ty p N) L nd lt w (.returned (.int .i64 (Ay b))) f from ⟨g,b,i,rfl,Ab (Aa A _ _ (IZ (by have:=Aa z;omega) (Aa j))),by omega,by omega,k,E.trans l⟩);dsimp only;go_wp2_with fail
   go_ret
   exact Aa m
  have z:=Ab e2;rcases aF with rfl | rfl | rfl | rfl
  ·rcases (show x / 8 % 8=0∨x / 8 % 8=1∨x / 8 % 8=2∨x / 8 % 8=3∨x / 8 % 8=4∨x / 8 % 8=5∨x / 8 % 8=6∨x / 8 % 8=7 by omega) with ek | ek | ek | ek | ek | ek | ek | ek
   ·skip;have K:(x / 8 % 8== 0)=true:=beq_iff_eq.2 (by omega);have O:(x / 8 % 8== 1)=false:=beq_eq_false_iff_ne.2 (by omega);have P:(x / 8 % 8== 2)=false:=beq_eq_false_iff_ne.2 (by omega);have Q:(x / 8 % 8== 3)=false:=beq_eq_false_iff_ne.2 (by omega);have S:(x / 8 % 8== 4)=false:=beq_eq_false_iff_ne.2 (by omega);have k5:(x / 8 % 8== 5)=false:=beq_eq_false_iff_ne.2 (by omega);have I:(x / 8 % 8== 6)=false:=beq_eq_false_iff_ne.2 (by omega);have J:(x / 8 % 8== 7)=false:=beq_eq_false_iff_ne.2 (by omega);have t:=Ab ek;clear ek;have s:=Ab (show DI (1) x=some (25+x / 8 / 8 % 2,1,some (1)) by unfold DI;simp[Aa t]);go_wp2_with fail
    refine (BE (Aa F) C (by rw[Aa o];omega) (25+x / 8 / 8 % 2) (1) (1) (by omega) (by omega)).mono ?_;rw[Aa o];rintro r f ⟨g,b,i,rfl,j,b1,b2,k,l⟩;have m:=Ab (show Ev B R u a n c zs true N (3 * v+1) (Dj zs L true (d+1) 1 p N) L nd lt w (.returned (.int .i64 (Ay b))) f from ⟨g,b,i,rfl,Ab (Aa A _ _ (BH (Aa H) (by have:=Aa z;omega) (Aa s) (Aa j))),by omega,by omega,k,E.trans l⟩);dsimp only;go_wp2_with fail
    go_ret
    exact Aa m
   ·skip;have K:(x / 8 % 8== 0)=false:=beq_eq_false_iff_ne.2 (by omega);have O:(x / 8 % 8== 1)=true:=beq_iff_eq.2 (by omega);have P:(x / 8 % 8== 2)=false:=beq_eq_false_iff_ne.2 (by omega);have Q:(x / 8 % 8== 3)=false:=beq_eq_false_iff_ne.2 (by omega);have S:(x / 8 % 8== 4)=false:=beq_eq_false_iff_ne.2 (by omega);have k5:(x / 8 % 8== 5)=false:=beq_eq_false_iff_ne.2 (by omega);have I:(x / 8 % 8== 6)=false:=beq_eq_false_iff_ne.2 (by omega);have J:(x / 8 % 8== 7)=false:=beq_eq_false_iff_ne.2 (by omega);have t:=Ab ek;clear ek;have s:=Ab (show DI (1) x=some (25+x / 8 / 8 % 2,1,some (1)) by unfold DI;simp[Aa t]);go_wp2_with fail
    refine (BE (Aa F) C (by rw[Aa o];omega) (25+x / 8 / 8 % 2) (1) (1) (by omega) (by omega)).mono ?_;rw[Aa o];rintro r f ⟨g,b,i,rfl,j,b1,b2,k,l⟩;have m:=Ab (show Ev B R u a n c zs true N (3 * v+1) (Dj zs L true (d+1) 1 p N) L nd lt w (.returned (.int .i64 (Ay b))) f from ⟨g,b,i,rfl,Ab (Aa A _ _ (BH (Aa H) (by have:=Aa z;omega) (Aa s) (Aa j))),by omega,by omega,k,E.trans l⟩);dsimp only;go_wp2_with fail
    go_ret
    exact Aa m
   ·skip;have K:(x / 8 % 8== 0)=false:=beq_eq_false_iff_ne.2 (by omega);have O:(x / 8 % 8== 1)=false:=beq_eq_false_iff_ne.2 (by omega);have P:(x / 8 % 8== 2)=true:=beq_iff_eq.2 (by omega);have Q:(x / 8 % 8== 3)=false:=beq_eq_false_iff_ne.2 (by omega);have S:(x / 8 % 8== 4)=false:=beq_eq_false_iff_ne.2 (by omega);have k5:(x / 8 % 8== 5)=false:=beq_eq_false_iff_ne.2 (by omega);have I:(x / 8 % 8== 6)=false:=beq_eq_false_iff_ne.2 (by omega);have J:(x / 8 % 8== 7)=false:=beq_eq_false_iff_ne.2 (by omega);have t:=Ab ek;clear ek;have s:=Ab (show DI (1) x=some (26,1,some (1)) by unfold DI;simp[Aa t]);go_wp2_with fail
    refine (BE (Aa F) C (by rw[Aa o];omega) (26) (1) (1) (by omega) (by omega)).mono ?_;rw[Aa o];rintro r f ⟨g,b,i,rfl,j,b1,b2,k,l⟩;have m:=Ab (show Ev B R u a n c zs true N (3 * v+1) (Dj zs L true (d+1) 1 p N) L nd lt w (.returned (.int .i64 (Ay b))) f from ⟨g,b,i,rfl,Ab (Aa A _ _ (BH (Aa H) (by have:=Aa z;omega) (Aa s) (Aa j))),by omega,by omega,k,E.trans l⟩);dsimp only;go_wp2_with fail
    go_ret
    exact Aa m
   ·skip;have K:(x / 8 % 8== 0)=false:=beq_eq_false_iff_ne.2 (by omega);have O:(x / 8 % 8== 1)=false:=beq_eq_false_iff_ne.2 (by omega);have P:(x / 8 % 8== 2)=false:=beq_eq_false_iff_ne.2 (by omega);have Q:(x / 8 % 8== 3)=true:=beq_iff_eq.2 (by omega);have S:(x / 8 % 8== 4)=false:=beq_eq_false_iff_ne.2 (by omega);have k5:(x / 8 % 8== 5)=false:=beq_eq_false_iff_ne.2 (by omega);have I:(x / 8 % 8== 6)=false:=beq_eq_false_iff_ne.2 (by omega);have J:(x / 8 % 8== 7)=false:=beq_eq_false_iff_ne.2 (by omega);have t:=Ab ek;clear ek;have s:=Ab (show DI (1) x=some (9,1,none) by unfold DI;simp[Aa t]);go_wp2_with fail
    refine (Aa F (1) Z N nd _ (by omega) (by rw[Aa o];omega) C).mono ?_;rw[Aa o];rintro r ad ⟨q5,T,Gi,rfl,U,a1,a2,V,W⟩;have X:=E.trans W;dsimp only;go_wp2_with fail
    refine (DQ V (by omega) [Ay T] _ 1 rfl rfl (by omega) (9)).mono ?_;rintro r f ⟨g,b,i,rfl,j,b1,b2,k,l⟩;have m:=Ab (show Ev B R u a n c zs true N (3 * v+1) (Dj zs L true (d+1) 1 p N) L nd lt w (.returned (.int .i64 (Ay b))) f from ⟨g,b,i,rfl,Ab (Aa A _ _ (GY (Aa H) (by have:=Aa z;omega) (Aa s) (Aa U) (Aa j))),by omega,by omega,k,X.trans l⟩);dsimp only;go_wp2_with fail
    go_ret
    exact Aa m
   ·skip;have K:(x / 8 % 8== 0)=false:=beq_eq_false_iff_ne.2 (by omega);have O:(x / 8 % 8== 1)=false:=beq_eq_false_iff_ne.2 (by omega);have P:(x / 8 % 8== 2)=false:=beq_eq_false_iff_ne.2 (by omega);have Q:(x / 8 % 8== 3)=false:=beq_eq_false_iff_ne.2 (by omega);have S:(x / 8 % 8== 4)=true:=beq_iff_eq.2 (by omega);have k5:(x / 8 % 8== 5)=false:=beq_eq_false_iff_ne.2 (by omega);have I:(x / 8 % 8== 6)=false:=beq_eq_false_iff_ne.2 (by omega);have J:(x / 8 % 8== 7)=false:=beq_eq_false_iff_ne.2 (by omega);have t:=Ab ek;clear ek;have s:=Ab (show DI (1) x=some (23,3,some (4)) by unfold DI;simp[Aa t]);go_wp2_with fail
    refine (BE (Aa F) C (by rw[Aa o];omega) (23) (3) (4) (by omega) (by omega)).mono ?_;rw[Aa o];rintro r f ⟨g,b,i,rfl,j,b1,b2,k,l⟩;have m:=Ab (show Ev B R u a n c zs true N (3 * v+1) (Dj zs L true (d+1) 1 p N) L nd lt w (.returned (.int .i64 (Ay b))) f from ⟨g,b,i,rfl,Ab (Aa A _ _ (BH (Aa H) (by have:=Aa z;omega) (Aa s) (Aa j))),by omega,by omega,k,E.trans l⟩);dsimp only;go_wp2_with fail
    go_ret
    exact Aa m
   ·skip;have K:(x / 8 % 8== 0)=false:=beq_eq_false_iff_ne.2 (by omega);have O:(x / 8 % 8== 1)=false:=beq_eq_false_iff_ne.2 (by omega);have P:(x / 8 % 8== 2)=false:=beq_eq_false_iff_ne.2 (by omega);have Q:(x / 8 % 8== 3)=false:=beq_eq_false_iff_ne.2 (by omega);have S:(x / 8 % 8== 4)=false:=beq_eq_false_iff_ne.2 (by omega);have k5:(x / 8 % 8== 5)=true:=beq_iff_eq.2 (by omega);have I:(x / 8 % 8== 6)=false:=beq_eq_false_iff_ne.2 (by omega);have J:(x / 8 % 8== 7)=false:=beq_eq_false_iff_ne.2 (by omega);have t:=Ab ek;clear ek;have s:=Ab (show DI (1) x=some (24,4,some (4)) by unfold DI;simp[Aa t]);go_wp2_with fail
    refine (BE (Aa F) C (by rw[Aa o];omega) (24) (4) (4) (by omega) (by omega)).mono ?_;rw[Aa o];rintro r f ⟨g,b,i,rfl,j,b1,b2,k,l⟩;have m:=Ab (show Ev B R u a n c zs true N (3 * v+1) (Dj zs L true (d+1) 1 p N) L nd lt w (.returned (.int .i64 (Ay b))) f from ⟨g,b,i,rfl,Ab (Aa A _ _ (BH (Aa H) (by have:=Aa z;omega) (Aa s) (Aa j))),by omega,by omega,k,E.trans l⟩);dsimp only;go_wp2_with fail
    go_ret
    exact Aa m
   ·skip;have K:(x / 8 % 8== 0)=false:=beq_eq_false_iff_ne.2 (by omega);have O:(x / 8 % 8== 1)=false:=beq_eq_false_iff_ne.2 (by omega);have P:(x / 8 % 8== 2)=false:=beq_eq_false_iff_ne.2 (by omega);have Q:(x / 8 % 8== 3)=false:=beq_eq_false_iff_ne.2 (by omega);have S:(x / 8 % 8== 4)=false:=beq_eq_false_iff_ne.2 (by omega);have k5:(x / 8 % 8== 5)=false:=beq_eq_false_iff_ne.2 (by omega);have I:(x / 8 % 8== 6)=true:=beq_iff_eq.2 (by omega);have J:(x / 8 % 8== 7)=false:=beq_eq_false_iff_ne.2 (by omega);have t:=Ab ek;clear ek;have s:=Ab (show DI (1) x=some (21+x / 8 / 8 % 2,2,some (2)) by unfold DI;simp[Aa t]);go_wp2_with fail
    refine (BE (Aa F) C (by rw[Aa o];omega) (21+x / 8 / 8 % 2) (2) (2) (by omega) (by omega)).mono ?_;rw[Aa o];rintro r f ⟨g,b,i,rfl,j,b1,b2,k,l⟩;have m:=Ab (show Ev B R u a n c zs true N (3 * v+1) (Dj zs L true (d+1) 1 p N) L nd lt w (.returned (.int .i64 (Ay b))) f from ⟨g,b,i,rfl,Ab (Aa A _ _ (BH (Aa H) (by have:=Aa z;omega) (Aa s) (Aa j))),by omega,by omega,k,E.trans l⟩);dsimp only;go_wp2_with fail
    go_ret
    exact Aa m
   ·skip;have K:(x / 8 % 8== 0)=false:=beq_eq_false_iff_ne.2 (by omega);have O:(x / 8 % 8== 1)=false:=beq_eq_false_iff_ne.2 (by omega);have P:(x / 8 % 8== 2)=false:=beq_eq_false_iff_ne.2 (by omega);have Q:(x / 8 % 8== 3)=false:=beq_eq_false_iff_ne.2 (by omega);have S:(x / 8 % 8== 4)=false:=beq_eq_false_iff_ne.2 (by omega);have k5:(x / 8 % 8== 5)=false:=beq_eq_false_iff_ne.2 (by omega);have I:(x / 8 % 8== 6)=false:=beq_eq_false_iff_ne.2 (by omega);have J:(x / 8 % 8== 7)=true:=beq_iff_eq.2 (by omega);have t:=Ab ek;clear ek;have s:=Ab (show DI (1) x=some (19+x % 2,1+x / 8 / 8,some (1+x / 8 / 8)) by unfold DI;simp[Aa t]);go_wp2_with fail
    refine (BE (Aa F) C (by rw[Aa o];omega) (19+x % 2) (1+x / 8 / 8) (1+x / 8 / 8) (by omega) (by omega)).mono ?_;rw[Aa o];rintro r f ⟨g,b,i,rfl,j,b1,b2,k,l⟩;have m:=Ab (show Ev B R u a n c zs true N (3 * v+1) (Dj zs L true (d+1) 1 p N) L nd lt w (.returned (.int .i64 (Ay b))) f from ⟨g,b,i,rfl,Ab (Aa A _ _ (BH (Aa H) (by have:=Aa z;omega) (Aa s) (Aa j))),by omega,by omega,k,E.trans l⟩);dsimp only;go_wp2_with fail
    go_ret
    exact Aa m
  ·rcases (show x / 8 % 8=6∨x / 8 % 8=7∨x / 8 % 8 < 6 by omega) with ek | ek | ek
   ·skip;have K:(x / 8 % 8== 0)=false:=beq_eq_false_iff_ne.2 (by omega);have O:(x / 8 % 8== 1)=false:=beq_eq_false_iff_ne.2 (by omega);have P:(x / 8 % 8== 2)=false:=beq_eq_false_iff_ne.2 (by omega);have Q:(x / 8 % 8== 3)=false:=beq_eq_false_iff_ne.2 (by omega);have S:(x / 8 % 8== 4)=false:=beq_eq_false_iff_ne.2 (by omega);have k5:(x / 8 % 8== 5)=false:=beq_eq_false_iff_ne.2 (by omega);have I:(x / 8 % 8== 6)=true:=beq_iff_eq.2 (by omega);have J:(x / 8 % 8== 7)=false:=beq_eq_false_iff_ne.2 (by omega);have t:=Ab ek;clear ek;have s:=Ab (show DI (2) x=some (10,4,none) by unfold DI;simp[Aa t]);go_wp2_with fail
    refine (Aa F (4) Z N nd _ (by omega) (by rw[Aa o];omega) C).mono ?_;rw[Aa o];rintro r ad ⟨q5,T,Gi,rfl,U,a1,a2,V,W⟩;have X:=E.trans W;dsimp only;go_wp2_with fail
    refine (DQ V (by omega) [Ay T] _ 1 rfl rfl (by omega) (10)).mono ?_;rintro r f ⟨g,b,i,rfl,j,b1,b2,k,l⟩;have m:=Ab (show Ev B R u a n c zs true N (3 * v+1) (Dj zs L true (d+1) 2 p N) L nd lt w (.returned (.int .i64 (Ay b))) f from ⟨g,b,i,rfl,Ab (Aa A _ _ (GY (Aa H) (by have:=Aa z;omega) (Aa s) (Aa U) (Aa j))),by omega,by omega,k,X.trans l⟩);dsimp only;go_wp2_with fail
    go_ret
    exact Aa m
   ·skip;have K:(x / 8 % 8== 0)=false:=beq_eq_false_iff_ne.2 (by omega);have O:(x / 8 % 8== 1)=false:=beq_eq_false_iff_ne.2 (by omega);have P:(x / 8 % 8== 2)=false:=beq_eq_false_iff_ne.2 (by omega);have Q:(x / 8 % 8== 3)=false:=beq_eq_false_iff_ne.2 (by omega);have S:(x / 8 % 8== 4)=false:=beq_eq_false_iff_ne.2 (by omega);have k5:(x / 8 % 8== 5)=false:=beq_eq_false_iff_ne.2 (by omega);have I:(x / 8 % 8== 6)=false:=beq_eq_false_iff_ne.2 (by omega);have J:(x / 8 % 8== 7)=true:=beq_iff_eq.2 (by omega);have t:=Ab ek;clear ek;have s:=Ab (show DI (2) x=some (8,2,none) by unfold DI;simp[Aa t]);go_wp2_with fail
    refine (Aa F (2) Z N nd _ (by omega) (by rw[Aa o];omega) C).mono ?_;rw[Aa o];rintro r ad ⟨q5,T,Gi,rfl,U,a1,a2,V,W⟩;have X:=E.trans W;dsimp only;go_wp2_with fail
    refine (DQ V (by omega) [Ay T] _ 1 rfl rfl (by omega) (8)).mono ?_;rintro r f ⟨g,b,i,rfl,j,b1,b2,k,l⟩;have m:=Ab (show Ev B R u a n c zs true N (3 * v+1) (Dj zs L true (d+1) 2 p N) L nd lt w (.returned (.int .i64 (Ay b))) f from ⟨g,b,i,rfl,Ab (Aa A _ _ (GY (Aa H) (by have:=Aa z;omega) (Aa s) (Aa U) (Aa j))),by omega,by omega,k,X.trans l⟩);dsimp only;go_wp2_with fail
    go_ret
    exact Aa m
   ·have I:(x / 8 % 8== 6)=false:=beq_eq_false_iff_ne.2 (by omega);have J:(x / 8 % 8== 7)=false:=beq_eq_false_iff_ne.2 (by omega);have t:=Ab (show ¬ x / 8 % 8=6∧¬ x / 8 % 8=7 by omega);clear ek;have s:=Ab (show DI (2) x=some (11+x / 8 % 5,2,some (2)) by unfold DI;simp[Aa t]);go_wp2_with fail
    refine (BE (Aa F) C (by rw[Aa o];omega) (11+x / 8 % 5) (2) (2) (by omega) (by omega)).mono ?_;rw[Aa o];rintro r f ⟨g,b,i,rfl,j,b1,b2,k,l⟩;have m:=Ab (show Ev B R u a n c zs true N (3 * v+1) (Dj zs L true (d+1) 2 p N) L nd lt w (.returned (.int .i64 (Ay b))) f from ⟨g,b,i,rfl,Ab (Aa A _ _ (BH (Aa H) (by have:=Aa z;omega) (Aa s) (Aa j))),by omega,by omega,k,E.trans l⟩);dsimp only;go_wp2_with fail
    go_ret
    exact Aa m
  ·skip;go_wp2_with fail
   refine (CT C (by omega) aa 3 (by omega)).mono ?_;rintro r f ⟨g,b,i,rfl,j,b1,b2,k,l⟩;have m:=Ab (show Ev B R u a n c zs true N (3 * v+1) (Dj zs L true (d+1) 3 p N) L nd lt w (.returned (.int .i64 (Ay b))) f from ⟨g,b,i,rfl,Ab (Aa A _ _ (QI (Aa H) (by have:=Aa z;omega) (by unfold DI;simp) (Aa j))),by omega,by omega,k,E.trans l⟩);dsimp only;go_wp2_with fail
   go_ret
   exact Aa m
  ·skip;have s:=Ab (show DI (4) x=some (16+x / 8 % 3,4,some (4)) by unfold DI;simp);go_wp2_with fail
   refine (BE (Aa F) C (by rw[Aa o];omega) (16+x / 8 % 3) (4) (4) (by omega) (by omega)).mono ?_;rw[Aa o];rintro r f ⟨g,b,i,rfl,j,b1,b2,k,l⟩;have m:=Ab (show Ev B R u a n c zs true N (3 * v+1) (Dj zs L true (d+1) 4 p N) L nd lt w (.returned (.int .i64 (Ay b))) f from ⟨g,b,i,rfl,Ab (Aa A _ _ (BH (Aa H) (by have:=Aa z;omega) (Aa s) (Aa j))),by omega,by omega,k,E.trans l⟩);dsimp only;go_wp2_with fail
   go_ret
   exact Aa m
theorem FG {B R f:Nat}{a:Option Addr}{n c:Nat}{zs:List Int}{wild:Bool}{L:List (ByteArray × Int)}{lt:Value}(b:L.length≤100):∀ d,d≤10→ExD B R f a n c zs wild L lt d
 | 0,_=>VC b
 | d+1,hd=>fun ty p N nd w g hm h=>by
  have:=Te b (by omega) (FG b d (by omega)) ty p N nd w g hm h;rw[Int.natCast_add];exact this
end Go.Proofs.YtoplnhndilmlcaaGreatDoor

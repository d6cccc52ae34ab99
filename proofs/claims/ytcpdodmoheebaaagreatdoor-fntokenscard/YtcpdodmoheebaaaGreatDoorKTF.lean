/-
  Drawn policies: trees (written by mkktf.py). Own work.
-/
import Derived.Test.YtcpdodmoheebaaaGreatDoorKTE
namespace Go.Proofs.YtcpdodmoheebaaaGreatDoor
set_option maxRecDepth 100000
set_option maxHeartbeats 12800000
open Go.RowKit
set_option linter.unusedVariables false
theorem JN {B d f:Nat}{a:Option Addr}{n c:Nat}{L:List (ByteArray × Int)}{lt:Value}(g:L.length≤100):Mn B d f a n c L lt 0:=by
 intro ty m nd w i hm h
 have j:m+1≤1000000:=hm
 go_enter Tryz.func31,Tryz.ntmps31
 go_wp2_with fail
 refine (Bp h j g ty i).mono ?_
 intro r l b
 have k:=Ab b
 obtain ⟨⟨o,rfl⟩,-⟩:=b
 dsimp only
 go_wp2_with fail
 go_ret
 exact Aa k
theorem JO {B p q:Nat}{a:Option Addr}{n c d:Nat}{L:List (ByteArray × Int)}{lt:Value}(O:L.length≤100)(aJ:d≤10)(ak:Mn B p q a n c L lt d)(ty:Int)(m:Nat)(nd:Value)(w:World)(al:ty=1∨ty=2∨ty=3∨ty=4)(ao:m+Ld (d+1)≤1000000)(h:Db B p q a n c m L nd lt w):
  Calls Tryz.prog 31 #[.pointer (some ⟨q,0,none⟩),.int .i64 ty,.int .i64 ((d:Int)+1)] w (BY B p q a n c m (Ld (d+1)) L nd lt w):=by
 have v:=Ab ak
 unfold Mn at v
 rw [Ld] at ao ⊢
 obtain ⟨s,W⟩:∃ s,s=Ld d:=⟨_,rfl⟩
 rw [← W] at ao ⊢
 have o:=Ab W.symm
 clear ak W
 obtain ⟨au,av,aw,ax,ay,R,X,S,c1,c2,c3⟩:=h.cells
 have aK: ¬ ((d:Int)+1≤0):=by omega
 go_enter Tryz.func31,Tryz.ntmps31
 go_wp2_with fail
 refine (GV p a n c w h.lt.2.2).mono ?_
 rintro r ap ⟨y,rfl,aL,aM,Y⟩
 have P:=h.below Y
 have T:Gk B p q lt nd w nd ap:=Gk.of_below Y h.lt.1.1
 clear S c1 c2 c3 R X
 obtain ⟨au,av,aw,ax,ay,R,X,S,c1,c2,c3⟩:=P.cells
 rw [R] at c1
 clear h Y R X
 dsimp only
 by_cases hy:y=0
 ·have az:(y== 0)=true:=beq_iff_eq.2 hy
  clear hy
  go_wp2_with fail
  refine (Bp P (by omega) O ty (by omega)).mono ?_
  rintro r f ⟨⟨b,rfl⟩,g,i,b1,b2,j,k⟩
  have l:=Ab (show BY B p q a n c m (3 * s+1) L nd lt w (.returned (.int .i64 b)) f from ⟨⟨b,rfl⟩,g,i,by omega,by omega,j,T.trans k⟩)
  dsimp only
  go_wp2_with fail
  go_ret
  exact Aa l
 have az:(y== 0)=false:=beq_eq_false_iff_ne.2 hy
 clear hy
 by_cases aN: 300 < m
 ·have aA:(300 :Int) < (m:Int):=by omega
  go_wp2_with fail
  refine (Bp P (by omega) O ty (by omega)).mono ?_
  rintro r f ⟨⟨b,rfl⟩,g,i,b1,b2,j,k⟩
  have l:=Ab (show BY B p q a n c m (3 * s+1) L nd lt w (.returned (.int .i64 b)) f from ⟨⟨b,rfl⟩,g,i,by omega,by omega,j,T.trans k⟩)
  dsimp only
  go_wp2_with fail
  go_ret
  exact Aa l
 have aA: ¬ ((300 :Int) < (m:Int)):=by omega
 go_wp2_with fail
 refine (AK p a n c ap P.lt.2.2).mono ?_
 rintro r aO ⟨x,rfl,aP,aQ,aq,Z⟩
 have t:=P.touch Z aq
 have u:=T.trans (Gk.of_touch (nd:=nd) Z P.lt.2.1.2 P.lt.1.2.2)
 clear P T Z aq S c1 c2 c3
 obtain ⟨aR,aS,aT,aU,ar,aB,aC,S,c1,c2,c3⟩:=t.cells
 clear aB aC
 dsimp only
 by_cases U:x=201
 ·have aD:(x== 201)=true:=beq_iff_eq.2 U
  have V:(x % 8== 7)=false:=beq_eq_false_iff_ne.2 (by omega)
  have e2:x % 8 < 2:=by omega
  clear U
  cases ar
  ·skip
   go_wp2_with fail
   refine (Bp t (by omega) O ty (by omega)).mono ?_
   rintro r f ⟨⟨b,rfl⟩,g,i,b1,b2,j,k⟩
   have l:=Ab (show BY B p q a n c m (3 * s+1) L nd lt w (.returned (.int .i64 b)) f from ⟨⟨b,rfl⟩,g,i,by omega,by omega,j,u.trans k⟩)
   dsimp only
   go_wp2_with fail
   go_ret
   exact Aa l
  ·skip
   go_wp2_with fail
   refine (Bp t (by omega) O (1+ty % 4) (by omega)).mono ?_
   rintro r f ⟨⟨b,rfl⟩,g,i,b1,b2,j,k⟩
   have l:=Ab (show BY B p q a n c m (3 * s+1) L nd lt w (.returned (.int .i64 b)) f from ⟨⟨b,rfl⟩,g,i,by omega,by omega,j,u.trans k⟩)
   dsimp only
   go_wp2_with fail
   go_ret
   exact Aa l
 have aD:(x== 201)=false:=beq_eq_false_iff_ne.2 U
 clear U
 cases ar
 ·skip
  by_cases M:x % 8=7
  ·have V:(x % 8== 7)=true:=beq_iff_eq.2 M
   clear M
   go_wp2_with fail
   refine (Aa v 1 m nd _ (by omega) (by rw [Aa o];omega) t).mono ?_
   rw [Aa o]
   rintro r Q ⟨⟨H,rfl⟩,N,FQ,a1,a2,I,J⟩
   have K:=u.trans J
   dsimp only
   go_wp2_with fail
   refine (Aa v ty N FQ _ (by omega) (by rw [Aa o];omega) I).mono ?_
   rw [Aa o]
   rintro r aE ⟨⟨aa,rfl⟩,ab,ac,a3,a4,ad,ae⟩
   have af:=K.trans ae
   dsimp only
   go_wp2_with fail
   refine (Aa v ty ab ac _ (by omega) (by rw [Aa o];omega) ad).mono ?_
   rw [Aa o]
   rintro r aF ⟨⟨ag,rfl⟩,aG,aH,a5,aI,ah,ai⟩
   have aj:=af.trans ai
   dsimp only
   go_wp2_with fail
   refine (BN ah (by omega) [H,aa,ag] _ 3 rfl rfl (by omega) 27).mono ?_
   rintro r f ⟨⟨b,rfl⟩,g,i,b1,b2,j,k⟩
   have l:=Ab (show BY B p q a n c m (3 * s+1) L nd lt w (.returned (.int .i64 b)) f from ⟨⟨b,rfl⟩,g,i,by omega,by omega,j,aj.trans k⟩)
   dsimp only
   go_wp2_with fail
   go_ret
   exact Aa l
  have V:(x % 8== 7)=false:=beq_eq_false_iff_ne.2 M
  clear M
  by_cases e2:x % 8 < 2
  ·skip
   go_wp2_with fail
   refine (Bp t (by omega) O ty (by omega)).mono ?_
   rintro r f ⟨⟨b,rfl⟩,g,i,b1,b2,j,k⟩
   have l:=Ab (show BY B p q a n c m (3 * s+1) L nd lt w (.returned (.int .i64 b)) f from ⟨⟨b,rfl⟩,g,i,by omega,by omega,j,u.trans k⟩)
   dsimp only
   go_wp2_with fail
   go_ret
   exact Aa l
  rcases al with rfl | rfl | rfl | rfl
  ·rcases (show x / 8 % 8=0∨x / 8 % 8=1∨x / 8 % 8=2∨x / 8 % 8=3∨x / 8 % 8=4∨x / 8 % 8=5∨x / 8 % 8=6∨x / 8 % 8=7 by omega) with ek | ek | ek | ek | ek | ek | ek | ek
   ·skip
    have C:(x / 8 % 8== 0)=true:=beq_iff_eq.2 (by omega)
    have D:(x / 8 % 8== 1)=false:=beq_eq_false_iff_ne.2 (by omega)
    have E:(x / 8 % 8== 2)=false:=beq_eq_false_iff_ne.2 (by omega)
    have F:(x / 8 % 8== 3)=false:=beq_eq_false_iff_ne.2 (by omega)
    have G:(x / 8 % 8== 4)=false:=beq_eq_false_iff_ne.2 (by omega)
    have k5:(x / 8 % 8== 5)=false:=beq_eq_false_iff_ne.2 (by omega)
    have z:(x / 8 % 8== 6)=false:=beq_eq_false_iff_ne.2 (by omega)
    have A:(x / 8 % 8== 7)=false:=beq_eq_false_iff_ne.2 (by omega)
    clear ek
    go_wp2_with fail
    refine (AS (Aa v) t (by rw [Aa o];omega) (25+x / 8 / 8 % 2) (1) (1) (by omega) (by omega)).mono ?_
    rw [Aa o]
    rintro r f ⟨⟨b,rfl⟩,g,i,b1,b2,j,k⟩
    have l:=Ab (show BY B p q a n c m (3 * s+1) L nd lt w (.returned (.int .i64 b)) f from ⟨⟨b,rfl⟩,g,i,by omega,by omega,j,u.trans k⟩)
    dsimp only
    go_wp2_with fail
    go_ret
    exact Aa l
   ·skip
    have C:(x / 8 % 8== 0)=false:=beq_eq_false_iff_ne.2 (by omega)
    have D:(x / 8 % 8== 1)=true:=beq_iff_eq.2 (by omega)
    have E:(x / 8 % 8== 2)=false:=beq_eq_false_iff_ne.2 (by omega)
    have F:(x / 8 % 8== 3)=false:=beq_eq_false_iff_ne.2 (by omega)
    have G:(x / 8 % 8== 4)=false:=beq_eq_false_iff_ne.2 (by omega)
    have k5:(x / 8 % 8== 5)=false:=beq_eq_false_iff_ne.2 (by omega)
    have z:(x / 8 % 8== 6)=false:=beq_eq_false_iff_ne.2 (by omega)
    have A:(x / 8 % 8== 7)=false:=beq_eq_false_iff_ne.2 (by omega)
    clear ek
    go_wp2_with fail
    refine (AS (Aa v) t (by rw [Aa o];omega) (25+x / 8 / 8 % 2) (1) (1) (by omega) (by omega)).mono ?_
    rw [Aa o]
    rintro r f ⟨⟨b,rfl⟩,g,i,b1,b2,j,k⟩
    have l:=Ab (show BY B p q a n c m (3 * s+1) L nd lt w (.returned (.int .i64 b)) f from ⟨⟨b,rfl⟩,g,i,by omega,by omega,j,u.trans k⟩)
    dsimp only
    go_wp2_with fail
    go_ret
    exact Aa l
   ·skip
    have C:(x / 8 % 8== 0)=false:=beq_eq_false_iff_ne.2 (by omega)
    have D:(x / 8 % 8== 1)=false:=beq_eq_false_iff_ne.2 (by omega)
    have E:(x / 8 % 8== 2)=true:=beq_iff_eq.2 (by omega)
    have F:(x / 8 % 8== 3)=false:=beq_eq_false_iff_ne.2 (by omega)
    have G:(x / 8 % 8== 4)=false:=beq_eq_false_iff_ne.2 (by omega)
    have k5:(x / 8 % 8== 5)=false:=beq_eq_false_iff_ne.2 (by omega)
    have z:(x / 8 % 8== 6)=false:=beq_eq_false_iff_ne.2 (by omega)
    have A:(x / 8 % 8== 7)=false:=beq_eq_false_iff_ne.2 (by omega)
    clear ek
    go_wp2_with fail
    refine (AS (Aa v) t (by rw [Aa o];omega) (26) (1) (1) (by omega) (by omega)).mono ?_
    rw [Aa o]
    rintro r f ⟨⟨b,rfl⟩,g,i,b1,b2,j,k⟩
    have l:=Ab (show BY B p q a n c m (3 * s+1) L nd lt w (.returned (.int .i64 b)) f from ⟨⟨b,rfl⟩,g,i,by omega,by omega,j,u.trans k⟩)
    dsimp only
    go_wp2_with fail
    go_ret
    exact Aa l
   ·skip
    have C:(x / 8 % 8== 0)=false:=beq_eq_false_iff_ne.2 (by omega)
    have D:(x / 8 % 8== 1)=false:=beq_eq_false_iff_ne.2 (by omega)
    have E:(x / 8 % 8== 2)=false:=beq_eq_false_iff_ne.2 (by omega)
    have F:(x / 8 % 8== 3)=true:=beq_iff_eq.2 (by omega)
    have G:(x / 8 % 8== 4)=false:=beq_eq_false_iff_ne.2 (by omega)
    have k5:(x / 8 % 8== 5)=false:=beq_eq_false_iff_ne.2 (by omega)
    have z:(x / 8 % 8== 6)=false:=beq_eq_false_iff_ne.2 (by omega)
    have A:(x / 8 % 8== 7)=false:=beq_eq_false_iff_ne.2 (by omega)
    clear ek
    go_wp2_with fail
    refine (Aa v (1) m nd _ (by omega) (by rw [Aa o];omega) t).mono ?_
    rw [Aa o]
    rintro r Q ⟨⟨H,rfl⟩,N,FQ,a1,a2,I,J⟩
    have K:=u.trans J
    dsimp only
    go_wp2_with fail
    refine (BN I (by omega) [H] _ 1 rfl rfl (by omega) (9)).mono ?_
    rintro r f ⟨⟨b,rfl⟩,g,i,b1,b2,j,k⟩
    have l:=Ab (show BY B p q a n c m (3 * s+1) L nd lt w (.returned (.int .i64 b)) f from ⟨⟨b,rfl⟩,g,i,by omega,by omega,j,K.trans k⟩)
    dsimp only
    go_wp2_with fail
    go_ret
    exact Aa l
   ·skip
    have C:(x / 8 % 8== 0)=false:=beq_eq_false_iff_ne.2 (by omega)
    have D:(x / 8 % 8== 1)=false:=beq_eq_false_iff_ne.2 (by omega)
    have E:(x / 8 % 8== 2)=false:=beq_eq_false_iff_ne.2 (by omega)
    have F:(x / 8 % 8== 3)=false:=beq_eq_false_iff_ne.2 (by omega)
    have G:(x / 8 % 8== 4)=true:=beq_iff_eq.2 (by omega)
    have k5:(x / 8 % 8== 5)=false:=beq_eq_false_iff_ne.2 (by omega)
    have z:(x / 8 % 8== 6)=false:=beq_eq_false_iff_ne.2 (by omega)
    have A:(x / 8 % 8== 7)=false:=beq_eq_false_iff_ne.2 (by omega)
    clear ek
    go_wp2_with fail
    refine (AS (Aa v) t (by rw [Aa o];omega) (23) (3) (4) (by omega) (by omega)).mono ?_
    rw [Aa o]
    rintro r f ⟨⟨b,rfl⟩,g,i,b1,b2,j,k⟩
    have l:=Ab (show BY B p q a n c m (3 * s+1) L nd lt w (.returned (.int .i64 b)) f from ⟨⟨b,rfl⟩,g,i,by omega,by omega,j,u.trans k⟩)
    dsimp only
    go_wp2_with fail
    go_ret
    exact Aa l
   ·skip
    have C:(x / 8 % 8== 0)=false:=beq_eq_false_iff_ne.2 (by omega)
    have D:(x / 8 % 8== 1)=false:=beq_eq_false_iff_ne.2 (by omega)
    have E:(x / 8 % 8== 2)=false:=beq_eq_false_iff_ne.2 (by omega)
    have F:(x / 8 % 8== 3)=false:=beq_eq_false_iff_ne.2 (by omega)
    have G:(x / 8 % 8== 4)=false:=beq_eq_false_iff_ne.2 (by omega)
    have k5:(x / 8 % 8== 5)=true:=beq_iff_eq.2 (by omega)
    have z:(x / 8 % 8== 6)=false:=beq_eq_false_iff_ne.2 (by omega)
    have A:(x / 8 % 8== 7)=false:=beq_eq_false_iff_ne.2 (by omega)
    clear ek
    go_wp2_with fail
    refine (AS (Aa v) t (by rw [Aa o];omega) (24) (4) (4) (by omega) (by omega)).mono ?_
    rw [Aa o]
    rintro r f ⟨⟨b,rfl⟩,g,i,b1,b2,j,k⟩
    have l:=Ab (show BY B p q a n c m (3 * s+1) L nd lt w (.returned (.int .i64 b)) f from ⟨⟨b,rfl⟩,g,i,by omega,by omega,j,u.trans k⟩)
    dsimp only
    go_wp2_with fail
    go_ret
    exact Aa l
   ·skip
    have C:(x / 8 % 8== 0)=false:=beq_eq_false_iff_ne.2 (by omega)
    have D:(x / 8 % 8== 1)=false:=beq_eq_false_iff_ne.2 (by omega)
    have E:(x / 8 % 8== 2)=false:=beq_eq_false_iff_ne.2 (by omega)
    have F:(x / 8 % 8== 3)=false:=beq_eq_false_iff_ne.2 (by omega)
    have G:(x / 8 % 8== 4)=false:=beq_eq_false_iff_ne.2 (by omega)
    have k5:(x / 8 % 8== 5)=false:=beq_eq_false_iff_ne.2 (by omega)
    have z:(x / 8 % 8== 6)=true:=beq_iff_eq.2 (by omega)
    have A:(x / 8 % 8== 7)=false:=beq_eq_false_iff_ne.2 (by omega)
    clear ek
    go_wp2_with fail
    refine (AS (Aa v) t (by rw [Aa o];omega) (21+x / 8 / 8 % 2) (2) (2) (by omega) (by omega)).mono ?_
    rw [Aa o]
    rintro r f ⟨⟨b,rfl⟩,g,i,b1,b2,j,k⟩
    have l:=Ab (show BY B p q a n c m (3 * s+1) L nd lt w (.returned (.int .i64 b)) f from ⟨⟨b,rfl⟩,g,i,by omega,by omega,j,u.trans k⟩)
    dsimp only
    go_wp2_with fail
    go_ret
    exact Aa l
   ·skip
    have C:(x / 8 % 8== 0)=false:=beq_eq_false_iff_ne.2 (by omega)
    have D:(x / 8 % 8== 1)=false:=beq_eq_false_iff_ne.2 (by omega)
    have E:(x / 8 % 8== 2)=false:=beq_eq_false_iff_ne.2 (by omega)
    have F:(x / 8 % 8== 3)=false:=beq_eq_false_iff_ne.2 (by omega)
    have G:(x / 8 % 8== 4)=false:=beq_eq_false_iff_ne.2 (by omega)
    have k5:(x / 8 % 8== 5)=false:=beq_eq_false_iff_ne.2 (by omega)
    have z:(x / 8 % 8== 6)=false:=beq_eq_false_iff_ne.2 (by omega)
    have A:(x / 8 % 8== 7)=true:=beq_iff_eq.2 (by omega)
    clear ek
    go_wp2_with fail
    refine (AS (Aa v) t (by rw [Aa o];omega) (19+x % 2) (1+x / 8 / 8) (1+x / 8 / 8) (by omega) (by omega)).mono ?_
    rw [Aa o]
    rintro r f ⟨⟨b,rfl⟩,g,i,b1,b2,j,k⟩
    have l:=Ab (show BY B p q a n c m (3 * s+1) L nd lt w (.returned (.int .i64 b)) f from ⟨⟨b,rfl⟩,g,i,by omega,by omega,j,u.trans k⟩)
    dsimp only
    go_wp2_with fail
    go_ret
    exact Aa l
  ·rcases (show x / 8 % 8=6∨x / 8 % 8=7∨x / 8 % 8 < 6 by omega) with ek | ek | ek
   ·skip
    have C:(x / 8 % 8== 0)=false:=beq_eq_false_iff_ne.2 (by omega)
    have D:(x / 8 % 8== 1)=false:=beq_eq_false_iff_ne.2 (by omega)
    have E:(x / 8 % 8== 2)=false:=beq_eq_false_iff_ne.2 (by omega)
    have F:(x / 8 % 8== 3)=false:=beq_eq_false_iff_ne.2 (by omega)
    have G:(x / 8 % 8== 4)=false:=beq_eq_false_iff_ne.2 (by omega)
    have k5:(x / 8 % 8== 5)=false:=beq_eq_false_iff_ne.2 (by omega)
    have z:(x / 8 % 8== 6)=true:=beq_iff_eq.2 (by omega)
    have A:(x / 8 % 8== 7)=false:=beq_eq_false_iff_ne.2 (by omega)
    clear ek
    go_wp2_with fail
    refine (Aa v (4) m nd _ (by omega) (by rw [Aa o];omega) t).mono ?_
    rw [Aa o]
    rintro r Q ⟨⟨H,rfl⟩,N,FQ,a1,a2,I,J⟩
    have K:=u.trans J
    dsimp only
    go_wp2_with fail
    refine (BN I (by omega) [H] _ 1 rfl rfl (by omega) (10)).mono ?_
    rintro r f ⟨⟨b,rfl⟩,g,i,b1,b2,j,k⟩
    have l:=Ab (show BY B p q a n c m (3 * s+1) L nd lt w (.returned (.int .i64 b)) f from ⟨⟨b,rfl⟩,g,i,by omega,by omega,j,K.trans k⟩)
    dsimp only
    go_wp2_with fail
    go_ret
    exact Aa l
   ·skip
    have C:(x / 8 % 8== 0)=false:=beq_eq_false_iff_ne.2 (by omega)
    have D:(x / 8 % 8== 1)=false:=beq_eq_false_iff_ne.2 (by omega)
    have E:(x / 8 % 8== 2)=false:=beq_eq_false_iff_ne.2 (by omega)
    have F:(x / 8 % 8== 3)=false:=beq_eq_false_iff_ne.2 (by omega)
    have G:(x / 8 % 8== 4)=false:=beq_eq_false_iff_ne.2 (by omega)
    have k5:(x / 8 % 8== 5)=false:=beq_eq_false_iff_ne.2 (by omega)
    have z:(x / 8 % 8== 6)=false:=beq_eq_false_iff_ne.2 (by omega)
    have A:(x / 8 % 8== 7)=true:=beq_iff_eq.2 (by omega)
    clear ek
    go_wp2_with fail
    refine (Aa v (2) m nd _ (by omega) (by rw [Aa o];omega) t).mono ?_
    rw [Aa o]
    rintro r Q ⟨⟨H,rfl⟩,N,FQ,a1,a2,I,J⟩
    have K:=u.trans J
    dsimp only
    go_wp2_with fail
    refine (BN I (by omega) [H] _ 1 rfl rfl (by omega) (8)).mono ?_
    rintro r f ⟨⟨b,rfl⟩,g,i,b1,b2,j,k⟩
    have l:=Ab (show BY B p q a n c m (3 * s+1) L nd lt w (.returned (.int .i64 b)) f from ⟨⟨b,rfl⟩,g,i,by omega,by omega,j,K.trans k⟩)
    dsimp only
    go_wp2_with fail
    go_ret
    exact Aa l
   ·have z:(x / 8 % 8== 6)=false:=beq_eq_false_iff_ne.2 (by omega)
    have A:(x / 8 % 8== 7)=false:=beq_eq_false_iff_ne.2 (by omega)
    clear ek
    go_wp2_with fail
    refine (AS (Aa v) t (by rw [Aa o];omega) (11+x / 8 % 5) (2) (2) (by omega) (by omega)).mono ?_
    rw [Aa o]
    rintro r f ⟨⟨b,rfl⟩,g,i,b1,b2,j,k⟩
    have l:=Ab (show BY B p q a n c m (3 * s+1) L nd lt w (.returned (.int .i64 b)) f from ⟨⟨b,rfl⟩,g,i,by omega,by omega,j,u.trans k⟩)
    dsimp only
    go_wp2_with fail
    go_ret
    exact Aa l
  ·skip
   go_wp2_with fail
   refine (Bp t (by omega) O 3 (by omega)).mono ?_
   rintro r f ⟨⟨b,rfl⟩,g,i,b1,b2,j,k⟩
   have l:=Ab (show BY B p q a n c m (3 * s+1) L nd lt w (.returned (.int .i64 b)) f from ⟨⟨b,rfl⟩,g,i,by omega,by omega,j,u.trans k⟩)
   dsimp only
   go_wp2_with fail
   go_ret
   exact Aa l
  ·skip
   go_wp2_with fail
   refine (AS (Aa v) t (by rw [Aa o];omega) (16+x / 8 % 3) (4) (4) (by omega) (by omega)).mono ?_
   rw [Aa o]
   rintro r f ⟨⟨b,rfl⟩,g,i,b1,b2,j,k⟩
   have l:=Ab (show BY B p q a n c m (3 * s+1) L nd lt w (.returned (.int .i64 b)) f from ⟨⟨b,rfl⟩,g,i,by omega,by omega,j,u.trans k⟩)
   dsimp only
   go_wp2_with fail
   go_ret
   exact Aa l
 ·skip
  by_cases M:x % 8=7
  ·have V:(x % 8== 7)=true:=beq_iff_eq.2 M
   clear M
   go_wp2_with fail
   refine (Aa v 1 m nd _ (by omega) (by rw [Aa o];omega) t).mono ?_
   rw [Aa o]
   rintro r Q ⟨⟨H,rfl⟩,N,FQ,a1,a2,I,J⟩
   have K:=u.trans J
   dsimp only
   go_wp2_with fail
   refine (Aa v ty N FQ _ (by omega) (by rw [Aa o];omega) I).mono ?_
   rw [Aa o]
   rintro r aE ⟨⟨aa,rfl⟩,ab,ac,a3,a4,ad,ae⟩
   have af:=K.trans ae
   dsimp only
   go_wp2_with fail
   refine (Aa v ty ab ac _ (by omega) (by rw [Aa o];omega) ad).mono ?_
   rw [Aa o]
   rintro r aF ⟨⟨ag,rfl⟩,aG,aH,a5,aI,ah,ai⟩
   have aj:=af.trans ai
   dsimp only
   go_wp2_with fail
   refine (BN ah (by omega) [H,aa,ag] _ 3 rfl rfl (by omega) 27).mono ?_
   rintro r f ⟨⟨b,rfl⟩,g,i,b1,b2,j,k⟩
   have l:=Ab (show BY B p q a n c m (3 * s+1) L nd lt w (.returned (.int .i64 b)) f from ⟨⟨b,rfl⟩,g,i,by omega,by omega,j,aj.trans k⟩)
   dsimp only
   go_wp2_with fail
   go_ret
   exact Aa l
  have V:(x % 8== 7)=false:=beq_eq_false_iff_ne.2 M
  clear M
  by_cases e2:x % 8 < 2
  ·skip
   go_wp2_with fail
   refine (Bp t (by omega) O ty (by omega)).mono ?_
   rintro r f ⟨⟨b,rfl⟩,g,i,b1,b2,j,k⟩
   have l:=Ab (show BY B p q a n c m (3 * s+1) L nd lt w (.returned (.int .i64 b)) f from ⟨⟨b,rfl⟩,g,i,by omega,by omega,j,u.trans k⟩)
   dsimp only
   go_wp2_with fail
   go_ret
   exact Aa l
  rcases al with rfl | rfl | rfl | rfl
  ·rcases (show x / 8 % 8=0∨x / 8 % 8=1∨x / 8 % 8=2∨x / 8 % 8=3∨x / 8 % 8=4∨x / 8 % 8=5∨x / 8 % 8=6∨x / 8 % 8=7 by omega) with ek | ek | ek | ek | ek | ek | ek | ek
   ·skip
    have C:(x / 8 % 8== 0)=true:=beq_iff_eq.2 (by omega)
    have D:(x / 8 % 8== 1)=false:=beq_eq_false_iff_ne.2 (by omega)
    have E:(x / 8 % 8== 2)=false:=beq_eq_false_iff_ne.2 (by omega)
    have F:(x / 8 % 8== 3)=false:=beq_eq_false_iff_ne.2 (by omega)
    have G:(x / 8 % 8== 4)=false:=beq_eq_false_iff_ne.2 (by omega)
    have k5:(x / 8 % 8== 5)=false:=beq_eq_false_iff_ne.2 (by omega)
    have z:(x / 8 % 8== 6)=false:=beq_eq_false_iff_ne.2 (by omega)
    have A:(x / 8 % 8== 7)=false:=beq_eq_false_iff_ne.2 (by omega)
    clear ek
    go_wp2_with fail
    refine (AS (Aa v) t (by rw [Aa o];omega) (25+x / 8 / 8 % 2) (1) (1) (by omega) (by omega)).mono ?_
    rw [Aa o]
    rintro r f ⟨⟨b,rfl⟩,g,i,b1,b2,j,k⟩
    have l:=Ab (show BY B p q a n c m (3 * s+1) L nd lt w (.returned (.int .i64 b)) f from ⟨⟨b,rfl⟩,g,i,by omega,by omega,j,u.trans k⟩)
    dsimp only
    go_wp2_with fail
    go_ret
    exact Aa l
   ·skip
    have C:(x / 8 % 8== 0)=false:=beq_eq_false_iff_ne.2 (by omega)
    have D:(x / 8 % 8== 1)=true:=beq_iff_eq.2 (by omega)
    have E:(x / 8 % 8== 2)=false:=beq_eq_false_iff_ne.2 (by omega)
    have F:(x / 8 % 8== 3)=false:=beq_eq_false_iff_ne.2 (by omega)
    have G:(x / 8 % 8== 4)=false:=beq_eq_false_iff_ne.2 (by omega)
    have k5:(x / 8 % 8== 5)=false:=beq_eq_false_iff_ne.2 (by omega)
    have z:(x / 8 % 8== 6)=false:=beq_eq_false_iff_ne.2 (by omega)
    have A:(x / 8 % 8== 7)=false:=beq_eq_false_iff_ne.2 (by omega)
    clear ek
    go_wp2_with fail
    refine (AS (Aa v) t (by rw [Aa o];omega) (25+x / 8 / 8 % 2) (1) (1) (by omega) (by omega)).mono ?_
    rw [Aa o]
    rintro r f ⟨⟨b,rfl⟩,g,i,b1,b2,j,k⟩
    have l:=Ab (show BY B p q a n c m (3 * s+1) L nd lt w (.returned (.int .i64 b)) f from ⟨⟨b,rfl⟩,g,i,by omega,by omega,j,u.trans k⟩)
    dsimp only
    go_wp2_with fail
    go_ret
    exact Aa l
   ·skip
    have C:(x / 8 % 8== 0)=false:=beq_eq_false_iff_ne.2 (by omega)
    have D:(x / 8 % 8== 1)=false:=beq_eq_false_iff_ne.2 (by omega)
    have E:(x / 8 % 8== 2)=true:=beq_iff_eq.2 (by omega)
    have F:(x / 8 % 8== 3)=false:=beq_eq_false_iff_ne.2 (by omega)
    have G:(x / 8 % 8== 4)=false:=beq_eq_false_iff_ne.2 (by omega)
    have k5:(x / 8 % 8== 5)=false:=beq_eq_false_iff_ne.2 (by omega)
    have z:(x / 8 % 8== 6)=false:=beq_eq_false_iff_ne.2 (by omega)
    have A:(x / 8 % 8== 7)=false:=beq_eq_false_iff_ne.2 (by omega)
    clear ek
    go_wp2_with fail
    refine (AS (Aa v) t (by rw [Aa o];omega) (26) (1) (1) (by omega) (by omega)).mono ?_
    rw [Aa o]
    rintro r f ⟨⟨b,rfl⟩,g,i,b1,b2,j,k⟩
    have l:=Ab (show BY B p q a n c m (3 * s+1) L nd lt w (.returned (.int .i64 b)) f from ⟨⟨b,rfl⟩,g,i,by omega,by omega,j,u.trans k⟩)
    dsimp only
    go_wp2_with fail
    go_ret
    exact Aa l
   ·skip
    have C:(x / 8 % 8== 0)=false:=beq_eq_false_iff_ne.2 (by omega)
    have D:(x / 8 % 8== 1)=false:=beq_eq_false_iff_ne.2 (by omega)
    have E:(x / 8 % 8== 2)=false:=beq_eq_false_iff_ne.2 (by omega)
    have F:(x / 8 % 8== 3)=true:=beq_iff_eq.2 (by omega)
    have G:(x / 8 % 8== 4)=false:=beq_eq_false_iff_ne.2 (by omega)
    have k5:(x / 8 % 8== 5)=false:=beq_eq_false_iff_ne.2 (by omega)
    have z:(x / 8 % 8== 6)=false:=beq_eq_false_iff_ne.2 (by omega)
    have A:(x / 8 % 8== 7)=false:=beq_eq_false_iff_ne.2 (by omega)
    clear ek
    go_wp2_with fail
    refine (Aa v (1) m nd _ (by omega) (by rw [Aa o];omega) t).mono ?_
    rw [Aa o]
    rintro r Q ⟨⟨H,rfl⟩,N,FQ,a1,a2,I,J⟩
    have K:=u.trans J
    dsimp only
    go_wp2_with fail
    refine (BN I (by omega) [H] _ 1 rfl rfl (by omega) (9)).mono ?_
    rintro r f ⟨⟨b,rfl⟩,g,i,b1,b2,j,k⟩
    have l:=Ab (show BY B p q a n c m (3 * s+1) L nd lt w (.returned (.int .i64 b)) f from ⟨⟨b,rfl⟩,g,i,by omega,by omega,j,K.trans k⟩)
    dsimp only
    go_wp2_with fail
    go_ret
    exact Aa l
   ·skip
    have C:(x / 8 % 8== 0)=false:=beq_eq_false_iff_ne.2 (by omega)
    have D:(x / 8 % 8== 1)=false:=beq_eq_false_iff_ne.2 (by omega)
    have E:(x / 8 % 8== 2)=false:=beq_eq_false_iff_ne.2 (by omega)
    have F:(x / 8 % 8== 3)=false:=beq_eq_false_iff_ne.2 (by omega)
    have G:(x / 8 % 8== 4)=true:=beq_iff_eq.2 (by omega)
    have k5:(x / 8 % 8== 5)=false:=beq_eq_false_iff_ne.2 (by omega)
    have z:(x / 8 % 8== 6)=false:=beq_eq_false_iff_ne.2 (by omega)
    have A:(x / 8 % 8== 7)=false:=beq_eq_false_iff_ne.2 (by omega)
    clear ek
    go_wp2_with fail
    refine (AS (Aa v) t (by rw [Aa o];omega) (23) (3) (4) (by omega) (by omega)).mono ?_
    rw [Aa o]
    rintro r f ⟨⟨b,rfl⟩,g,i,b1,b2,j,k⟩
    have l:=Ab (show BY B p q a n c m (3 * s+1) L nd lt w (.returned (.int .i64 b)) f from ⟨⟨b,rfl⟩,g,i,by omega,by omega,j,u.trans k⟩)
    dsimp only
    go_wp2_with fail
    go_ret
    exact Aa l
   ·skip
    have C:(x / 8 % 8== 0)=false:=beq_eq_false_iff_ne.2 (by omega)
    have D:(x / 8 % 8== 1)=false:=beq_eq_false_iff_ne.2 (by omega)
    have E:(x / 8 % 8== 2)=false:=beq_eq_false_iff_ne.2 (by omega)
    have F:(x / 8 % 8== 3)=false:=beq_eq_false_iff_ne.2 (by omega)
    have G:(x / 8 % 8== 4)=false:=beq_eq_false_iff_ne.2 (by omega)
    have k5:(x / 8 % 8== 5)=true:=beq_iff_eq.2 (by omega)
    have z:(x / 8 % 8== 6)=false:=beq_eq_false_iff_ne.2 (by omega)
    have A:(x / 8 % 8== 7)=false:=beq_eq_false_iff_ne.2 (by omega)
    clear ek
    go_wp2_with fail
    refine (AS (Aa v) t (by rw [Aa o];omega) (24) (4) (4) (by omega) (by omega)).mono ?_
    rw [Aa o]
    rintro r f ⟨⟨b,rfl⟩,g,i,b1,b2,j,k⟩
    have l:=Ab (show BY B p q a n c m (3 * s+1) L nd lt w (.returned (.int .i64 b)) f from ⟨⟨b,rfl⟩,g,i,by omega,by omega,j,u.trans k⟩)
    dsimp only
    go_wp2_with fail
    go_ret
    exact Aa l
   ·skip
    have C:(x / 8 % 8== 0)=false:=beq_eq_false_iff_ne.2 (by omega)
    have D:(x / 8 % 8== 1)=false:=beq_eq_false_iff_ne.2 (by omega)
    have E:(x / 8 % 8== 2)=false:=beq_eq_false_iff_ne.2 (by omega)
    have F:(x / 8 % 8== 3)=false:=beq_eq_false_iff_ne.2 (by omega)
    have G:(x / 8 % 8== 4)=false:=beq_eq_false_iff_ne.2 (by omega)
    have k5:(x / 8 % 8== 5)=false:=beq_eq_false_iff_ne.2 (by omega)
    have z:(x / 8 % 8== 6)=true:=beq_iff_eq.2 (by omega)
    have A:(x / 8 % 8== 7)=false:=beq_eq_false_iff_ne.2 (by omega)
    clear ek
    go_wp2_with fail
    refine (AS (Aa v) t (by rw [Aa o];omega) (21+x / 8 / 8 % 2) (2) (2) (by omega) (by omega)).mono ?_
    rw [Aa o]
    rintro r f ⟨⟨b,rfl⟩,g,i,b1,b2,j,k⟩
    have l:=Ab (show BY B p q a n c m (3 * s+1) L nd lt w (.returned (.int .i64 b)) f from ⟨⟨b,rfl⟩,g,i,by omega,by omega,j,u.trans k⟩)
    dsimp only
    go_wp2_with fail
    go_ret
    exact Aa l
   ·skip
    have C:(x / 8 % 8== 0)=false:=beq_eq_false_iff_ne.2 (by omega)
    have D:(x / 8 % 8== 1)=false:=beq_eq_false_iff_ne.2 (by omega)
    have E:(x / 8 % 8== 2)=false:=beq_eq_false_iff_ne.2 (by omega)
    have F:(x / 8 % 8== 3)=false:=beq_eq_false_iff_ne.2 (by omega)
    have G:(x / 8 % 8== 4)=false:=beq_eq_false_iff_ne.2 (by omega)
    have k5:(x / 8 % 8== 5)=false:=beq_eq_false_iff_ne.2 (by omega)
    have z:(x / 8 % 8== 6)=false:=beq_eq_false_iff_ne.2 (by omega)
    have A:(x / 8 % 8== 7)=true:=beq_iff_eq.2 (by omega)
    clear ek
    go_wp2_with fail
    refine (AS (Aa v) t (by rw [Aa o];omega) (19+x % 2) (1+x / 8 / 8) (1+x / 8 / 8) (by omega) (by omega)).mono ?_
    rw [Aa o]
    rintro r f ⟨⟨b,rfl⟩,g,i,b1,b2,j,k⟩
    have l:=Ab (show BY B p q a n c m (3 * s+1) L nd lt w (.returned (.int .i64 b)) f from ⟨⟨b,rfl⟩,g,i,by omega,by omega,j,u.trans k⟩)
    dsimp only
    go_wp2_with fail
    go_ret
    exact Aa l
  ·rcases (show x / 8 % 8=6∨x / 8 % 8=7∨x / 8 % 8 < 6 by omega) with ek | ek | ek
   ·skip
    have C:(x / 8 % 8== 0)=false:=beq_eq_false_iff_ne.2 (by omega)
    have D:(x / 8 % 8== 1)=false:=beq_eq_false_iff_ne.2 (by omega)
    have E:(x / 8 % 8== 2)=false:=beq_eq_false_iff_ne.2 (by omega)
    have F:(x / 8 % 8== 3)=false:=beq_eq_false_iff_ne.2 (by omega)
    have G:(x / 8 % 8== 4)=false:=beq_eq_false_iff_ne.2 (by omega)
    have k5:(x / 8 % 8== 5)=false:=beq_eq_false_iff_ne.2 (by omega)
    have z:(x / 8 % 8== 6)=true:=beq_iff_eq.2 (by omega)
    have A:(x / 8 % 8== 7)=false:=beq_eq_false_iff_ne.2 (by omega)
    clear ek
    go_wp2_with fail
    refine (Aa v (4) m nd _ (by omega) (by rw [Aa o];omega) t).mono ?_
    rw [Aa o]
    rintro r Q ⟨⟨H,rfl⟩,N,FQ,a1,a2,I,J⟩
    have K:=u.trans J
    dsimp only
    go_wp2_with fail
    refine (BN I (by omega) [H] _ 1 rfl rfl (by omega) (10)).mono ?_
    rintro r f ⟨⟨b,rfl⟩,g,i,b1,b2,j,k⟩
    have l:=Ab (show BY B p q a n c m (3 * s+1) L nd lt w (.returned (.int .i64 b)) f from ⟨⟨b,rfl⟩,g,i,by omega,by omega,j,K.trans k⟩)
    dsimp only
    go_wp2_with fail
    go_ret
    exact Aa l
   ·skip
    have C:(x / 8 % 8== 0)=false:=beq_eq_false_iff_ne.2 (by omega)
    have D:(x / 8 % 8== 1)=false:=beq_eq_false_iff_ne.2 (by omega)
    have E:(x / 8 % 8== 2)=false:=beq_eq_false_iff_ne.2 (by omega)
    have F:(x / 8 % 8== 3)=false:=beq_eq_false_iff_ne.2 (by omega)
    have G:(x / 8 % 8== 4)=false:=beq_eq_false_iff_ne.2 (by omega)
    have k5:(x / 8 % 8== 5)=false:=beq_eq_false_iff_ne.2 (by omega)
    have z:(x / 8 % 8== 6)=false:=beq_eq_false_iff_ne.2 (by omega)
    have A:(x / 8 % 8== 7)=true:=beq_iff_eq.2 (by omega)
    clear ek
    go_wp2_with fail
    refine (Aa v (2) m nd _ (by omega) (by rw [Aa o];omega) t).mono ?_
    rw [Aa o]
    rintro r Q ⟨⟨H,rfl⟩,N,FQ,a1,a2,I,J⟩
    have K:=u.trans J
    dsimp only
    go_wp2_with fail
    refine (BN I (by omega) [H] _ 1 rfl rfl (by omega) (8)).mono ?_
    rintro r f ⟨⟨b,rfl⟩,g,i,b1,b2,j,k⟩
    have l:=Ab (show BY B p q a n c m (3 * s+1) L nd lt w (.returned (.int .i64 b)) f from ⟨⟨b,rfl⟩,g,i,by omega,by omega,j,K.trans k⟩)
    dsimp only
    go_wp2_with fail
    go_ret
    exact Aa l
   ·have z:(x / 8 % 8== 6)=false:=beq_eq_false_iff_ne.2 (by omega)
    have A:(x / 8 % 8== 7)=false:=beq_eq_false_iff_ne.2 (by omega)
    clear ek
    go_wp2_with fail
    refine (AS (Aa v) t (by rw [Aa o];omega) (11+x / 8 % 5) (2) (2) (by omega) (by omega)).mono ?_
    rw [Aa o]
    rintro r f ⟨⟨b,rfl⟩,g,i,b1,b2,j,k⟩
    have l:=Ab (show BY B p q a n c m (3 * s+1) L nd lt w (.returned (.int .i64 b)) f from ⟨⟨b,rfl⟩,g,i,by omega,by omega,j,u.trans k⟩)
    dsimp only
    go_wp2_with fail
    go_ret
    exact Aa l
  ·skip
   go_wp2_with fail
   refine (Bp t (by omega) O 3 (by omega)).mono ?_
   rintro r f ⟨⟨b,rfl⟩,g,i,b1,b2,j,k⟩
   have l:=Ab (show BY B p q a n c m (3 * s+1) L nd lt w (.returned (.int .i64 b)) f from ⟨⟨b,rfl⟩,g,i,by omega,by omega,j,u.trans k⟩)
   dsimp only
   go_wp2_with fail
   go_ret
   exact Aa l
  ·skip
   go_wp2_with fail
   refine (AS (Aa v) t (by rw [Aa o];omega) (16+x / 8 % 3) (4) (4) (by omega) (by omega)).mono ?_
   rw [Aa o]
   rintro r f ⟨⟨b,rfl⟩,g,i,b1,b2,j,k⟩
   have l:=Ab (show BY B p q a n c m (3 * s+1) L nd lt w (.returned (.int .i64 b)) f from ⟨⟨b,rfl⟩,g,i,by omega,by omega,j,u.trans k⟩)
   dsimp only
   go_wp2_with fail
   go_ret
   exact Aa l
theorem Cz {B f g:Nat}{a:Option Addr}{n c:Nat}{L:List (ByteArray × Int)}{lt:Value}(b:L.length≤100):∀ d,d≤10→Mn B f g a n c L lt d
 | 0,_=>JN b
 | d+1,hd=>fun ty m nd w i hm h=>by
  have:=JO b (by omega) (Cz b d (by omega)) ty m nd w i hm h
  rw [Int.natCast_add]
  exact this
end Go.Proofs.YtcpdodmoheebaaaGreatDoor

/-
  Drawn policies: numbers and leaves (written by mkktd.py). Own work.
-/
import Derived.Test.YtdldimphcpojoaaGreatDoorMXAO
namespace Go.Proofs.YtdldimphcpojoaaGreatDoor
set_option maxRecDepth 100000
set_option maxHeartbeats 6400000
open Go.RowKit Go.ChangeShapes
set_option linter.unusedVariables false
theorem Sr (R:Nat)(a:Option Addr)(n c:Nat)(w:World)(h:Cr w R a n c):
  Calls Tryz.prog 103 #[.pointer (some ⟨R,0,none⟩)] w fun e w'=>∃ r:Int,e= .returned (.int .i64 r)∧(-9223372036854775808≤r∧r≤9223372036854775807)∧Cr w' R a n c∧Ai R (R+1) w w':=by
 go_enter Tryz.func103,Tryz.ntmps103
 go_wp2_with fail
 refine (BA R a n c w h).mono ?_;rintro e g ⟨x,rfl,u,z,h1,d⟩;clear h;by_cases e4:x % 8=4
 ·have j:(x % 8== 0)=false:=beq_eq_false_iff_ne.2 (by omega);have l:(x % 8== 1)=false:=beq_eq_false_iff_ne.2 (by omega);have q2:(x % 8== 2)=false:=beq_eq_false_iff_ne.2 (by omega);have q3:(x % 8== 3)=false:=beq_eq_false_iff_ne.2 (by omega);have q4:(x % 8== 4)=true:=beq_iff_eq.2 (by omega);clear e4;go_wp2_with fail
  refine (BA R a n c g h1).mono ?_;rintro e o ⟨y,rfl,p,q,h2,b⟩;go_wp2_with fail
  refine (BA R a n c o h2).mono ?_;rintro e s ⟨A,rfl,B,C,h3,f⟩;go_wp2_with fail
  go_ret
  exact ⟨_,rfl,⟨by omega,by omega⟩,h3,(d.trans b).trans f⟩
 by_cases e5:x % 8=5
 ·have j:(x % 8== 0)=false:=beq_eq_false_iff_ne.2 (by omega);have l:(x % 8== 1)=false:=beq_eq_false_iff_ne.2 (by omega);have q2:(x % 8== 2)=false:=beq_eq_false_iff_ne.2 (by omega);have q3:(x % 8== 3)=false:=beq_eq_false_iff_ne.2 (by omega);have q4:(x % 8== 4)=false:=beq_eq_false_iff_ne.2 (by omega);have q5:(x % 8== 5)=true:=beq_iff_eq.2 (by omega);clear e4 e5;go_wp2_with fail
  go_loopw [5,6] (fun v i wr=>∃ (k:Nat) (m:Int),k≤8∧i= .int .i64 k∧v= .int .i64 m∧(-9223372036854775808≤m∧m≤9223372036854775807)∧Cr wr R a n c∧Ai R (R+1) w wr) (fun _ i _=>8 - (intOf i).toNat)
  case atStart=>exact ⟨0,0,by omega,rfl,rfl,⟨by omega,by omega⟩,h1,d⟩
  case round=>
   obtain ⟨k,m,hk,rfl,rfl,hm,h2,b⟩:=hrel;by_cases E:k < 8
   ·have t:(k:Int) < 8:=by omega
    go_wp2_with (go_at_call 18;refine (BA R a n c _ h2).mono ?_;rintro e s ⟨y,rfl,p,q,h3,f⟩)
    go_roundw
    case rel=>exact ⟨k+1,_,by omega,by go_num,rfl,bounds_i64 (wf_bits _ _ _ _),h3,b.trans f⟩
    case measure=>simp[intOf];omega
   ·have t: ¬ (k:Int) < 8:=by omega
    go_wp2
    go_ret
    exact ⟨_,rfl,hm,h2,b⟩
 have q4:(x % 8== 4)=false:=beq_eq_false_iff_ne.2 e4;have q5:(x % 8== 5)=false:=beq_eq_false_iff_ne.2 e5;clear e4 e5;go_wp2
 all_goals
  go_ret
  exact ⟨_,rfl,⟨by omega,by omega⟩,h1,d⟩
theorem Nn (w:World)(k:Nat)(hk:k < 6):∃ s:ByteArray,s.size≤10∧(w.alloc (.cells #[.string ⟨#[108,101,118,101,108]⟩,.string ⟨#[110,111,119]⟩,.string ⟨#[99,108,105,101,110,116]⟩,.string ⟨#[117,115,101,114]⟩,.string ⟨#[97,115,107,101,100]⟩,.string ⟨#[97,103,114,101,101,100]⟩] 9)).cell? ⟨w.heap.size,k,none⟩=some (.string s):=by
 have h:=(An.new w #[.string ⟨#[108,101,118,101,108]⟩,.string ⟨#[110,111,119]⟩,.string ⟨#[99,108,105,101,110,116]⟩,.string ⟨#[117,115,101,114]⟩,.string ⟨#[97,115,107,101,100]⟩,.string ⟨#[97,103,114,101,101,100]⟩] 9).cell k
 match k,hk with
 | 0,_=>exact ⟨_,by decide,h⟩
 | 1,_=>exact ⟨_,by decide,h⟩
 | 2,_=>exact ⟨_,by decide,h⟩
 | 3,_=>exact ⟨_,by decide,h⟩
 | 4,_=>exact ⟨_,by decide,h⟩
 | 5,_=>exact ⟨_,by decide,h⟩
def YW (L:List (ByteArray × Int)) (w1:World) (vi:Value) (wr:World):Prop:=
 ∃ i:Int,-1≤i∧i < (L.length:Int)∧vi= .int .i64 i∧Below w1.heap.size w1 wr
theorem GF.let_at {B R f:Nat}{a:Option Addr}{n c m:Nat}{L:List (ByteArray × Int)}{nd:Value}{b:Option Addr}{i:Nat}{w:World}(h:GF B R f a n c m L nd (.slice b L.length i) w)(j:Nat)(d:j < L.length):∃ g,b=some ⟨g,0,none⟩∧w.cell? ⟨g,j * 2,none⟩=some (.string L[j].1)∧w.cell? ⟨g,j * 2+1,none⟩=some (.int .i64 L[j].2)∧L[j].1.size≤1000:=by
 obtain ⟨N,k,l,o,C,e⟩:=h;obtain ⟨p,q,h1,h2⟩:=Ah C.lets;simp only[Value.slice.injEq] at h1;obtain ⟨rfl,_,rfl⟩:=h1;obtain ⟨g,rfl,_,hc⟩:=h2 (by omega);obtain ⟨e1,e2⟩:=Sq L j d;exact ⟨g,rfl,hc _ _ e1,hc _ _ e2,C.good.2 _ (List.getElem_mem d)⟩
theorem Eu.back {B R b:Nat}{a:Option Addr}{n c m top:Nat}{L:List (ByteArray × Int)}{nd lt:Value}{w d:World}{r:Ending}{w':World}(h:Eu B R b a n c m top L nd lt d r w')(K:Gk B R b lt nd w nd d):Eu B R b a n c m top L nd lt w r w':=by
 obtain ⟨h1,f,g,h2,h3,h4,h5⟩:=h;exact ⟨h1,f,g,h2,h3,h4,K.trans h5⟩
theorem De {B R E:Nat}{a:Option Addr}{n c m:Nat}{L:List (ByteArray × Int)}{nd lt:Value}{w:World}(h:GF B R E a n c m L nd lt w)(hm:m+1≤1000000)(au:L.length≤100)(ty:Int)(H:ty=1∨ty=2∨ty=3∨ty=4):
  Calls Tryz.prog 76 #[.pointer (some ⟨E,0,none⟩),.int .i64 ty] w (Eu B R E a n c m 1 L nd lt w):=by
 obtain ⟨av,aw,X,Y,ax,Z,aa,F,c1,c2,c3⟩:=h.cells;subst aa;go_enter Tryz.func76,Tryz.ntmps76
 go_wp2_with fail
 refine (BA R a n c w h.lt.2.2).mono ?_;rintro e l ⟨x,rfl,ay,az,Q,I⟩;have f:=h.touch I Q;have v:Gk B R E (.slice X L.length Y) nd w nd l:=Gk.of_touch I h.lt.2.1.2 h.lt.1.2.2;clear F c1 c2 c3 h I Q;obtain ⟨aA,aB,aC,aD,aE,ab,ac,F,c1,c2,c3⟩:=f.cells;clear Z ab ac;dsimp only;rcases (show x % 3=2∨x % 3=1∨x % 3=0 by omega) with e3 | e3 | e3
 ·have q2:(x % 3== 2)=true:=beq_iff_eq.2 e3;have S:(x % 3== 1)=false:=beq_eq_false_iff_ne.2 (by omega);clear e3;have T:=Ab (show YW L l (.int .i64 ((L.length:Int) - 1)) l from ⟨(L.length:Int) - 1,by omega,by omega,rfl,BRN⟩);have U:=Ab f;have ad:=Ab v;clear f v;go_wp2_with fail
  go_loopw [6] (fun J wr=>YW L l J wr) (fun J _=>(intOf J+1).toNat)
  case atStart=>exact Aa T
  case round=>
   clear T F c1 c2 c3;obtain ⟨i,aF,aG,rfl,K⟩:=hrel;have k:=(Aa U).below K;have t:=(Aa ad).trans (Gk.of_below (nd:=nd) K (Aa U).lt.1.1);obtain ⟨aH,aI,aJ,aK,aL,ae,af,F,c1,c2,c3⟩:=k.cells;clear ae af;by_cases hi: 0≤i
   ·obtain ⟨j,rfl⟩:=Int.eq_ofNat_of_zero_le hi;have ag:j < L.length:=by omega
    obtain ⟨g,rfl,ah,d1,ai⟩:=k.let_at j ag;have V:=Ab (show (intOf (.int .i64 ((j:Int) - 1))+1).toNat < (intOf (.int .i64 (j:Int))+1).toNat by simp[intOf]);have W:=Ab (show YW L l (.int .i64 ((j:Int) - 1)) wr from ⟨(j:Int) - 1,by omega,by omega,rfl,K⟩);generalize L[j].1=aj at ah ai;generalize L[j].2=ak at d1;cases aM:(ak== ty)
    ·go_wp2_with fail
     exact ⟨Aa W,Aa V⟩
    ·cases aN:(((j:Int)+x) % 2== 0)
     ·go_wp2_with fail
      exact ⟨Aa W,Aa V⟩
     ·go_wp2_with fail
      refine (Bc k hm 5 0 aj (by omega) (by omega)).mono ?_;intro r o b;have d:=Ab (b.back t);obtain ⟨⟨p,rfl⟩,-⟩:=b;dsimp only;go_wp2_with fail
      go_ret
      exact Aa d
   ·have aO: ¬ ((0 :Int)≤i):=hi;clear hi;rcases H with rfl | rfl | rfl | rfl
    ·go_wp2_with fail
     refine (Bc k hm 3 (x / 3 % 2) ⟨#[]⟩ (by omega) (by decide)).mono ?_;intro r o b;have d:=Ab (b.back t);obtain ⟨⟨p,rfl⟩,-⟩:=b;dsimp only;go_wp2_with fail
     go_ret
     exact Aa d
    ·by_cases al: 220 < x
     ·go_wp2_with fail
      refine (Sr R a n c _ k.lt.2.2).mono ?_;rintro r C ⟨y,rfl,⟨ao,ap⟩,z,q⟩;have A:=k.touch q z;have u:=t.trans (Gk.of_touch q k.lt.2.1.2 k.lt.1.2.2);dsimp only;by_cases hy:y < 0
      ·go_wp2_with fail
       refine (Bc A hm 1 (-(y+1)) ⟨#[]⟩ (by omega) (by decide)).mono ?_;intro r o b;have d:=Ab (b.back u);obtain ⟨⟨p,rfl⟩,-⟩:=b;dsimp only;go_wp2_with fail
       go_ret
       exact Aa d
      ·go_wp2_with fail
       refine (Bc A hm 1 y ⟨#[]⟩ (by omega) (by decide)).mono ?_;intro r o b;have d:=Ab (b.back u);obtain ⟨⟨p,rfl⟩,-⟩:=b;dsimp only;go_wp2_with fail
       go_ret
       exact Aa d
     ·go_wp2_with fail
      refine (Bc k hm 1 (x / 3 % 6) ⟨#[]⟩ (by omega) (by decide)).mono ?_;intro r o b;have d:=Ab (b.back t);obtain ⟨⟨p,rfl⟩,-⟩:=b;dsimp only;go_wp2_with fail
      go_ret
      exact Aa d
    ·by_cases aq: 250 < x
     ·go_wp2_with fail
      refine (Bc k hm 2 0 ⟨#[]⟩ (by omega) (by decide)).mono ?_;intro r o b;have d:=Ab (b.back t);obtain ⟨⟨p,rfl⟩,-⟩:=b;dsimp only;go_wp2_with fail
      go_ret
      exact Aa d
     ·go_wp2_with fail
      refine (Kh R a n c _ k.lt.2.2).mono ?_;rintro r C ⟨s,rfl,ar,z,q⟩;have A:=k.touch q z;have u:=t.trans (Gk.of_touch q k.lt.2.1.2 k.lt.1.2.2);dsimp only;go_wp2_with fail
      refine (Bc A hm 2 0 s (by omega) (by omega)).mono ?_;intro r o b;have d:=Ab (b.back u);obtain ⟨⟨p,rfl⟩,-⟩:=b;dsimp only;go_wp2_with fail
      go_ret
      exact Aa d
    ·go_wp2_with fail
     refine (RU R a n c _ k.lt.2.2).mono ?_;rintro r C ⟨M,c5,N,rfl,O,P,z,q⟩;have u:=t.trans (Gk.of_touch q k.lt.2.1.2 k.lt.1.2.2);dsimp only;go_wp2_with fail
     refine (OW k q z hm N M c5 P O).mono ?_;intro r o b;have d:=Ab (b.back u);obtain ⟨⟨p,rfl⟩,-⟩:=b;dsimp only;go_wp2_with fail
     go_ret
     exact Aa d
 ·have q2:(x % 3== 2)=false:=beq_eq_false_iff_ne.2 (by omega);have S:(x % 3== 1)=true:=beq_iff_eq.2 e3;clear e3;rcases H with rfl | rfl | rfl | rfl
  ·go_wp2_with fail
   refine (Bc f hm 3 (x / 3 % 2) ⟨#[]⟩ (by omega) (by decide)).mono ?_;intro r o b;have d:=Ab (b.back v);obtain ⟨⟨p,rfl⟩,-⟩:=b;dsimp only;go_wp2_with fail
   go_ret
   exact Aa d
  ·obtain ⟨s,hs,hc⟩:=Nn l (x / 3 % 2).toNat (by omega);have k:=f.below ((Below.refl l.heap.size l).alloc NLN (.cells #[.string ⟨#[108,101,118,101,108]⟩,.string ⟨#[110,111,119]⟩,.string ⟨#[99,108,105,101,110,116]⟩,.string ⟨#[117,115,101,114]⟩,.string ⟨#[97,115,107,101,100]⟩,.string ⟨#[97,103,114,101,101,100]⟩] 9));have t:=v.trans (Gk.of_below (nd:=nd) ((Below.refl l.heap.size l).alloc NLN (.cells #[.string ⟨#[108,101,118,101,108]⟩,.string ⟨#[110,111,119]⟩,.string ⟨#[99,108,105,101,110,116]⟩,.string ⟨#[117,115,101,114]⟩,.string ⟨#[97,115,107,101,100]⟩,.string ⟨#[97,103,114,101,101,100]⟩] 9)) f.lt.1.1);go_wp2_with fail
   refine (Bc k hm 5 0 s (by omega) (by omega)).mono ?_;intro r o b;have d:=Ab (b.back t);obtain ⟨⟨p,rfl⟩,-⟩:=b;dsimp only;go_wp2_with fail
   go_ret
   exact Aa d
  ·obtain ⟨s,hs,hc⟩:=Nn l (2+x / 3 % 2).toNat (by omega);have k:=f.below ((Below.refl l.heap.size l).alloc NLN (.cells #[.string ⟨#[108,101,118,101,108]⟩,.string ⟨#[110,111,119]⟩,.string ⟨#[99,108,105,101,110,116]⟩,.string ⟨#[117,115,101,114]⟩,.string ⟨#[97,115,107,101,100]⟩,.string ⟨#[97,103,114,101,101,100]⟩] 9));have t:=v.trans (Gk.of_below (nd:=nd) ((Below.refl l.heap.size l).alloc NLN (.cells #[.string ⟨#[108,101,118,101,108]⟩,.string ⟨#[110,111,119]⟩,.string ⟨#[99,108,105,101,110,116]⟩,.string ⟨#[117,115,101,114]⟩,.string ⟨#[97,115,107,101,100]⟩,.string ⟨#[97,103,114,101,101,100]⟩] 9)) f.lt.1.1);go_wp2_with fail
   refine (Bc k hm 5 0 s (by omega) (by omega)).mono ?_;intro r o b;have d:=Ab (b.back t);obtain ⟨⟨p,rfl⟩,-⟩:=b;dsimp only;go_wp2_with fail
   go_ret
   exact Aa d
  ·obtain ⟨s,hs,hc⟩:=Nn l (4+x / 3 % 2).toNat (by omega);have k:=f.below ((Below.refl l.heap.size l).alloc NLN (.cells #[.string ⟨#[108,101,118,101,108]⟩,.string ⟨#[110,111,119]⟩,.string ⟨#[99,108,105,101,110,116]⟩,.string ⟨#[117,115,101,114]⟩,.string ⟨#[97,115,107,101,100]⟩,.string ⟨#[97,103,114,101,101,100]⟩] 9));have t:=v.trans (Gk.of_below (nd:=nd) ((Below.refl l.heap.size l).alloc NLN (.cells #[.string ⟨#[108,101,118,101,108]⟩,.string ⟨#[110,111,119]⟩,.string ⟨#[99,108,105,101,110,116]⟩,.string ⟨#[117,115,101,114]⟩,.string ⟨#[97,115,107,101,100]⟩,.string ⟨#[97,103,114,101,101,100]⟩] 9)) f.lt.1.1);go_wp2_with fail
   refine (Bc k hm 5 0 s (by omega) (by omega)).mono ?_;intro r o b;have d:=Ab (b.back t);obtain ⟨⟨p,rfl⟩,-⟩:=b;dsimp only;go_wp2_with fail
   go_ret
   exact Aa d
 ·have q2:(x % 3== 2)=false:=beq_eq_false_iff_ne.2 (by omega);have S:(x % 3== 1)=false:=beq_eq_false_iff_ne.2 (by omega);clear e3;rcases H with rfl | rfl | rfl | rfl
  ·go_wp2_with fail
   refine (Bc f hm 3 (x / 3 % 2) ⟨#[]⟩ (by omega) (by decide)).mono ?_;intro r o b;have d:=Ab (b.back v);obtain ⟨⟨p,rfl⟩,-⟩:=b;dsimp only;go_wp2_with fail
   go_ret
   exact Aa d
  ·by_cases al: 220 < x
   ·go_wp2_with fail
    refine (Sr R a n c _ f.lt.2.2).mono ?_;rintro r C ⟨y,rfl,⟨ao,ap⟩,z,q⟩;have A:=f.touch q z;have u:=v.trans (Gk.of_touch q f.lt.2.1.2 f.lt.1.2.2);dsimp only;by_cases hy:y < 0
    ·go_wp2_with fail
     refine (Bc A hm 1 (-(y+1)) ⟨#[]⟩ (by omega) (by decide)).mono ?_;intro r o b;have d:=Ab (b.back u);obtain ⟨⟨p,rfl⟩,-⟩:=b;dsimp only;go_wp2_with fail
     go_ret
     exact Aa d
    ·go_wp2_with fail
     refine (Bc A hm 1 y ⟨#[]⟩ (by omega) (by decide)).mono ?_;intro r o b;have d:=Ab (b.back u);obtain ⟨⟨p,rfl⟩,-⟩:=b;dsimp only;go_wp2_with fail
     go_ret
     exact Aa d
   ·go_wp2_with fail
    refine (Bc f hm 1 (x / 3 % 6) ⟨#[]⟩ (by omega) (by decide)).mono ?_;intro r o b;have d:=Ab (b.back v);obtain ⟨⟨p,rfl⟩,-⟩:=b;dsimp only;go_wp2_with fail
    go_ret
    exact Aa d
  ·by_cases aq: 250 < x
   ·go_wp2_with fail
    refine (Bc f hm 2 0 ⟨#[]⟩ (by omega) (by decide)).mono ?_;intro r o b;have d:=Ab (b.back v);obtain ⟨⟨p,rfl⟩,-⟩:=b;dsimp only;go_wp2_with fail
    go_ret
    exact Aa d
   ·go_wp2_with fail
    refine (Kh R a n c _ f.lt.2.2).mono ?_;rintro r C ⟨s,rfl,ar,z,q⟩;have A:=f.touch q z;have u:=v.trans (Gk.of_touch q f.lt.2.1.2 f.lt.1.2.2);dsimp only;go_wp2_with fail
    refine (Bc A hm 2 0 s (by omega) (by omega)).mono ?_;intro r o b;have d:=Ab (b.back u);obtain ⟨⟨p,rfl⟩,-⟩:=b;dsimp only;go_wp2_with fail
    go_ret
    exact Aa d
  ·go_wp2_with fail
   refine (RU R a n c _ f.lt.2.2).mono ?_;rintro r C ⟨M,c5,N,rfl,O,P,z,q⟩;have u:=v.trans (Gk.of_touch q f.lt.2.1.2 f.lt.1.2.2);dsimp only;go_wp2_with fail
   refine (OW f q z hm N M c5 P O).mono ?_;intro r o b;have d:=Ab (b.back u);obtain ⟨⟨p,rfl⟩,-⟩:=b;dsimp only;go_wp2_with fail
   go_ret
   exact Aa d
end Go.Proofs.YtdldimphcpojoaaGreatDoor

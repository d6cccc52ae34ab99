/-
  Drawn policies: numbers and leaves (written by mkktd.py). Own work.
-/
import Derived.Test.YtcpdodmoheebaaaGreatDoorKTC
namespace Go.Proofs.YtcpdodmoheebaaaGreatDoor
set_option maxRecDepth 100000
set_option maxHeartbeats 6400000
open Go.RowKit Go.ChangeShapes
set_option linter.unusedVariables false
theorem Jn (b:Nat)(a:Option Addr)(n c:Nat)(w:World)(h:Ba w b a n c):
  Calls Tryz.prog 68 #[.pointer (some ⟨b,0,none⟩)] w fun e w'=>∃ r:Int,e= .returned (.int .i64 r)∧(-9223372036854775808≤r∧r≤9223372036854775807)∧Ba w' b a n c∧As b (b+1) w w':=by
 go_enter Tryz.func68,Tryz.ntmps68
 go_wp2_with fail
 refine (AK b a n c w h).mono ?_
 rintro e j ⟨x,rfl,z,A,h1,f⟩
 clear h
 by_cases e4:x % 8=4
 ·have l:(x % 8== 0)=false:=beq_eq_false_iff_ne.2 (by omega)
  have o:(x % 8== 1)=false:=beq_eq_false_iff_ne.2 (by omega)
  have q2:(x % 8== 2)=false:=beq_eq_false_iff_ne.2 (by omega)
  have q3:(x % 8== 3)=false:=beq_eq_false_iff_ne.2 (by omega)
  have q4:(x % 8== 4)=true:=beq_iff_eq.2 (by omega)
  clear e4
  go_wp2_with fail
  refine (AK b a n c j h1).mono ?_
  rintro e p ⟨y,rfl,q,s,h2,d⟩
  go_wp2_with fail
  refine (AK b a n c p h2).mono ?_
  rintro e t ⟨B,rfl,C,D,h3,g⟩
  go_wp2_with fail
  go_ret
  exact ⟨_,rfl,⟨by omega,by omega⟩,h3,(f.trans d).trans g⟩
 by_cases e5:x % 8=5
 ·have l:(x % 8== 0)=false:=beq_eq_false_iff_ne.2 (by omega)
  have o:(x % 8== 1)=false:=beq_eq_false_iff_ne.2 (by omega)
  have q2:(x % 8== 2)=false:=beq_eq_false_iff_ne.2 (by omega)
  have q3:(x % 8== 3)=false:=beq_eq_false_iff_ne.2 (by omega)
  have q4:(x % 8== 4)=false:=beq_eq_false_iff_ne.2 (by omega)
  have q5:(x % 8== 5)=true:=beq_iff_eq.2 (by omega)
  clear e4 e5
  go_wp2_with fail
  go_loopw [5,6] (fun u i wr=>∃ (k:Nat) (m:Int),k≤8∧i= .int .i64 k∧u= .int .i64 m∧(-9223372036854775808≤m∧m≤9223372036854775807)∧Ba wr b a n c∧As b (b+1) w wr) (fun _ i _=>8 - (intOf i).toNat)
  case atStart=>exact ⟨0,0,by omega,rfl,rfl,⟨by omega,by omega⟩,h1,f⟩
  case round=>
   obtain ⟨k,m,E,rfl,rfl,hm,h2,d⟩:=hrel
   by_cases F:k < 8
   ·have v:(k:Int) < 8:=by omega
    go_wp2_with (go_at_call 14;refine (AK b a n c _ h2).mono ?_;rintro e t ⟨y,rfl,q,s,h3,g⟩)
    go_roundw
    case rel=>exact ⟨k+1,_,by omega,by go_num,rfl,bounds_i64 (wf_bits _ _ _ _),h3,d.trans g⟩
    case measure=>simp [intOf];omega
   ·have v: ¬ (k:Int) < 8:=by omega
    go_wp2
    go_ret
    exact ⟨_,rfl,hm,h2,d⟩
 have q4:(x % 8== 4)=false:=beq_eq_false_iff_ne.2 e4
 have q5:(x % 8== 5)=false:=beq_eq_false_iff_ne.2 e5
 clear e4 e5
 go_wp2
 all_goals
  go_ret
  exact ⟨_,rfl,⟨by omega,by omega⟩,h1,f⟩
theorem Gt (w:World)(k:Nat)(a:k < 6):∃ s:ByteArray,s.size≤10∧(w.alloc (.cells #[.string ⟨#[108,101,118,101,108]⟩,.string ⟨#[110,111,119]⟩,.string ⟨#[99,108,105,101,110,116]⟩,.string ⟨#[117,115,101,114]⟩,.string ⟨#[97,115,107,101,100]⟩,.string ⟨#[97,103,114,101,101,100]⟩] 9)).cell? ⟨w.heap.size,k,none⟩=some (.string s):=by
 have h:=(Ao.new w #[.string ⟨#[108,101,118,101,108]⟩,.string ⟨#[110,111,119]⟩,.string ⟨#[99,108,105,101,110,116]⟩,.string ⟨#[117,115,101,114]⟩,.string ⟨#[97,115,107,101,100]⟩,.string ⟨#[97,103,114,101,101,100]⟩] 9).cell k
 match k,a with
 | 0,_=>exact ⟨_,by decide,h⟩
 | 1,_=>exact ⟨_,by decide,h⟩
 | 2,_=>exact ⟨_,by decide,h⟩
 | 3,_=>exact ⟨_,by decide,h⟩
 | 4,_=>exact ⟨_,by decide,h⟩
 | 5,_=>exact ⟨_,by decide,h⟩
def MB (L:List (ByteArray × Int)) (w1:World) (vi:Value) (wr:World):Prop:=
 ∃ i:Int,-1≤i∧i < (L.length:Int)∧vi= .int .i64 i∧Below w1.heap.size w1 wr
theorem Db.let_at {B f i:Nat}{a:Option Addr}{n c m:Nat}{L:List (ByteArray × Int)}{nd:Value}{b:Option Addr}{k:Nat}{w:World}(h:Db B f i a n c m L nd (.slice b L.length k) w)(j:Nat)(d:j < L.length):∃ g,b=some ⟨g,0,none⟩∧w.cell? ⟨g,j * 2,none⟩=some (.string L[j].1)∧w.cell? ⟨g,j * 2+1,none⟩=some (.int .i64 L[j].2)∧L[j].1.size≤1000:=by
 obtain ⟨N,l,o,p,C,e⟩:=h
 obtain ⟨q,r,h1,h2⟩:=Av C.lets
 simp only [Value.slice.injEq] at h1
 obtain ⟨rfl,_,rfl⟩:=h1
 obtain ⟨g,rfl,_,hc⟩:=h2 (by omega)
 obtain ⟨e1,e2⟩:=Jm L j d
 exact ⟨g,rfl,hc _ _ e1,hc _ _ e2,C.good.2 _ (List.getElem_mem d)⟩
theorem BY.back {B b d:Nat}{a:Option Addr}{n c m top:Nat}{L:List (ByteArray × Int)}{nd lt:Value}{w f:World}{r:Ending}{w':World}(h:BY B b d a n c m top L nd lt f r w')(K:Gk B b d lt nd w nd f):BY B b d a n c m top L nd lt w r w':=by
 obtain ⟨h1,g,i,h2,h3,h4,h5⟩:=h
 exact ⟨h1,g,i,h2,h3,h4,K.trans h5⟩
theorem Bp {B z D:Nat}{a:Option Addr}{n c m:Nat}{L:List (ByteArray × Int)}{nd lt:Value}{w:World}(h:Db B z D a n c m L nd lt w)(hm:m+1≤1000000)(ar:L.length≤100)(ty:Int)(F:ty=1∨ty=2∨ty=3∨ty=4):
  Calls Tryz.prog 49 #[.pointer (some ⟨D,0,none⟩),.int .i64 ty] w (BY B z D a n c m 1 L nd lt w):=by
 obtain ⟨au,av,W,X,aw,Y,Z,E,c1,c2,c3⟩:=h.cells
 subst Z
 go_enter Tryz.func49,Tryz.ntmps49
 go_wp2_with fail
 refine (AK z a n c w h.lt.2.2).mono ?_
 rintro e k ⟨x,rfl,ax,ay,P,G⟩
 have f:=h.touch G P
 have u:Gk B z D (.slice W L.length X) nd w nd k:=Gk.of_touch G h.lt.2.1.2 h.lt.1.2.2
 clear E c1 c2 c3 h G P
 obtain ⟨az,aA,aB,aC,aD,aa,ab,E,c1,c2,c3⟩:=f.cells
 clear Y aa ab
 dsimp only
 rcases (show x % 3=2∨x % 3=1∨x % 3=0 by omega) with e3 | e3 | e3
 ·have q2:(x % 3== 2)=true:=beq_iff_eq.2 e3
  have Q:(x % 3== 1)=false:=beq_eq_false_iff_ne.2 (by omega)
  clear e3
  have R:=Ab (show MB L k (.int .i64 ((L.length:Int) - 1)) k from ⟨(L.length:Int) - 1,by omega,by omega,rfl,Below.refl _ _⟩)
  have S:=Ab f
  have ac:=Ab u
  clear f u
  go_wp2_with fail
  go_loopw [6] (fun H wr=>MB L k H wr) (fun H _=>(intOf H+1).toNat)
  case atStart=>exact Aa R
  case round=>
   clear R E c1 c2 c3
   obtain ⟨T,aE,aF,rfl,I⟩:=hrel
   have i:=(Aa S).below I
   have q:=(Aa ac).trans (Gk.of_below (nd:=nd) I (Aa S).lt.1.1)
   obtain ⟨aG,aH,aI,aJ,aK,ad,ae,E,c1,c2,c3⟩:=i.cells
   clear ad ae
   by_cases J: 0≤T
   ·obtain ⟨j,rfl⟩:=Int.eq_ofNat_of_zero_le J
    have af:j < L.length:=by omega
    obtain ⟨g,rfl,ag,d1,ah⟩:=i.let_at j af
    have U:=Ab (show (intOf (.int .i64 ((j:Int) - 1))+1).toNat < (intOf (.int .i64 (j:Int))+1).toNat by simp [intOf])
    have V:=Ab (show MB L k (.int .i64 ((j:Int) - 1)) wr from ⟨(j:Int) - 1,by omega,by omega,rfl,I⟩)
    generalize L[j].1=ai at ag ah
    generalize L[j].2=aj at d1
    cases aL:(aj== ty)
    ·go_wp2_with fail
     exact ⟨Aa V,Aa U⟩
    ·cases aM:(((j:Int)+x) % 2== 0)
     ·go_wp2_with fail
      exact ⟨Aa V,Aa U⟩
     ·go_wp2_with fail
      refine (AB i hm 5 0 ai (by omega) (by omega)).mono ?_
      intro r l b
      have d:=Ab (b.back q)
      obtain ⟨⟨o,rfl⟩,-⟩:=b
      dsimp only
      go_wp2_with fail
      go_ret
      exact Aa d
   ·have aN: ¬ ((0 :Int)≤T):=J
    clear J
    rcases F with rfl | rfl | rfl | rfl
    ·go_wp2_with fail
     refine (AB i hm 3 (x / 3 % 2) ⟨#[]⟩ (by omega) (by decide)).mono ?_
     intro r l b
     have d:=Ab (b.back q)
     obtain ⟨⟨o,rfl⟩,-⟩:=b
     dsimp only
     go_wp2_with fail
     go_ret
     exact Aa d
    ·by_cases ak: 220 < x
     ·go_wp2_with fail
      refine (Jn z a n c _ i.lt.2.2).mono ?_
      rintro r C ⟨y,rfl,⟨al,ao⟩,v,p⟩
      have A:=i.touch p v
      have t:=q.trans (Gk.of_touch p i.lt.2.1.2 i.lt.1.2.2)
      dsimp only
      by_cases hy:y < 0
      ·go_wp2_with fail
       refine (AB A hm 1 (-(y+1)) ⟨#[]⟩ (by omega) (by decide)).mono ?_
       intro r l b
       have d:=Ab (b.back t)
       obtain ⟨⟨o,rfl⟩,-⟩:=b
       dsimp only
       go_wp2_with fail
       go_ret
       exact Aa d
      ·go_wp2_with fail
       refine (AB A hm 1 y ⟨#[]⟩ (by omega) (by decide)).mono ?_
       intro r l b
       have d:=Ab (b.back t)
       obtain ⟨⟨o,rfl⟩,-⟩:=b
       dsimp only
       go_wp2_with fail
       go_ret
       exact Aa d
     ·go_wp2_with fail
      refine (AB i hm 1 (x / 3 % 6) ⟨#[]⟩ (by omega) (by decide)).mono ?_
      intro r l b
      have d:=Ab (b.back q)
      obtain ⟨⟨o,rfl⟩,-⟩:=b
      dsimp only
      go_wp2_with fail
      go_ret
      exact Aa d
    ·by_cases ap: 250 < x
     ·go_wp2_with fail
      refine (AB i hm 2 0 ⟨#[]⟩ (by omega) (by decide)).mono ?_
      intro r l b
      have d:=Ab (b.back q)
      obtain ⟨⟨o,rfl⟩,-⟩:=b
      dsimp only
      go_wp2_with fail
      go_ret
      exact Aa d
     ·go_wp2_with fail
      refine (EU z a n c _ i.lt.2.2).mono ?_
      rintro r C ⟨s,rfl,aq,v,p⟩
      have A:=i.touch p v
      have t:=q.trans (Gk.of_touch p i.lt.2.1.2 i.lt.1.2.2)
      dsimp only
      go_wp2_with fail
      refine (AB A hm 2 0 s (by omega) (by omega)).mono ?_
      intro r l b
      have d:=Ab (b.back t)
      obtain ⟨⟨o,rfl⟩,-⟩:=b
      dsimp only
      go_wp2_with fail
      go_ret
      exact Aa d
    ·go_wp2_with fail
     refine (Jl z a n c _ i.lt.2.2).mono ?_
     rintro r C ⟨K,c5,M,rfl,N,O,v,p⟩
     have t:=q.trans (Gk.of_touch p i.lt.2.1.2 i.lt.1.2.2)
     dsimp only
     go_wp2_with fail
     refine (GU i p v hm M K c5 O N).mono ?_
     intro r l b
     have d:=Ab (b.back t)
     obtain ⟨⟨o,rfl⟩,-⟩:=b
     dsimp only
     go_wp2_with fail
     go_ret
     exact Aa d
 ·have q2:(x % 3== 2)=false:=beq_eq_false_iff_ne.2 (by omega)
  have Q:(x % 3== 1)=true:=beq_iff_eq.2 e3
  clear e3
  rcases F with rfl | rfl | rfl | rfl
  ·go_wp2_with fail
   refine (AB f hm 3 (x / 3 % 2) ⟨#[]⟩ (by omega) (by decide)).mono ?_
   intro r l b
   have d:=Ab (b.back u)
   obtain ⟨⟨o,rfl⟩,-⟩:=b
   dsimp only
   go_wp2_with fail
   go_ret
   exact Aa d
  ·obtain ⟨s,hs,hc⟩:=Gt k (x / 3 % 2).toNat (by omega)
   have i:=f.below ((Below.refl k.heap.size k).alloc (Nat.le_refl _) (.cells #[.string ⟨#[108,101,118,101,108]⟩,.string ⟨#[110,111,119]⟩,.string ⟨#[99,108,105,101,110,116]⟩,.string ⟨#[117,115,101,114]⟩,.string ⟨#[97,115,107,101,100]⟩,.string ⟨#[97,103,114,101,101,100]⟩] 9))
   have q:=u.trans (Gk.of_below (nd:=nd) ((Below.refl k.heap.size k).alloc (Nat.le_refl _) (.cells #[.string ⟨#[108,101,118,101,108]⟩,.string ⟨#[110,111,119]⟩,.string ⟨#[99,108,105,101,110,116]⟩,.string ⟨#[117,115,101,114]⟩,.string ⟨#[97,115,107,101,100]⟩,.string ⟨#[97,103,114,101,101,100]⟩] 9)) f.lt.1.1)
   go_wp2_with fail
   refine (AB i hm 5 0 s (by omega) (by omega)).mono ?_
   intro r l b
   have d:=Ab (b.back q)
   obtain ⟨⟨o,rfl⟩,-⟩:=b
   dsimp only
   go_wp2_with fail
   go_ret
   exact Aa d
  ·obtain ⟨s,hs,hc⟩:=Gt k (2+x / 3 % 2).toNat (by omega)
   have i:=f.below ((Below.refl k.heap.size k).alloc (Nat.le_refl _) (.cells #[.string ⟨#[108,101,118,101,108]⟩,.string ⟨#[110,111,119]⟩,.string ⟨#[99,108,105,101,110,116]⟩,.string ⟨#[117,115,101,114]⟩,.string ⟨#[97,115,107,101,100]⟩,.string ⟨#[97,103,114,101,101,100]⟩] 9))
   have q:=u.trans (Gk.of_below (nd:=nd) ((Below.refl k.heap.size k).alloc (Nat.le_refl _) (.cells #[.string ⟨#[108,101,118,101,108]⟩,.string ⟨#[110,111,119]⟩,.string ⟨#[99,108,105,101,110,116]⟩,.string ⟨#[117,115,101,114]⟩,.string ⟨#[97,115,107,101,100]⟩,.string ⟨#[97,103,114,101,101,100]⟩] 9)) f.lt.1.1)
   go_wp2_with fail
   refine (AB i hm 5 0 s (by omega) (by omega)).mono ?_
   intro r l b
   have d:=Ab (b.back q)
   obtain ⟨⟨o,rfl⟩,-⟩:=b
   dsimp only
   go_wp2_with fail
   go_ret
   exact Aa d
  ·obtain ⟨s,hs,hc⟩:=Gt k (4+x / 3 % 2).toNat (by omega)
   have i:=f.below ((Below.refl k.heap.size k).alloc (Nat.le_refl _) (.cells #[.string ⟨#[108,101,118,101,108]⟩,.string ⟨#[110,111,119]⟩,.string ⟨#[99,108,105,101,110,116]⟩,.string ⟨#[117,115,101,114]⟩,.string ⟨#[97,115,107,101,100]⟩,.string ⟨#[97,103,114,101,101,100]⟩] 9))
   have q:=u.trans (Gk.of_below (nd:=nd) ((Below.refl k.heap.size k).alloc (Nat.le_refl _) (.cells #[.string ⟨#[108,101,118,101,108]⟩,.string ⟨#[110,111,119]⟩,.string ⟨#[99,108,105,101,110,116]⟩,.string ⟨#[117,115,101,114]⟩,.string ⟨#[97,115,107,101,100]⟩,.string ⟨#[97,103,114,101,101,100]⟩] 9)) f.lt.1.1)
   go_wp2_with fail
   refine (AB i hm 5 0 s (by omega) (by omega)).mono ?_
   intro r l b
   have d:=Ab (b.back q)
   obtain ⟨⟨o,rfl⟩,-⟩:=b
   dsimp only
   go_wp2_with fail
   go_ret
   exact Aa d
 ·have q2:(x % 3== 2)=false:=beq_eq_false_iff_ne.2 (by omega)
  have Q:(x % 3== 1)=false:=beq_eq_false_iff_ne.2 (by omega)
  clear e3
  rcases F with rfl | rfl | rfl | rfl
  ·go_wp2_with fail
   refine (AB f hm 3 (x / 3 % 2) ⟨#[]⟩ (by omega) (by decide)).mono ?_
   intro r l b
   have d:=Ab (b.back u)
   obtain ⟨⟨o,rfl⟩,-⟩:=b
   dsimp only
   go_wp2_with fail
   go_ret
   exact Aa d
  ·by_cases ak: 220 < x
   ·go_wp2_with fail
    refine (Jn z a n c _ f.lt.2.2).mono ?_
    rintro r C ⟨y,rfl,⟨al,ao⟩,v,p⟩
    have A:=f.touch p v
    have t:=u.trans (Gk.of_touch p f.lt.2.1.2 f.lt.1.2.2)
    dsimp only
    by_cases hy:y < 0
    ·go_wp2_with fail
     refine (AB A hm 1 (-(y+1)) ⟨#[]⟩ (by omega) (by decide)).mono ?_
     intro r l b
     have d:=Ab (b.back t)
     obtain ⟨⟨o,rfl⟩,-⟩:=b
     dsimp only
     go_wp2_with fail
     go_ret
     exact Aa d
    ·go_wp2_with fail
     refine (AB A hm 1 y ⟨#[]⟩ (by omega) (by decide)).mono ?_
     intro r l b
     have d:=Ab (b.back t)
     obtain ⟨⟨o,rfl⟩,-⟩:=b
     dsimp only
     go_wp2_with fail
     go_ret
     exact Aa d
   ·go_wp2_with fail
    refine (AB f hm 1 (x / 3 % 6) ⟨#[]⟩ (by omega) (by decide)).mono ?_
    intro r l b
    have d:=Ab (b.back u)
    obtain ⟨⟨o,rfl⟩,-⟩:=b
    dsimp only
    go_wp2_with fail
    go_ret
    exact Aa d
  ·by_cases ap: 250 < x
   ·go_wp2_with fail
    refine (AB f hm 2 0 ⟨#[]⟩ (by omega) (by decide)).mono ?_
    intro r l b
    have d:=Ab (b.back u)
    obtain ⟨⟨o,rfl⟩,-⟩:=b
    dsimp only
    go_wp2_with fail
    go_ret
    exact Aa d
   ·go_wp2_with fail
    refine (EU z a n c _ f.lt.2.2).mono ?_
    rintro r C ⟨s,rfl,aq,v,p⟩
    have A:=f.touch p v
    have t:=u.trans (Gk.of_touch p f.lt.2.1.2 f.lt.1.2.2)
    dsimp only
    go_wp2_with fail
    refine (AB A hm 2 0 s (by omega) (by omega)).mono ?_
    intro r l b
    have d:=Ab (b.back t)
    obtain ⟨⟨o,rfl⟩,-⟩:=b
    dsimp only
    go_wp2_with fail
    go_ret
    exact Aa d
  ·go_wp2_with fail
   refine (Jl z a n c _ f.lt.2.2).mono ?_
   rintro r C ⟨K,c5,M,rfl,N,O,v,p⟩
   have t:=u.trans (Gk.of_touch p f.lt.2.1.2 f.lt.1.2.2)
   dsimp only
   go_wp2_with fail
   refine (GU f p v hm M K c5 O N).mono ?_
   intro r l b
   have d:=Ab (b.back t)
   obtain ⟨⟨o,rfl⟩,-⟩:=b
   dsimp only
   go_wp2_with fail
   go_ret
   exact Aa d
end Go.Proofs.YtcpdodmoheebaaaGreatDoor

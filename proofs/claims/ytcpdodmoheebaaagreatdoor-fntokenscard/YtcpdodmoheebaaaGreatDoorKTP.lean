/-
  Drawn texts: the whole draw (written by mkktp.py). Own work.
-/
import Derived.Test.YtcpdodmoheebaaaGreatDoorKTI
import Derived.Test.YtcpdodmoheebaaaGreatDoorKTL
import Derived.Test.YtcpdodmoheebaaaGreatDoorKTN
import Derived.Test.YtcpdodmoheebaaaGreatDoorMXAV
namespace Go.Proofs.YtcpdodmoheebaaaGreatDoor
set_option maxRecDepth 100000
set_option maxHeartbeats 6400000
open Go.RowKit
set_option linter.unusedVariables false
theorem Co.low {w:World}{a:Option Addr}{n c:Nat}{f:List Int}(h:Co w a n c f): 0 < n→∀ d,a=some d→d.block < w.heap.size:=fun h0 d g=>by
 obtain ⟨b,j,k,e,i,_⟩:=h.cells 0 h0
 rw [g] at e
 cases e
 exact i
theorem Rd.newAt {w:World}{a:Option Addr}{n c:Nat}{g:List Int}(h:Co w a n c g)(i:n≤1048576)(p:Nat)(k:p≤n):Rd (w.alloc (.cells #[.slice a n c,.int .i64 (p:Int)] 44)) w.heap.size a n c p:=
 ⟨Ao.new _ _ _,k,i,fun j l=>by
  obtain ⟨b,d,m,o,f,hc,q⟩:=h.cells j l
  exact ⟨b,d,m,o,f,by rw [← hc];exact ((Below.refl w.heap.size w).alloc (Nat.le_refl _) _).cell (p:=⟨b,d+j,none⟩) f,q⟩⟩
def ME:Value→Nat
 | .string s=>s.size
 | _=>0
theorem Ks (a:Option Addr)(n c:Nat)(au:List Int)(w:World)(h:Co w a n c au)(u:n≤1048576):
  Calls Tryz.prog 9 #[.slice a n c] w fun e w'=>(∃ t:ByteArray,e= .returned (.string t)∧t.size≤100000000000)∧Below w.heap.size w w':=by
 have H:=(Below.refl w.heap.size w).alloc (Nat.le_refl _) (.cells #[.slice a n c,.int .i64 0] 44)
 have O:Ba _ w.heap.size a n c:=⟨0,Rd.new h u⟩
 go_enter Tryz.func9,Tryz.ntmps9
 go_wp2_with fail
 generalize w.alloc (.cells #[.slice a n c,.int .i64 0] 44)=av at H O ⊢
 refine (AK _ a n c av O).mono ?_
 rintro e aw ⟨x,rfl,aO,aP,Z,aa⟩
 have P:=Bb H aa (Nat.le_refl _) H.size
 clear O aa H
 dsimp only
 go_wp2_with fail
 refine (Ln _ a n c aw Z).mono ?_
 rintro e aQ ⟨y,rfl,aR,aS,ab,ac,ad⟩
 have ae:=Bb P ad (Nat.le_refl _) P.size
 clear Z ad P
 have ax:=Ab ab
 clear ab
 dsimp only
 go_wp2_with fail
 refine (IJ (B:=w.heap.size) ac (Nat.le_refl _) h.low _).mono ?_
 rintro e Q ⟨⟨nd,aT,N,R,aU,aV,rfl,S,T,good,af,ay,az⟩,b3⟩
 have U:=ae.trans b3
 clear ac ae b3
 obtain ⟨ag,ah,rfl,_⟩:=Av S.own
 obtain ⟨ai,aj,rfl,_⟩:=Av T
 have ak:=Ab (S.nds rfl (by omega) (fun y hy=>⟨(good y hy).1,(good y hy).2.1⟩))
 have al:=Ab (Ez T rfl (by omega) af)
 have V:=Ab (fun y hy=>(good y hy).2.2)
 clear S T good af ay az
 have I:=(Below.refl Q.heap.size Q).alloc (Nat.le_refl _) (.cells #[.slice ag N.length ah,.slice ai R.length aj] 49)
 have J:=Ab ((Aa ak).below I (Nat.le_refl _))
 have W:=Ab ((Aa al).below I (Nat.le_refl _))
 have L:=U.trans (I.mono U.size)
 clear ak al I U
 dsimp only
 go_wp2_with fail
 generalize Q.alloc (.cells #[.slice ag N.length ah,.slice ai R.length aj] 49)=aW at J W L ⊢
 refine (IN _ _ _ _ _ _ N R _ (Aa J) (Aa W) (Aa V)).mono ?_
 rintro e g ⟨⟨v,rfl,ao⟩,b5⟩
 have o:=IM (Aa J) (Aa V) ao
 have d:=L.trans (b5.mono L.size)
 clear ao J W V b5 L
 have h5:=h.below d (Nat.le_refl _)
 dsimp only
 by_cases aX:x % 11=10
 ·skip
  rcases Decidable.em (x % 3=1) with hl | hl
  case' inl=>
   have j:=(Below.refl g.heap.size g).alloc (Nat.le_refl _) (.cells #[.slice a n c,.int .i64 0] 44)
   have l:Ba _ g.heap.size a n c:=⟨0,Rd.new h5 u⟩
   have i:=d.trans (j.mono d.size)
   go_wp2_with fail
   generalize g.alloc (.cells #[.slice a n c,.int .i64 0] 44)=A at l i j ⊢
   refine (CB _ a n c A l v).mono ?_
   rintro e f ⟨p,rfl,C,r⟩
   have b:=Bb i r d.size i.size
   have q:p.size≤30000000000:=by omega
   have h7:=h.below b (Nat.le_refl _)
   clear j l i C r o h5 d
   dsimp only
  case' inr=>
   have M:=beq_eq_false_iff_ne.2 hl
   have b:=d
   have h7:=h5
   have q:=o
   clear d h5 o
   generalize g=f at b h7 ⊢
   generalize v=p at q ⊢
  all_goals
   have s:=(Below.refl f.heap.size f).alloc (Nat.le_refl _) (.cells #[.slice a n c,.int .i64 1] 44)
   have z: 1≤n→Ba _ f.heap.size a n c:=fun D=>⟨1,Rd.newAt h7 u 1 D⟩
   have m:=b.trans (s.mono b.size)
   have F:=b.size
   clear b
   skip
   go_wp2_with fail
   generalize f.alloc (.cells #[.slice a n c,.int .i64 1] 44)=E at m s z ⊢
   have X:(⟨#[32]⟩:ByteArray).size=1:=rfl
   go_loop [7] (fun G=>∃ t:ByteArray,G= .string t∧t.size≤30000000000) (fun G=>4000 - ME G)
   case atStart=>exact ⟨_,rfl,q⟩
   case round=>
    obtain ⟨t,rfl,aA⟩:=hrel
    by_cases aB:t.size < 4000
    ·have aC:(t.size:Int) < 4000:=by omega
     go_wp2_with fail
     refine ⟨⟨_,rfl,?_⟩,?_⟩
     ·rw [Ae,X];omega
     ·show 4000 - (t ++_).size < 4000 - t.size
      rw [Ae,X];omega
    ·have aC: ¬ ((t.size:Int) < 4000):=by omega
     have h4: 4000≤t.size:=by omega
     by_cases hy:y % 2=1
     ·go_wp2_with fail
      go_ret
      exact ⟨⟨_,rfl,by rw [Ae,ByteArray.size_extract,X];omega⟩,m⟩
     ·have aY:=beq_eq_false_iff_ne.2 hy
      go_wp2_with fail
      go_ret
      exact ⟨⟨_,rfl,by rw [ByteArray.size_extract];omega⟩,m⟩
 ·by_cases aZ:x % 13=12
  ·skip
   rcases Decidable.em (x % 3=1) with hl | hl
   case' inl=>
    have j:=(Below.refl g.heap.size g).alloc (Nat.le_refl _) (.cells #[.slice a n c,.int .i64 0] 44)
    have l:Ba _ g.heap.size a n c:=⟨0,Rd.new h5 u⟩
    have i:=d.trans (j.mono d.size)
    go_wp2_with fail
    generalize g.alloc (.cells #[.slice a n c,.int .i64 0] 44)=A at l i j ⊢
    refine (CB _ a n c A l v).mono ?_
    rintro e f ⟨p,rfl,C,r⟩
    have b:=Bb i r d.size i.size
    have q:p.size≤30000000000:=by omega
    have h7:=h.below b (Nat.le_refl _)
    clear j l i C r o h5 d
    dsimp only
   case' inr=>
    have M:=beq_eq_false_iff_ne.2 hl
    have b:=d
    have h7:=h5
    have q:=o
    clear d h5 o
    generalize g=f at b h7 ⊢
    generalize v=p at q ⊢
   all_goals
    have s:=(Below.refl f.heap.size f).alloc (Nat.le_refl _) (.cells #[.slice a n c,.int .i64 1] 44)
    have z: 1≤n→Ba _ f.heap.size a n c:=fun D=>⟨1,Rd.newAt h7 u 1 D⟩
    have m:=b.trans (s.mono b.size)
    have F:=b.size
    clear b
    skip
    go_wp2_with fail
    generalize f.alloc (.cells #[.slice a n c,.int .i64 1] 44)=E at m s z ⊢
    have aD:(⟨#[119,104,101,110,32,97,115,107,101,100,32,61,61,32,123,34]⟩:ByteArray).size=16:=rfl
    have aE:(⟨#[34,125,32,61,62,32,100,101,110,121,59,32,101,108,115,101,32,100,101,110,121,59]⟩:ByteArray).size=22:=rfl
    refine (EV _ _ E (by omega) (by omega) (by omega) (by omega)).mono ?_
    rintro e aF ⟨a0,a1,K,rfl,a2,ap,aq⟩
    have aG:=m.trans (aq.mono m.size)
    clear aq
    dsimp only
    go_wp2_with fail
    refine (JR _ _ _ K aF ap.strs (by omega) ap.small _ (by decide)).mono ?_
    rintro e aH ⟨⟨aI,rfl,aJ⟩,ar⟩
    rw [ar]
    clear ar
    dsimp only
    go_wp2_with fail
    go_ret
    exact ⟨⟨_,rfl,by simp only [Ae,aD,aE];omega⟩,aG⟩
  ·by_cases a3:x % 17=16
   ·skip
    rcases Decidable.em (x % 3=1) with hl | hl
    case' inl=>
     have j:=(Below.refl g.heap.size g).alloc (Nat.le_refl _) (.cells #[.slice a n c,.int .i64 0] 44)
     have l:Ba _ g.heap.size a n c:=⟨0,Rd.new h5 u⟩
     have i:=d.trans (j.mono d.size)
     go_wp2_with fail
     generalize g.alloc (.cells #[.slice a n c,.int .i64 0] 44)=A at l i j ⊢
     refine (CB _ a n c A l v).mono ?_
     rintro e f ⟨p,rfl,C,r⟩
     have b:=Bb i r d.size i.size
     have q:p.size≤30000000000:=by omega
     have h7:=h.below b (Nat.le_refl _)
     clear j l i C r o h5 d
     dsimp only
    case' inr=>
     have M:=beq_eq_false_iff_ne.2 hl
     have b:=d
     have h7:=h5
     have q:=o
     clear d h5 o
     generalize g=f at b h7 ⊢
     generalize v=p at q ⊢
    all_goals
     have s:=(Below.refl f.heap.size f).alloc (Nat.le_refl _) (.cells #[.slice a n c,.int .i64 1] 44)
     have z: 1≤n→Ba _ f.heap.size a n c:=fun D=>⟨1,Rd.newAt h7 u 1 D⟩
     have m:=b.trans (s.mono b.size)
     have F:=b.size
     clear b
     skip
     go_wp2_with fail
     generalize f.alloc (.cells #[.slice a n c,.int .i64 1] 44)=E at m s z ⊢
     have aK:(⟨#[110,111,116,32]⟩:ByteArray).size=4:=rfl
     have aL:(⟨#[116,114,117,101,32,61,62,32,100,101,110,121,59,32,101,108,115,101,32,103,114,97,110,116,32,97,115,107,101,100,59]⟩:ByteArray).size=31:=rfl
     go_loop [7,10] (fun G Y=>∃ (k:Nat) (t:ByteArray),G= .string t∧Y= .int .i64 k∧k≤70∧t.size≤5+4 * k) (fun _ Y=>100 - (intOf Y).toNat)
     case atStart=>exact ⟨1,_,rfl,rfl,by omega,by decide⟩
     case round=>
      obtain ⟨k,t,rfl,rfl,a4,aA⟩:=hrel
      by_cases aB:(k:Int) < 62+y % 4
      ·go_wp2_with fail
       refine ⟨⟨k+1,_,rfl,by go_num,?_,?_⟩,?_⟩
       ·omega
       ·rw [Ae,aK];omega
       ·simp [intOf];omega
      ·go_wp2_with fail
       go_ret
       exact ⟨⟨_,rfl,by rw [Ae,aL];omega⟩,m⟩
   ·by_cases a5:y % 5=4
    ·skip
     rcases Decidable.em (x % 3=1) with hl | hl
     case' inl=>
      have j:=(Below.refl g.heap.size g).alloc (Nat.le_refl _) (.cells #[.slice a n c,.int .i64 0] 44)
      have l:Ba _ g.heap.size a n c:=⟨0,Rd.new h5 u⟩
      have i:=d.trans (j.mono d.size)
      go_wp2_with fail
      generalize g.alloc (.cells #[.slice a n c,.int .i64 0] 44)=A at l i j ⊢
      refine (CB _ a n c A l v).mono ?_
      rintro e f ⟨p,rfl,C,r⟩
      have b:=Bb i r d.size i.size
      have q:p.size≤30000000000:=by omega
      have h7:=h.below b (Nat.le_refl _)
      clear j l i C r o h5 d
      dsimp only
     case' inr=>
      have M:=beq_eq_false_iff_ne.2 hl
      have b:=d
      have h7:=h5
      have q:=o
      clear d h5 o
      generalize g=f at b h7 ⊢
      generalize v=p at q ⊢
     all_goals
      have s:=(Below.refl f.heap.size f).alloc (Nat.le_refl _) (.cells #[.slice a n c,.int .i64 1] 44)
      have z: 1≤n→Ba _ f.heap.size a n c:=fun D=>⟨1,Rd.newAt h7 u 1 D⟩
      have m:=b.trans (s.mono b.size)
      have F:=b.size
      clear b
      skip
      go_wp2_with fail
      generalize f.alloc (.cells #[.slice a n c,.int .i64 1] 44)=E at m s z ⊢
      refine (JP _ a n c E (z (by have:=Aa ax;omega)) p (by omega)).mono ?_
      rintro e aH ⟨aI,rfl,aJ,aM⟩
      have aN:=Bb m aM F m.size
      dsimp only
      go_wp2_with fail
      go_ret
      exact ⟨⟨_,rfl,by omega⟩,aN⟩
    ·skip
     rcases Decidable.em (x % 3=1) with hl | hl
     case' inl=>
      have j:=(Below.refl g.heap.size g).alloc (Nat.le_refl _) (.cells #[.slice a n c,.int .i64 0] 44)
      have l:Ba _ g.heap.size a n c:=⟨0,Rd.new h5 u⟩
      have i:=d.trans (j.mono d.size)
      go_wp2_with fail
      generalize g.alloc (.cells #[.slice a n c,.int .i64 0] 44)=A at l i j ⊢
      refine (CB _ a n c A l v).mono ?_
      rintro e f ⟨p,rfl,C,r⟩
      have b:=Bb i r d.size i.size
      have q:p.size≤30000000000:=by omega
      have h7:=h.below b (Nat.le_refl _)
      clear j l i C r o h5 d
      dsimp only
     case' inr=>
      have M:=beq_eq_false_iff_ne.2 hl
      have b:=d
      have h7:=h5
      have q:=o
      clear d h5 o
      generalize g=f at b h7 ⊢
      generalize v=p at q ⊢
     all_goals
      have s:=(Below.refl f.heap.size f).alloc (Nat.le_refl _) (.cells #[.slice a n c,.int .i64 1] 44)
      have z: 1≤n→Ba _ f.heap.size a n c:=fun D=>⟨1,Rd.newAt h7 u 1 D⟩
      have m:=b.trans (s.mono b.size)
      have F:=b.size
      clear b
      skip
      go_wp2_with fail
      generalize f.alloc (.cells #[.slice a n c,.int .i64 1] 44)=E at m s z ⊢
      go_ret
      exact ⟨⟨_,rfl,by omega⟩,m⟩
theorem Gw (a:Option Addr)(n c:Nat)(b:List Int)(w:World)(h:Co w a n c b)(d:n≤1048576):
  Calls Tryz.prog 4 #[.slice a n c] w fun e w'=>(∃ t:ByteArray,e= .returned (.string t)∧t.size≤100000000000)∧Below w.heap.size w w':=by
 go_enter Tryz.func4,Tryz.ntmps4
 go_wp2_with fail
 refine (Ks a n c b w h d).mono ?_
 rintro e i ⟨⟨t,rfl,f⟩,g⟩
 dsimp only
 go_wp2_with fail
 go_ret
 exact ⟨⟨_,rfl,f⟩,g⟩
end Go.Proofs.YtcpdodmoheebaaaGreatDoor

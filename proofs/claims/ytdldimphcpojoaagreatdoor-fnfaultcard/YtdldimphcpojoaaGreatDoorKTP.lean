/-
  Drawn texts: the whole draw (written by mkktp.py). Own work.
-/
import Derived.Test.YtdldimphcpojoaaGreatDoorKTI
import Derived.Test.YtdldimphcpojoaaGreatDoorMXAU
import Derived.Test.YtdldimphcpojoaaGreatDoorKTN
import Derived.Test.YtdldimphcpojoaaGreatDoorMXAZ
namespace Go.Proofs.YtdldimphcpojoaaGreatDoor
set_option maxRecDepth 100000
set_option maxHeartbeats 6400000
open Go.RowKit
set_option linter.unusedVariables false
theorem EU.low {w:World}{a:Option Addr}{n c:Nat}{d:List Int}(h:EU w a n c d): 0 < n→∀ q,a=some q→q.block < w.heap.size:=fun h0 q hq=>by
 obtain ⟨b,g,i,e,f,_⟩:=h.cells 0 h0;rw[hq] at e;cases e;exact f
theorem Rd.newAt {w:World}{a:Option Addr}{n c:Nat}{g:List Int}(h:EU w a n c g)(i:n≤1048576)(p:Nat)(k:p≤n):Rd (w.alloc (.cells #[.slice a n c,.int .i64 (p:Int)] 61)) w.heap.size a n c p:=
 ⟨An.new _ _ _,k,i,fun j l=>by
  obtain ⟨b,d,m,o,f,hc,q⟩:=h.cells j l;exact ⟨b,d,m,o,f,by rw[← hc];exact ((Below.refl w.heap.size w).alloc NLN _).cell (p:=⟨b,d+j,none⟩) f,q⟩⟩
def YY:Value→Nat
 | .string s=>s.size
 | _=>0
theorem UB (a:Option Addr)(n c:Nat)(au:List Int)(w:World)(h:EU w a n c au)(z:n≤1048576):
  Calls Tryz.prog 8 #[.slice a n c] w fun e w'=>(∃ t:ByteArray,e= .returned (.string t)∧t.size≤100000000000)∧Below w.heap.size w w':=by
 have J:=(Below.refl w.heap.size w).alloc NLN (.cells #[.slice a n c,.int .i64 0] 61);have Q:Cr _ w.heap.size a n c:=⟨0,Rd.new h z⟩
 go_enter Tryz.func8,Tryz.ntmps8
 go_wp2_with fail
 generalize w.alloc (.cells #[.slice a n c,.int .i64 0] 61)=av at J Q ⊢;refine (BA _ a n c av Q).mono ?_;rintro e aw ⟨x,rfl,aO,aP,aa,ab⟩;have R:=BR J ab NLN J.size;clear Q ab J;dsimp only;go_wp2_with fail
 refine (WR _ a n c aw aa).mono ?_;rintro e aQ ⟨y,rfl,aR,aS,ac,ad,ae⟩;have af:=BR R ae NLN R.size;clear aa ae R;have ax:=Ab ac;clear ac;dsimp only;go_wp2_with fail
 refine (OY (B:=w.heap.size) ad NLN h.low _).mono ?_;rintro e T ⟨⟨nd,aT,N,S,aU,aV,rfl,U,V,good,ag,ay,az⟩,b3⟩;have W:=af.trans b3;clear ad af b3;obtain ⟨ah,ai,rfl,_⟩:=Ah U.own;obtain ⟨aj,cs,rfl,_⟩:=Ah V;have ak:=Ab (U.nds rfl (by omega) (fun y hy=>⟨(good y hy).1,(good y hy).2.1⟩));have al:=Ab (JK V rfl (by omega) ag);have X:=Ab (fun y hy=>(good y hy).2.2);clear U V good ag ay az;have L:=(Below.refl T.heap.size T).alloc NLN (.cells #[.slice ah N.length ai,.slice aj S.length cs] 27);have M:=Ab ((Aa ak).below L NLN);have Y:=Ab ((Aa al).below L NLN);have O:=W.trans (L.mono W.size);clear ak al L W;dsimp only;go_wp2_with fail
 generalize T.alloc (.cells #[.slice ah N.length ai,.slice aj S.length cs] 27)=aW at M Y O ⊢;refine (Q9 _ _ _ _ _ _ N S _ (Aa M) (Aa Y) (Aa X)).mono ?_;rintro e g ⟨⟨A,rfl,ao⟩,b5⟩;have p:=Q8 (Aa M) (Aa X) ao;have d:=O.trans (b5.mono O.size);clear ao M Y X b5 O;have h5:=h.below d NLN;dsimp only;by_cases aX:x % 11=10
 ·skip;rcases Decidable.em (x % 3=1) with hl | hl
  case' inl=>
   have l:=(Below.refl g.heap.size g).alloc NLN (.cells #[.slice a n c,.int .i64 0] 61);have m:Cr _ g.heap.size a n c:=⟨0,Rd.new h5 z⟩
   have j:=d.trans (l.mono d.size);go_wp2_with fail
   generalize g.alloc (.cells #[.slice a n c,.int .i64 0] 61)=E at m j l ⊢;refine (Fu _ a n c E m A).mono ?_;rintro e f ⟨q,rfl,F,s⟩;have b:=BR j s d.size j.size;have r:q.size≤30000000000:=by omega
   have h7:=h.below b NLN;clear l m j F s p h5 d;dsimp only
  case' inr=>
   have P:=beq_eq_false_iff_ne.2 hl;have b:=d;have h7:=h5;have r:=p;clear d h5 p;generalize g=f at b h7 ⊢;generalize A=q at r ⊢
  all_goals
   have u:=(Below.refl f.heap.size f).alloc NLN (.cells #[.slice a n c,.int .i64 1] 61);have C: 1≤n→Cr _ f.heap.size a n c:=fun hq=>⟨1,Rd.newAt h7 z 1 hq⟩
   have o:=b.trans (u.mono b.size);have I:=b.size;clear b;skip;go_wp2_with fail
   generalize f.alloc (.cells #[.slice a n c,.int .i64 1] 61)=H at o u C ⊢;have Z:(⟨#[32]⟩:ByteArray).size=1:=rfl;go_loop [7] (fun v=>∃ t:ByteArray,v= .string t∧t.size≤30000000000) (fun v=>4000 - YY v)
   case atStart=>exact ⟨_,rfl,r⟩
   case round=>
    obtain ⟨t,rfl,aA⟩:=hrel;by_cases aB:t.size < 4000
    ·have aC:(t.size:Int) < 4000:=by omega
     go_wp2_with fail
     refine ⟨⟨_,rfl, ?_⟩, ?_⟩
     ·rw[Ao,Z];omega
     ·show 4000 - (t ++_).size < 4000 - t.size;rw[Ao,Z];omega
    ·have aC: ¬ ((t.size:Int) < 4000):=by omega
     have h4: 4000≤t.size:=by omega
     by_cases hy:y % 2=1
     ·go_wp2_with fail
      go_ret
      exact ⟨⟨_,rfl,by rw[Ao,ByteArray.size_extract,Z];omega⟩,o⟩
     ·have aY:=beq_eq_false_iff_ne.2 hy;go_wp2_with fail
      go_ret
      exact ⟨⟨_,rfl,by rw[ByteArray.size_extract];omega⟩,o⟩
 ·by_cases aZ:x % 13=12
  ·skip;rcases Decidable.em (x % 3=1) with hl | hl
   case' inl=>
    have l:=(Below.refl g.heap.size g).alloc NLN (.cells #[.slice a n c,.int .i64 0] 61);have m:Cr _ g.heap.size a n c:=⟨0,Rd.new h5 z⟩
    have j:=d.trans (l.mono d.size);go_wp2_with fail
    generalize g.alloc (.cells #[.slice a n c,.int .i64 0] 61)=E at m j l ⊢;refine (Fu _ a n c E m A).mono ?_;rintro e f ⟨q,rfl,F,s⟩;have b:=BR j s d.size j.size;have r:q.size≤30000000000:=by omega
    have h7:=h.below b NLN;clear l m j F s p h5 d;dsimp only
   case' inr=>
    have P:=beq_eq_false_iff_ne.2 hl;have b:=d;have h7:=h5;have r:=p;clear d h5 p;generalize g=f at b h7 ⊢;generalize A=q at r ⊢
   all_goals
    have u:=(Below.refl f.heap.size f).alloc NLN (.cells #[.slice a n c,.int .i64 1] 61);have C: 1≤n→Cr _ f.heap.size a n c:=fun hq=>⟨1,Rd.newAt h7 z 1 hq⟩
    have o:=b.trans (u.mono b.size);have I:=b.size;clear b;skip;go_wp2_with fail
    generalize f.alloc (.cells #[.slice a n c,.int .i64 1] 61)=H at o u C ⊢;have aD:(⟨#[119,104,101,110,32,97,115,107,101,100,32,61,61,32,123,34]⟩:ByteArray).size=16:=rfl;have aE:(⟨#[34,125,32,61,62,32,100,101,110,121,59,32,101,108,115,101,32,100,101,110,121,59]⟩:ByteArray).size=22:=rfl;refine (Ki _ _ H (by omega) (by omega) (by omega) (by omega)).mono ?_;rintro e aF ⟨a0,a1,K,rfl,a2,ap,aq⟩;have aG:=o.trans (aq.mono o.size);clear aq;dsimp only;go_wp2_with fail
    refine (TU _ _ _ K aF ap.strs (by omega) ap.small _ (by decide)).mono ?_;rintro e aH ⟨⟨aI,rfl,aJ⟩,ar⟩;rw[ar];clear ar;dsimp only;go_wp2_with fail
    go_ret
    exact ⟨⟨_,rfl,by simp only[Ao,aD,aE];omega⟩,aG⟩
  ·by_cases a3:x % 17=16
   ·skip;rcases Decidable.em (x % 3=1) with hl | hl
    case' inl=>
     have l:=(Below.refl g.heap.size g).alloc NLN (.cells #[.slice a n c,.int .i64 0] 61);have m:Cr _ g.heap.size a n c:=⟨0,Rd.new h5 z⟩
     have j:=d.trans (l.mono d.size);go_wp2_with fail
     generalize g.alloc (.cells #[.slice a n c,.int .i64 0] 61)=E at m j l ⊢;refine (Fu _ a n c E m A).mono ?_;rintro e f ⟨q,rfl,F,s⟩;have b:=BR j s d.size j.size;have r:q.size≤30000000000:=by omega
     have h7:=h.below b NLN;clear l m j F s p h5 d;dsimp only
    case' inr=>
     have P:=beq_eq_false_iff_ne.2 hl;have b:=d;have h7:=h5;have r:=p;clear d h5 p;generalize g=f at b h7 ⊢;generalize A=q at r ⊢
    all_goals
     have u:=(Below.refl f.heap.size f).alloc NLN (.cells #[.slice a n c,.int .i64 1] 61);have C: 1≤n→Cr _ f.heap.size a n c:=fun hq=>⟨1,Rd.newAt h7 z 1 hq⟩
     have o:=b.trans (u.mono b.size);have I:=b.size;clear b;skip;go_wp2_with fail
     generalize f.alloc (.cells #[.slice a n c,.int .i64 1] 61)=H at o u C ⊢;have aK:(⟨#[110,111,116,32]⟩:ByteArray).size=4:=rfl;have aL:(⟨#[116,114,117,101,32,61,62,32,100,101,110,121,59,32,101,108,115,101,32,103,114,97,110,116,32,97,115,107,101,100,59]⟩:ByteArray).size=31:=rfl;go_loop [7,10] (fun v i=>∃ (k:Nat) (t:ByteArray),v= .string t∧i= .int .i64 k∧k≤70∧t.size≤5+4 * k) (fun _ i=>100 - (intOf i).toNat)
     case atStart=>exact ⟨1,_,rfl,rfl,by omega,by decide⟩
     case round=>
      obtain ⟨k,t,rfl,rfl,hk,aA⟩:=hrel;by_cases aB:(k:Int) < 62+y % 4
      ·go_wp2_with fail
       refine ⟨⟨k+1,_,rfl,by go_num, ?_, ?_⟩, ?_⟩
       ·omega
       ·rw[Ao,aK];omega
       ·simp[intOf];omega
      ·go_wp2_with fail
       go_ret
       exact ⟨⟨_,rfl,by rw[Ao,aL];omega⟩,o⟩
   ·by_cases a4:y % 5=4
    ·skip;rcases Decidable.em (x % 3=1) with hl | hl
     case' inl=>
      have l:=(Below.refl g.heap.size g).alloc NLN (.cells #[.slice a n c,.int .i64 0] 61);have m:Cr _ g.heap.size a n c:=⟨0,Rd.new h5 z⟩
      have j:=d.trans (l.mono d.size);go_wp2_with fail
      generalize g.alloc (.cells #[.slice a n c,.int .i64 0] 61)=E at m j l ⊢;refine (Fu _ a n c E m A).mono ?_;rintro e f ⟨q,rfl,F,s⟩;have b:=BR j s d.size j.size;have r:q.size≤30000000000:=by omega
      have h7:=h.below b NLN;clear l m j F s p h5 d;dsimp only
     case' inr=>
      have P:=beq_eq_false_iff_ne.2 hl;have b:=d;have h7:=h5;have r:=p;clear d h5 p;generalize g=f at b h7 ⊢;generalize A=q at r ⊢
     all_goals
      have u:=(Below.refl f.heap.size f).alloc NLN (.cells #[.slice a n c,.int .i64 1] 61);have C: 1≤n→Cr _ f.heap.size a n c:=fun hq=>⟨1,Rd.newAt h7 z 1 hq⟩
      have o:=b.trans (u.mono b.size);have I:=b.size;clear b;skip;go_wp2_with fail
      generalize f.alloc (.cells #[.slice a n c,.int .i64 1] 61)=H at o u C ⊢;refine (TR _ a n c H (C (by have:=Aa ax;omega)) q (by omega)).mono ?_;rintro e aH ⟨aI,rfl,aJ,aM⟩;have aN:=BR o aM I o.size;dsimp only;go_wp2_with fail
      go_ret
      exact ⟨⟨_,rfl,by omega⟩,aN⟩
    ·skip;rcases Decidable.em (x % 3=1) with hl | hl
     case' inl=>
      have l:=(Below.refl g.heap.size g).alloc NLN (.cells #[.slice a n c,.int .i64 0] 61);have m:Cr _ g.heap.size a n c:=⟨0,Rd.new h5 z⟩
      have j:=d.trans (l.mono d.size);go_wp2_with fail
      generalize g.alloc (.cells #[.slice a n c,.int .i64 0] 61)=E at m j l ⊢;refine (Fu _ a n c E m A).mono ?_;rintro e f ⟨q,rfl,F,s⟩;have b:=BR j s d.size j.size;have r:q.size≤30000000000:=by omega
      have h7:=h.below b NLN;clear l m j F s p h5 d;dsimp only
     case' inr=>
      have P:=beq_eq_false_iff_ne.2 hl;have b:=d;have h7:=h5;have r:=p;clear d h5 p;generalize g=f at b h7 ⊢;generalize A=q at r ⊢
     all_goals
      have u:=(Below.refl f.heap.size f).alloc NLN (.cells #[.slice a n c,.int .i64 1] 61);have C: 1≤n→Cr _ f.heap.size a n c:=fun hq=>⟨1,Rd.newAt h7 z 1 hq⟩
      have o:=b.trans (u.mono b.size);have I:=b.size;clear b;skip;go_wp2_with fail
      generalize f.alloc (.cells #[.slice a n c,.int .i64 1] 61)=H at o u C ⊢;go_ret
      exact ⟨⟨_,rfl,by omega⟩,o⟩
end Go.Proofs.YtdldimphcpojoaaGreatDoor

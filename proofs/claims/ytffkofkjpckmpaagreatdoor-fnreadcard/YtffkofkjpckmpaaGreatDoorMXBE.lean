/-
  FRC, KTL, KTM, KTN, PPE, SN, SPA, SPB. Own work.
-/
import Derived.Test.YtffkofkjpckmpaaGreatDoorMXAZ
import Derived.Test.YtffkofkjpckmpaaGreatDoorMXBH
import Derived.Test.YtffkofkjpckmpaaGreatDoorMXBA
import Derived.Test.YtffkofkjpckmpaaGreatDoorMXBI
import Derived.Test.YtffkofkjpckmpaaGreatDoorMXBN
import Derived.Test.YtffkofkjpckmpaaGreatDoorMXAD
import Derived.Test.YtffkofkjpckmpaaGreatDoorMXAF
import Derived.Test.YtffkofkjpckmpaaGreatDoorMXAO
import Derived.Test.YtffkofkjpckmpaaGreatDoorMXAA
namespace Go.Proofs.YtffkofkjpckmpaaGreatDoor
open Go.RowKit
set_option linter.unusedVariables false
def Pt.ne:Pt→Prop
 | .set _ ss=>∀ s∈ss,s≠AB []
 | .un _ _ k=>k.ne
 | .bin _ _ l r=>l.ne∧r.ne
 | .ite _ c t e=>c.ne∧t.ne∧e.ne
 |_=>True
def NT.ne:NT→Prop
 | .more _ e=>e.ne
 |_=>True
def PR.ne:PR→Prop
 | .ok e _=>e.ne
 | .bad _=>True
theorem XZ:∀ (ts:List Ae) (a:List ByteArray),(∀ s∈a,s≠AB [])→∀ s∈(GO ts a).1,s≠AB []
 | [],a,h=>h
 | [t],a,h=>by
  rw[GO];split
  ·rename_i ht;intro s hs;rcases zH.1 hs with hs | hs
   ·exact h s hs
   ·rw[zJ.1 hs];exact ht.2
  ·exact h
 |t ::c ::q,a,h=>by
  rw[GO];have b:FU t→∀ s∈a ++ [t.text],s≠AB []:=fun ht s hs=>by
   rcases zH.1 hs with hs | hs
   ·exact h s hs
   ·rw[zJ.1 hs];exact ht.2
  split
  ·rename_i ht;split
   ·exact XZ q _ (b ht)
   ·exact b ht
  ·exact h
theorem AbM (ts:List Ae):∀ s∈(Ga ts).1,s≠AB []:=by
 rw[Ga];split
 ·intro s hs;cases hs
 ·exact XZ ts [] (fun s hs=>by cases hs)
theorem D.ne {nt:NT}{ts:List Ae}{x:PR}(d:D nt ts x):nt.ne→x.ne:=by
 induction d with
 |@set t u r q f h hs hq=>intro _;have:=AbM r;rw[hs] at this;exact this
 |expr_if h d1 d2 d3 a b c=>intro _;exact ⟨a trivial,b trivial,c trivial⟩
 |chain d d2 a b=>intro _;exact b (a trivial)
 |more_no h=>intro h;exact h
 |more h d d2 a b=>intro h;exact b ⟨h,a trivial⟩
 |cmp_one d h i=>intro _;exact i trivial
 |cmp_two d h d2 a b=>intro _;exact ⟨a trivial,b trivial⟩
 |beh h d i=>intro _;exact i trivial
 |expr_no h d i=>intro _;exact i trivial
 |opd1 d i=>intro _;exact i trivial
 |opd2 d i=>intro _;exact i trivial
 |opd4 d i=>intro _;exact i trivial
 |opd5 d i=>intro _;exact i trivial
 |opd6 d i=>intro _;exact i trivial
 |neg_no h d i=>intro _;exact i trivial
 |neg h d i=>intro _;exact i trivial
 |una_no h d i=>intro _;exact i trivial
 |una h d i=>intro _;exact i trivial
 |size h d i=>intro _;exact i trivial
 |par h d i=>intro _;exact i trivial
 |encl d h i=>intro _;exact i trivial
 |_=>intro _;exact trivial
def neO:Option Pt→Prop
 |none=>True
 |some p=>p.ne
theorem DD.ne {s:List UInt8}{ts:List Ae}{x:DR}(d:DD s ts x){g:Option Pt}{r:List Ae}(hx:x= .ok g r):neO g:=by
 cases d with
 |no h=>cases hx
 |deny h hu=>cases hx;exact trivial
 |grant h hu d=>cases hx;exact d.ne trivial
 |grant_bad=>cases hx
def Ps.good (s:Ps):Prop:=neO s.cond∧neO s.grant∧((s.kind=1∧s.cond≠none∧s.grant=none)∨(s.kind=2∧s.cond≠none∧s.name=AB [])∨(s.kind=3∧s.cond=none∧s.name=AB []))
theorem DS.good {ts:List Ae}{x:SR}(d:DS ts x){s:Ps}{r:List Ae}(hx:x= .ok s r):s.good:=by
 cases d with
 |let_ h a d hq=>cases hx;exact ⟨d.ne trivial,trivial,.inl ⟨rfl,by simp,rfl⟩⟩
 |when h d d2 hq=>cases hx;exact ⟨d.ne trivial,d2.ne rfl,.inr (.inl ⟨rfl,by simp,rfl⟩)⟩
 |else_ h d hq=>cases hx;exact ⟨trivial,d.ne rfl,.inr (.inr ⟨rfl,rfl,rfl⟩)⟩
 |_=>cases hx
def Vs:List Ps→Prop
 | []=>False
 | [s]=>s.kind=3
 |s ::t ::S=>s.kind≠3∧Vs (t ::S)
theorem DP.good {ts:List Ae}{x:QR}(d:DP ts x):∀ S,x= .ok S→(∀ s∈S,s.good)∧Vs S:=by
 induction d with
 |bad=>intro S h;cases h
 |over=>intro S h;cases h
 |@more ts r s x d hk d2 a=>
  intro S h;cases x with
  |bad q=>cases h
  |ok T=>
   cases h;obtain ⟨h1,h2⟩:=a T rfl;refine ⟨fun y hy=>?_, ?_⟩
   ·rcases zG.1 hy with rfl | hy
    ·exact d.good rfl
    ·exact h1 y hy
   ·cases T with
    |nil=>exact h2.elim
    |cons t T=>exact ⟨hk,h2⟩
 |last d hk=>
  intro S h;cases h;exact ⟨fun y hy=>by rw[zJ.1 hy];exact d.good rfl,hk⟩
set_option maxRecDepth 100000
set_option maxHeartbeats 6400000
def VR:Array Value:=#[.string ⟨#[]⟩,.string ⟨#[33]⟩,.string ⟨#[65]⟩,.string ⟨#[64]⟩,.string ⟨#[61,61]⟩,.string ⟨#[110,111,116,32]⟩,.string ⟨#[105,102,32]⟩,.string ⟨#[32,116,104,101,110,32]⟩,.string ⟨#[34]⟩,.string ⟨#[34,34]⟩,.string ⟨#[40]⟩,.string ⟨#[41]⟩,.string ⟨#[59]⟩,.string ⟨#[123]⟩,.string ⟨#[44]⟩,.string ⟨#[57,57,57,57,57,57,57,57,57,57,57,57,57,57,57,57,57,57,57,57]⟩,.string ⟨#[57,50,50,51,51,55,50,48,51,54,56,53,52,55,55,53,56,48,56]⟩,.string ⟨#[55,97,32]⟩,.string ⟨#[100,101,110,121]⟩,.string ⟨#[61,62]⟩,.string ⟨#[45]⟩,.string ⟨#[115,105,122,101]⟩,.string ⟨#[97,95,110,97,109,101,95,116,104,97,116,95,105,115,95,108,111,110,103,101,114,95,116,104,97,110,95,51,50,95,98,121,116,101,115]⟩,.string ⟨#[101,108,115,101]⟩]
theorem Si (w:World)(k:Nat)(hk:k < 24):∃ s:ByteArray,s.size≤40∧(w.alloc (.cells VR 9)).cell? ⟨w.heap.size,k,none⟩=some (.string s):=by
 have h:=(Am.new w VR 9).cell k;have a:∀ k < 24,∃ s:ByteArray,s.size≤40∧VR[k]? =some (.string s):=by
  intro k hk;have hs:k=0∨k=1∨k=2∨k=3∨k=4∨k=5∨k=6∨k=7∨k=8∨k=9∨k=10∨k=11∨k=12∨k=13∨k=14∨k=15∨k=16∨k=17∨k=18∨k=19∨k=20∨k=21∨k=22∨k=23:=by omega
  rcases hs with rfl | rfl | rfl | rfl | rfl | rfl | rfl | rfl | rfl | rfl | rfl | rfl | rfl | rfl | rfl | rfl | rfl | rfl | rfl | rfl | rfl | rfl | rfl | rfl
  all_goals exact ⟨_,by decide,rfl⟩
 obtain ⟨s,h1,h2⟩:=a k hk;exact ⟨s,h1,h.trans h2⟩
theorem Xc (R:Nat)(a:Option Addr)(n c:Nat)(w:World)(h:CE w R a n c)(s:ByteArray)(hs:s.size≤100000000000):
  Calls Tryz.prog 32 #[.pointer (some ⟨R,0,none⟩),.string s] w fun e w'=>∃ t:ByteArray,e= .returned (.string t)∧t.size≤s.size+100∧Ak R (R+1) w w':=by
 go_enter Tryz.func32,Tryz.ntmps32
 go_wp2_with fail
 refine (BJ R a n c w h).mono ?_;rintro e T ⟨x,rfl,z,A,h1,q⟩;clear h;dsimp only;by_cases B: 0 < s.size
 ·have C:(0 :Int) < (s.size:Int):=by omega
  go_wp2_with fail
  refine (BJ R a n c T h1).mono ?_;rintro e Y ⟨y,rfl,O,P,h2,E⟩;have U:=q.trans E;clear h1 q E;dsimp only;have V:=Int.emod_nonneg (x * 256+y) (show (s.size:Int)≠0 by omega);have L:=Int.emod_lt_of_pos (x * 256+y) C;go_wp2_with fail
  refine (BJ R a n c Y h2).mono ?_;rintro e f ⟨l,rfl,r,u,h3,m⟩;have i:=U.trans m;clear h2 U m;dsimp only;obtain ⟨j,W⟩:=Int.eq_ofNat_of_zero_le V;rw[W] at L ⊢;clear W V C;have Q:j < s.size:=by omega
  obtain ⟨b,v,o⟩:=Si f (l % 24).toNat (by omega);unfold VR at o;by_cases S: 128≤l
  ·by_cases ab:(s.size:Int) < (j:Int)+1+l % 3
   ·skip;have p:(s.extract 0 j).size≤s.size:=by rw[zt];omega
    have q2:(s.extract s.size s.size).size≤s.size:=by rw[zt];omega
    have q3: ¬ (9223372036854775807 < (s.extract 0 j).size+b.size):=by omega
    have F: ¬ (9223372036854775807 < j+b.size):=by omega
    have H: ¬ (9223372036854775807 < j+b.size+(s.size - s.size)):=by omega
    have q5: ¬ (9223372036854775807 < (s.extract 0 j ++b).size+(s.extract s.size s.size).size):=by rw[Ar];omega
    have q4:(s.extract 0 j ++b).size≤s.size+100:=by simp only[Ar,zt];omega
    have I:j≤s.size:=by omega
    have J:s.size≤s.size:=by omega
    have d:=i.then_below ((Below.refl f.heap.size f).alloc NLN (.cells VR 9)) i.size;go_wp2_with fail
    unfold VR at d;generalize M:f.alloc (.cells _ 9)=N at d ⊢;clear o;skip;have g:=Ab (And.intro q4 d);clear q4 d;go_region
    clear p q2 q3 F q5 H I J;generalize s.extract 0 j ++b=t at g ⊢;generalize s.extract 0 j ++b=q;generalize s.extract 0 j=E;generalize s.extract s.size s.size=m;clear Q L B hs v r u z A O P h3 i;go_wp2_with fail
    go_ret
    exact ⟨_,rfl,(Aa g).1,(Aa g).2.trans (Ak.drewN _ _)⟩
   ·obtain ⟨k,X⟩:∃ k:Nat,(j:Int)+1+l % 3=(k:Int):=⟨(j+1+(l % 3).toNat),by omega⟩
    have ac:k≤s.size:=by omega
    have ad:j≤k:=by omega
    have Z:=Ab X;clear X;have p:(s.extract 0 j).size≤s.size:=by rw[zt];omega
    have q2:(s.extract k s.size).size≤s.size:=by rw[zt];omega
    have q3: ¬ (9223372036854775807 < (s.extract 0 j).size+b.size):=by omega
    have F: ¬ (9223372036854775807 < j+b.size):=by omega
    have H: ¬ (9223372036854775807 < j+b.size+(s.size - k)):=by omega
    have q5: ¬ (9223372036854775807 < (s.extract 0 j ++b).size+(s.extract k s.size).size):=by rw[Ar];omega
    have q4:(s.extract 0 j ++b ++s.extract k s.size).size≤s.size+100:=by simp only[Ar,zt];omega
    have I:j≤s.size:=by omega
    have J:k≤s.size:=by omega
    have d:=i.then_below ((Below.refl f.heap.size f).alloc NLN (.cells VR 9)) i.size;go_wp2_with fail
    unfold VR at d;generalize M:f.alloc (.cells _ 9)=N at d ⊢;clear o;rw[Aa Z];have g:=Ab (And.intro q4 d);clear q4 d;go_region
    clear p q2 q3 F q5 H I J;generalize s.extract 0 j ++b ++s.extract k s.size=t at g ⊢;generalize s.extract 0 j ++b=q;generalize s.extract 0 j=E;generalize s.extract k s.size=m;clear Q L B hs v r u z A O P h3 i;go_wp2_with fail
    go_ret
    exact ⟨_,rfl,(Aa g).1,(Aa g).2.trans (Ak.drewN _ _)⟩
  ·have aa: ¬ (128≤l):=S;have p:(s.extract 0 j).size≤s.size:=by rw[zt];omega
   have q2:(s.extract j s.size).size≤s.size:=by rw[zt];omega
   have q3: ¬ (9223372036854775807 < (s.extract 0 j).size+b.size):=by omega
   have F: ¬ (9223372036854775807 < j+b.size):=by omega
   have H: ¬ (9223372036854775807 < j+b.size+(s.size - j)):=by omega
   have q5: ¬ (9223372036854775807 < (s.extract 0 j ++b).size+(s.extract j s.size).size):=by rw[Ar];omega
   have q4:(s.extract 0 j ++b ++s.extract j s.size).size≤s.size+100:=by simp only[Ar,zt];omega
   have I:j≤s.size:=by omega
   have J:j≤s.size:=by omega
   have d:=i.then_below ((Below.refl f.heap.size f).alloc NLN (.cells VR 9)) i.size;go_wp2_with fail
   unfold VR at d;generalize M:f.alloc (.cells _ 9)=N at d ⊢;clear o;skip;have g:=Ab (And.intro q4 d);clear q4 d;go_region
   clear p q2 q3 F q5 H I J;generalize s.extract 0 j ++b ++s.extract j s.size=t at g ⊢;generalize s.extract 0 j ++b=q;generalize s.extract 0 j=E;generalize s.extract j s.size=m;clear Q L B hs v r u z A O P h3 i;go_wp2_with fail
   go_ret
   exact ⟨_,rfl,(Aa g).1,(Aa g).2.trans (Ak.drewN _ _)⟩
 ·have C: ¬ ((0 :Int) < (s.size:Int)):=by omega
  go_wp2_with fail
  refine (BJ R a n c T h1).mono ?_;rintro e f ⟨l,rfl,r,u,h3,m⟩;have i:=q.trans m;clear h1 q m;dsimp only;obtain ⟨b,v,o⟩:=Si f (l % 24).toNat (by omega);unfold VR at o;have p: ¬ (9223372036854775807 < b.size):=by omega
  have q2: ¬ (9223372036854775807 < b.size+s.size):=by omega
  have q3: ¬ (9223372036854775807 < 0+b.size):=by omega
  have q5: ¬ (9223372036854775807 < 0+b.size+(s.size - 0)):=by omega
  have d:=i.then_below ((Below.refl f.heap.size f).alloc NLN (.cells VR 9)) i.size;by_cases S: 128≤l
  ·go_wp2_with fail
   unfold VR at d;generalize M:f.alloc (.cells _ 9)=N at d ⊢;clear o;have g:=Ab d;clear d;go_region
   have q4:(b ++s).size≤s.size+100:=by rw[Ar];omega
   clear B C hs v r u z A h3 i p q2 q3 q5;have K:=Ab q4;clear q4;generalize b ++s=t at K ⊢;go_wp2_with fail
   go_ret
   exact ⟨_,rfl,Aa K,(Aa g).trans (Ak.drewN _ _)⟩
  ·have aa: ¬ (128≤l):=S;go_wp2_with fail
   unfold VR at d;generalize M:f.alloc (.cells _ 9)=N at d ⊢;clear o;have g:=Ab d;clear d;go_region
   have q4:(b ++s).size≤s.size+100:=by rw[Ar];omega
   clear B C hs v r u z A h3 i p q2 q3 q5;have K:=Ab q4;clear q4;generalize b ++s=t at K ⊢;go_wp2_with fail
   go_ret
   exact ⟨_,rfl,Aa K,(Aa g).trans (Ak.drewN _ _)⟩
theorem Tks.at {s:ByteArray}{l:List UInt8}{T:List Ae}{d:List UInt8}(h:Tks s.size l T d):∀ (j:Nat),j≤s.size→l=(Aj s).drop j→∀ t∈T,∃ a,1≤a∧t.at_+a≤s.size∧BY ((Aj s).drop t.at_)= .tok t.kind t.num (Aj t.text) a:=by
 induction h with
 |nil h=>intro j i e t ht;cases ht
 |@cons b r c k m sl a T d hp q f ht n=>
  intro j i e t hm;have e1:c ::r=(Aj s).drop (j+b.length):=by
   rw[← List.drop_drop,← e,List.drop_left]
  have e2:r.length+1=s.size - (j+b.length):=by
   have:=congrArg List.length e1;rw[zj,At,List.length_cons] at this;exact this
  have e3:s.size - (r.length+1)=j+b.length:=by omega
  have g:=EJ (c ::r);rw[f] at g;obtain ⟨o,p,_⟩: 1≤a∧a≤(c ::r).length∧sl.length≤a:=g;rw[List.length_cons] at p;rcases zG.1 hm with rfl | hm
  ·refine ⟨a,o, ?_, ?_⟩
   ·show s.size - (r.length+1)+a≤s.size;omega
   ·show BY ((Aj s).drop (s.size - (r.length+1)))= .tok k m (Aj (AB sl)) a;rw[e3,← e1,f,Dg]
  ·exact n (j+b.length+a) (by omega) (by rw[e1,List.drop_drop]) t hm
theorem Tks.len {n:Nat}{l:List UInt8}{T:List Ae}{b:List UInt8}(h:Tks n l T b):T.length≤l.length:=by
 induction h with
 |nil h=>simp
 |@cons j r c k m sl a T b hp o f ht g=>
  have d:=EJ (c ::r);rw[f] at d;obtain ⟨p,i,_⟩: 1≤a∧a≤(c ::r).length∧sl.length≤a:=d;simp only[List.length_cons,zj,zB] at g i ⊢;omega
theorem MW (n:Nat):∀ (f:Nat) (l:List UInt8) (out:List Ae),(AE n f l out).code≠0→(AE n f l out).toks= []
 | 0,l,out,h=>absurd rfl h
 |f+1,l,out,h=>by
  cases a:Dj false l with
  |nil=>
   rw[AE,a] at h;exact absurd rfl h
  |cons c r=>
   cases b:BY (c ::r) with
   |bad code=>
    rw[AE,a];simp only[b]
   |tok k m sl d=>
    have e:AE n (f+1) l out=AE n f ((c ::r).drop d) (out ++ [⟨k,m,AB sl,n - (r.length+1)⟩]):=by
     rw[AE,a];simp only[b]
    rw[e] at h ⊢;exact MW n f _ _ h
theorem UH (s:ByteArray):(Ay s).toks.length≤4000∧((Ay s).toks≠ []→s.size≤4000)∧∀ t∈(Ay s).toks,∃ a,1≤a∧t.at_+a≤s.size∧BY ((Aj s).drop t.at_)= .tok t.kind t.num (Aj t.text) a:=by
 by_cases h4: 4000 < s.size
 ·have e:(Ay s).toks= []:=by rw[Ay,if_pos h4]
  rw[e];exact ⟨by simp,fun h=>absurd rfl h,fun t ht=>by cases ht⟩
 ·by_cases hc:(Ay s).code=0
  ·have e:Ay s=AE s.size (s.size+1) (Aj s) []:=by rw[Ay,if_neg h4]
   rw[e] at hc ⊢;obtain ⟨T,b,e1,e2⟩:=Pf s.size (s.size+1) (Aj s) [] (by rw[At];omega) hc;rw[e1,List.nil_append];have hl:=e2.len;rw[At] at hl;exact ⟨by omega,fun _=>by omega,fun t ht=>e2.at 0 (zN _) (by rw[zm]) t ht⟩
  ·have e:(Ay s).toks= []:=by rw[Ay,if_neg h4] at hc ⊢;exact MW _ _ _ _ hc
   rw[e];exact ⟨by simp,fun h=>absurd rfl h,fun t ht=>by cases ht⟩
theorem Sj (s:ByteArray)(i j:Nat)(w:World)(h1:i≤j)(h2:j≤s.size):
  Calls Tryz.prog 67 #[.string s,.int .i64 i,.int .i64 j] w fun e w'=>e= .returned (.string (s.extract i j))∧w'=w:=by
 go_enter Tryz.func67,Tryz.ntmps67
 go_wp2_with fail
 go_ret
 exact ⟨rfl,rfl⟩
theorem Xd (s:ByteArray)(j a:Nat)(k m:Int)(t:List UInt8)(w:World)(hs:s.size≤4000)(d:j < s.size)(f:BY ((Aj s).drop j)= .tok k m t a):
  Calls Tryz.prog 68 #[.string s,.int .i64 j] w fun e w'=>e= .returned (.int .i64 ((j+a:Nat):Int))∧Below w.heap.size w w':=by
 have b:=Ab (fun g=>Pg s j g (by omega) d);rw[f] at b;go_enter Tryz.func68,Tryz.ntmps68
 go_wp2_with fail
 refine (Aa b _).mono ?_;rintro e l ⟨h,c⟩;have i:=(show e= .returned (.tuple #[.agg #[.int .i64 k,.int .i64 m,.string (AB t),.int .i64 (j:Int)],.int .i64 ((j+a:Nat):Int),.int .i64 0]) from h)
 subst i;dsimp only;go_wp2_with fail
 go_ret
 exact ⟨rfl,c.alloc c.size _⟩
set_option linter.unusedSimpArgs false
theorem Qt (y:Int): ¬ (((⟨#[35]⟩:ByteArray) ++Lk y ++⟨#[10]⟩).toList= []):=fun e=>by
 have h:=El (s:=(⟨#[35]⟩:ByteArray) ++Lk y ++⟨#[10]⟩) (by
  rw[Ar,Ar];have h1:(⟨#[35]⟩:ByteArray).size=1:=rfl;omega)
 rw[e] at h;cases h
theorem Gl (R:Nat)(a:Option Addr)(n c:Nat)(w:World)(h:CE w R a n c)(s:ByteArray):
  Calls Tryz.prog 29 #[.pointer (some ⟨R,0,none⟩),.string s] w fun e w'=>∃ t:ByteArray,e= .returned (.string t)∧t.size≤20000000∧Ak R (R+1) w w':=by
 have aC:=Ab (fun ah=>Iv s ah);have au:=Ab (UH s);generalize Ay s=ai at aC au;go_enter Tryz.func29,Tryz.ntmps29
 go_wp2_with fail
 refine (Aa aC _).mono ?_;rintro e av ⟨x,bz,rfl,aD,a8,aE⟩;have a9:=Ab h.lt;have aF:=(CE.after h aE h.lt)
 have aG:Ak R (R+1) w av:=Ak.of_below aE NLN;have aH:=Ab a8;clear h aC a8;dsimp only;generalize ai.toks=T at aD aH au ⊢;have aj:=(Below.refl av.heap.size av).alloc NLN (.cells #[.int .i64 ai.code,.int .i64 (ai.at_:Int)] 30);have ba:=aF.after aj aF.lt;have bb:=aG.then_below aj aG.size;have W:=H7 aD aj;go_wp2_with fail
 generalize av.alloc (.cells #[.int .i64 ai.code,.int .i64 (ai.at_:Int)] 30)=bc at aj ba bb W ⊢;clear aF aG aD aE aj;go_loopw [7,20] (fun v i wr=>∃ (k:Nat) (acc:ByteArray),k≤T.length∧v= .string acc∧i= .int .i64 k∧acc.size≤4100 * k∧CE wr R a n c∧Ak R (R+1) bc wr) (fun _ i _=>T.length - (intOf i).toNat)
 case atStart=>exact ⟨0,⟨#[]⟩,zN _,rfl,rfl,by simp[ByteArray.size],ba,Ak.refl _ _ _⟩
 case round=>
  obtain ⟨k,acc,hk,rfl,rfl,bA,ak,al⟩:=hrel;by_cases ao:k < T.length
  ·have bm:(k:Int) < (T.length:Int):=by omega
   have own:=LU.of (Fj (w':=wr) W (fun q hq=>al.block q.block (by subst hq;exact (W.lt _ rfl).2) (by subst hq;have:=(W.lt _ rfl).1;have:=Aa a9;omega))) (Aa aH);obtain ⟨g,bn,bB,_,bo⟩:=own.form (by omega);have aI:∀ q:Addr,x=some q→q.block < bc.heap.size∧(q.block < R∨R+1≤q.block):=fun q hq=>by
    subst hq;have h1:=(W.lt _ rfl).1;have h2:=(W.lt _ rfl).2;have h3:=Aa a9;exact ⟨h2,by omega⟩
   subst bn;obtain ⟨bd,c1,c2,c3⟩:=own.cells k ao;obtain ⟨bC,bf,bg⟩:=Aa au;obtain ⟨aw,bp,aJ,bh⟩:=bg T[k] (zP ao);have bq:=bf (fun e=>by rw[e] at ao;simp at ao);have aK:=Ab (fun (ah:World)=>Xd s T[k].at_ aw _ _ _ ah bq (by omega) bh);clear bg bh bf;generalize T[k]=tk at bd c1 c2 c3 aK aJ;have ap:=(Below.refl wr.heap.size wr).alloc NLN (.cells #[.int .i64 tk.kind,.int .i64 tk.num,.string tk.text,.int .i64 (tk.at_:Int)] 42);have ax:=Am.new wr #[.int .i64 tk.kind,.int .i64 tk.num,.string tk.text,.int .i64 (tk.at_:Int)] 42;have aL:=ak.after ap ak.lt;have aM:=al.then_below ap al.size;have b:=Ab ao;go_wp2_with fail
   generalize wr.alloc (.cells #[.int .i64 tk.kind,.int .i64 tk.num,.string tk.text,.int .i64 (tk.at_:Int)] 42)=aN at ap ax aL aM ⊢;refine (BJ R a n c aN aL).mono ?_;rintro e X ⟨F,rfl,bD,bE,aO,ay⟩;have bi:wr.heap.size≤aN.heap.size:=ap.size;have bj:aN.heap.size≤X.heap.size:=ay.size;have aP:Am X wr.heap.size _ _:=⟨(ay.block _ ax.lt (.inr (by have:=ak.lt;omega))).trans ax.out⟩
   have aQ:=aM.trans ay;have aR:=aP.after ((Below.refl X.heap.size X).drew) NLN;have d3:X.drew.cell? ⟨wr.heap.size,3,none⟩=some (.int .i64 (tk.at_:Int)):=aR.cell 3;have aS:=Ab (fun ah=>Sj s tk.at_ (tk.at_+aw) ah (by omega) aJ);have br:(s.extract tk.at_ (tk.at_+aw)).size≤4000:=by rw[zt];omega
   generalize s.extract tk.at_ (tk.at_+aw)=az at aS br;clear ax aL aM ay bp aJ ap;dsimp only;go_wp2_with fail
   go_region_held3 (fun w'=>w'.cell? ⟨wr.heap.size,3,none⟩=some (.int .i64 (tk.at_:Int))) (first | assumption | go_keep)
    (first | (go_at_call 68;refine (Aa aK _).mono ?_;rintro e H ⟨rfl,aT⟩;have d4:=(aT.cell (p:=⟨wr.heap.size,3,none⟩) aR.lt).trans d3) | (go_at_call 67;refine (Aa aS _).mono ?_;rintro e A ⟨rfl,aq⟩;rw[aq];clear aq))
   have ar:=((Below.refl X.heap.size X).drew).trans (aT.mono NLN);have S:=aP.after ar NLN;have l:=aO.after ar aO.lt;have j:=aQ.then_below ar aQ.size;have aU:=LU.of (Fj (w':=H) W (fun q hq=>j.block q.block (aI q hq).1 (aI q hq).2)) (Aa aH);have U:Hid (0 < k→∃ u:Ae,H.cell? ⟨g,(k - 1) * 4,none⟩=some (.int .i64 u.kind)∧H.cell? ⟨g,(k - 1) * 4+2,none⟩=some (.string u.text)):=Ab (fun h0=>by
    obtain ⟨aV,_,d2,_⟩:=aU.cells (k - 1) (by omega);exact ⟨_,aV,d2⟩)
   have bF:=aU.small;have bG:R+1≤wr.heap.size:=ak.lt;have m:(⟨#[]⟩:ByteArray).size=0:=rfl;have o:(⟨#[32]⟩:ByteArray).size=1:=rfl;have r:(⟨#[9,10]⟩:ByteArray).size=2:=rfl;have d:(⟨#[40,32,48,48]⟩:ByteArray).size=4:=rfl;have f:(⟨#[41]⟩:ByteArray).size=1:=rfl;have bk:=Ab (show g < H.heap.size from zY bo (zL (zL bi bj) ar.size));clear aI;clear bi bj;clear aU own aQ aP aR d3 d4 aT aO ar bd c1 c2 c3 al ak;obtain ⟨I,e1,e2,e3,z⟩:=AU S;clear z e1 e2;obtain ⟨aA,aW⟩:∃ aA,tk.kind=aA:=⟨_,rfl⟩
   rw[aW] at I;have bs:=Ab aW;clear aW;by_cases bt:aA=1
   ·by_cases bH:F % 4=1
    ·by_cases bI: 20 < 4+az.size+1
     ·have bu:(20 :Int) < 4+(az.size:Int)+1:=by omega
      have aX:=S.after ((Below.refl H.heap.size H).drew) NLN;have d4:H.drew.cell? ⟨wr.heap.size,3,none⟩=some (.int .i64 (tk.at_:Int)):=aX.cell 3;go_wp2_with fail
      go_region_held3 (fun w'=>w'.cell? ⟨wr.heap.size,3,none⟩=some (.int .i64 (tk.at_:Int))) (first | assumption | go_keep)
       (first | (go_at_call 68;refine (Aa aK _).mono ?_;rintro e aY ⟨rfl,aZ⟩;have bv:=(aZ.cell (p:=⟨wr.heap.size,3,none⟩) aX.lt).trans d4) | (go_at_call 67;refine (Aa aS _).mono ?_;rintro e A ⟨rfl,aq⟩;rw[aq];clear aq))
      have ae:=((Below.refl H.heap.size H).drew).trans (aZ.mono NLN);have a0:=S.after ae NLN;have af:=l.after ae l.lt;have ag:=j.then_below ae j.size;have U:Hid (0 < k→∃ u:Ae,aY.cell? ⟨g,(k - 1) * 4,none⟩=some (.int .i64 u.kind)∧aY.cell? ⟨g,(k - 1) * 4+2,none⟩=some (.string u.text)):=Ab (fun h0=>by
       obtain ⟨u,aV,d2⟩:=Aa U h0;exact ⟨u,(ae.cell (p:=⟨g,(k - 1) * 4,none⟩) (Aa bk)).trans aV,(ae.cell (p:=⟨g,(k - 1) * 4+2,none⟩) (Aa bk)).trans d2⟩)
      clear S l j aZ ae d4 bv aX I e3;obtain ⟨I,e1,e2,e3,z⟩:=AU a0;clear z e1 e2;rw[Aa bs] at I;by_cases a1: 250 < F
      ·skip;go_wp2_with fail
       refine (BJ R a n c aY af).mono ?_;rintro e A ⟨y,rfl,a2,a3,J,K⟩;have L:=ag.trans K;have M:Am A wr.heap.size _ _:=⟨(K.block _ a0.lt (.inr (by omega))).trans a0.out⟩
       obtain ⟨I,e1,e2,e3,z⟩:=AU M;clear z e1 e2;have a4:=OD;have a5:=Qt (y % 90+32);have Y:=Ec (y % 90+32);have Z:(⟨#[35]⟩:ByteArray).size=1:=rfl;have aa:(⟨#[10]⟩:ByteArray).size=1:=rfl;have C:=(Below.refl A.heap.size A).alloc NLN (.cells #[.int .u8 (y % 90+32)] 5);have ab:=J.after C J.lt;have ac:=L.then_below C L.size;have ad:=M.after C NLN;obtain ⟨I,e1,e2,e3,z⟩:=AU ad;clear z e1 e2;dsimp only;go_wp2_with fail
       refine ⟨⟨_,_,Aa b,rfl,by go_num, ?_,ab,ac⟩, ?_⟩
       ·simp only[Ar,Y,Z,aa,d,f];omega
       ·have:=Aa b;simp[intOf];omega
      ·by_cases a6:F % 7=6
       ·skip;go_wp2_with fail
        refine ⟨⟨_,_,Aa b,rfl,by go_num, ?_,af,ag⟩, ?_⟩
        ·simp only[Ar,o,r,m,d,f];omega
        ·have:=Aa b;simp[intOf];omega
       ·by_cases a7:F % 7=5
        ·by_cases h0:k=0
         ·subst h0;go_wp2_with fail
          refine ⟨⟨_,_,Aa b,rfl,by go_num, ?_,af,ag⟩, ?_⟩
          ·simp only[Ar,o,r,m,d,f];omega
          ·have:=Aa b;simp[intOf];omega
         ·obtain ⟨E,rfl⟩:∃ E,k=E+1:=⟨k - 1,by omega⟩
          obtain ⟨u,N,f2⟩:=Aa U (Nat.succ_pos E);rw[Nat.add_sub_cancel] at N f2;obtain ⟨B,O⟩:∃ B,u.kind=B:=⟨_,rfl⟩
          rw[O] at N;obtain ⟨P,Q⟩:∃ P,u.text=P:=⟨_,rfl⟩
          rw[Q] at f2;clear O Q U
          ·skip;by_cases V:B=5
           ·skip;go_wp2_with fail
            all_goals
             refine ⟨⟨_,_,Aa b,rfl,by go_num, ?_,af,ag⟩, ?_⟩
             ·simp only[Ar,o,r,m,d,f];omega
             ·have:=Aa b;simp[intOf];omega
           ·have aB:=zA.2 V;go_wp2_with fail
            refine ⟨⟨_,_,Aa b,rfl,by go_num, ?_,af,ag⟩, ?_⟩
            ·simp only[Ar,o,r,m,d,f];omega
            ·have:=Aa b;simp[intOf];omega
        ·skip;go_wp2_with fail
         refine ⟨⟨_,_,Aa b,rfl,by go_num, ?_,af,ag⟩, ?_⟩
         ·simp only[Ar,o,r,m,d,f];omega
         ·have:=Aa b;simp[intOf];omega
     ·have bu: ¬ ((20 :Int) < 4+(az.size:Int)+1):=by omega
      have bJ:az.size≤15:=by omega
      by_cases a1: 250 < F
      ·skip;go_wp2_with fail
       refine (BJ R a n c H l).mono ?_;rintro e A ⟨y,rfl,a2,a3,J,K⟩;have L:=j.trans K;have M:Am A wr.heap.size _ _:=⟨(K.block _ S.lt (.inr (by omega))).trans S.out⟩
       obtain ⟨I,e1,e2,e3,z⟩:=AU M;clear z e1 e2;have a4:=OD;have a5:=Qt (y % 90+32);have Y:=Ec (y % 90+32);have Z:(⟨#[35]⟩:ByteArray).size=1:=rfl;have aa:(⟨#[10]⟩:ByteArray).size=1:=rfl;have C:=(Below.refl A.heap.size A).alloc NLN (.cells #[.int .u8 (y % 90+32)] 5);have ab:=J.after C J.lt;have ac:=L.then_below C L.size;have ad:=M.after C NLN;obtain ⟨I,e1,e2,e3,z⟩:=AU ad;clear z e1 e2;dsimp only;go_wp2_with fail
       refine ⟨⟨_,_,Aa b,rfl,by go_num, ?_,ab,ac⟩, ?_⟩
       ·simp only[Ar,Y,Z,aa,d,f];omega
       ·have:=Aa b;simp[intOf];omega
      ·by_cases a6:F % 7=6
       ·skip;go_wp2_with fail
        refine ⟨⟨_,_,Aa b,rfl,by go_num, ?_,l,j⟩, ?_⟩
        ·simp only[Ar,o,r,m,d,f];omega
        ·have:=Aa b;simp[intOf];omega
       ·by_cases a7:F % 7=5
        ·by_cases h0:k=0
         ·subst h0;go_wp2_with fail
          refine ⟨⟨_,_,Aa b,rfl,by go_num, ?_,l,j⟩, ?_⟩
          ·simp only[Ar,o,r,m,d,f];omega
          ·have:=Aa b;simp[intOf];omega
         ·obtain ⟨E,rfl⟩:∃ E,k=E+1:=⟨k - 1,by omega⟩
          obtain ⟨u,N,f2⟩:=Aa U (Nat.succ_pos E);rw[Nat.add_sub_cancel] at N f2;obtain ⟨B,O⟩:∃ B,u.kind=B:=⟨_,rfl⟩
          rw[O] at N;obtain ⟨P,Q⟩:∃ P,u.text=P:=⟨_,rfl⟩
          rw[Q] at f2;clear O Q U
          ·skip;by_cases V:B=5
           ·skip;go_wp2_with fail
            all_goals
             refine ⟨⟨_,_,Aa b,rfl,by go_num, ?_,l,j⟩, ?_⟩
             ·simp only[Ar,o,r,m,d,f];omega
             ·have:=Aa b;simp[intOf];omega
           ·have aB:=zA.2 V;go_wp2_with fail
            refine ⟨⟨_,_,Aa b,rfl,by go_num, ?_,l,j⟩, ?_⟩
            ·simp only[Ar,o,r,m,d,f];omega
            ·have:=Aa b;simp[intOf];omega
        ·skip;go_wp2_with fail
         refine ⟨⟨_,_,Aa b,rfl,by go_num, ?_,l,j⟩, ?_⟩
         ·simp only[Ar,o,r,m,d,f];omega
         ·have:=Aa b;simp[intOf];omega
    ·skip;by_cases a1: 250 < F
     ·skip;go_wp2_with fail
      refine (BJ R a n c H l).mono ?_;rintro e A ⟨y,rfl,a2,a3,J,K⟩;have L:=j.trans K;have M:Am A wr.heap.size _ _:=⟨(K.block _ S.lt (.inr (by omega))).trans S.out⟩
      obtain ⟨I,e1,e2,e3,z⟩:=AU M;clear z e1 e2;have a4:=OD;have a5:=Qt (y % 90+32);have Y:=Ec (y % 90+32);have Z:(⟨#[35]⟩:ByteArray).size=1:=rfl;have aa:(⟨#[10]⟩:ByteArray).size=1:=rfl;have C:=(Below.refl A.heap.size A).alloc NLN (.cells #[.int .u8 (y % 90+32)] 5);have ab:=J.after C J.lt;have ac:=L.then_below C L.size;have ad:=M.after C NLN;obtain ⟨I,e1,e2,e3,z⟩:=AU ad;clear z e1 e2;dsimp only;go_wp2_with fail
      refine ⟨⟨_,_,Aa b,rfl,by go_num, ?_,ab,ac⟩, ?_⟩
      ·simp only[Ar,Y,Z,aa,d,f];omega
      ·have:=Aa b;simp[intOf];omega
     ·by_cases a6:F % 7=6
      ·skip;go_wp2_with fail
       refine ⟨⟨_,_,Aa b,rfl,by go_num, ?_,l,j⟩, ?_⟩
       ·simp only[Ar,o,r,m,d,f];omega
       ·have:=Aa b;simp[intOf];omega
      ·by_cases a7:F % 7=5
       ·by_cases h0:k=0
        ·subst h0;go_wp2_with fail
         refine ⟨⟨_,_,Aa b,rfl,by go_num, ?_,l,j⟩, ?_⟩
         ·simp only[Ar,o,r,m,d,f];omega
         ·have:=Aa b;simp[intOf];omega
        ·obtain ⟨E,rfl⟩:∃ E,k=E+1:=⟨k - 1,by omega⟩
         obtain ⟨u,N,f2⟩:=Aa U (Nat.succ_pos E);rw[Nat.add_sub_cancel] at N f2;obtain ⟨B,O⟩:∃ B,u.kind=B:=⟨_,rfl⟩
         rw[O] at N;obtain ⟨P,Q⟩:∃ P,u.text=P:=⟨_,rfl⟩
         rw[Q] at f2;clear O Q U
         ·skip;by_cases V:B=5
          ·skip;go_wp2_with fail
           all_goals
            refine ⟨⟨_,_,Aa b,rfl,by go_num, ?_,l,j⟩, ?_⟩
            ·simp only[Ar,o,r,m,d,f];omega
            ·have:=Aa b;simp[intOf];omega
          ·have aB:=zA.2 V;go_wp2_with fail
           refine ⟨⟨_,_,Aa b,rfl,by go_num, ?_,l,j⟩, ?_⟩
           ·simp only[Ar,o,r,m,d,f];omega
           ·have:=Aa b;simp[intOf];omega
       ·skip;go_wp2_with fail
        refine ⟨⟨_,_,Aa b,rfl,by go_num, ?_,l,j⟩, ?_⟩
        ·simp only[Ar,o,r,m,d,f];omega
        ·have:=Aa b;simp[intOf];omega
   ·have bK:=zA.2 bt;by_cases a1: 250 < F
    ·skip;go_wp2_with fail
     refine (BJ R a n c H l).mono ?_;rintro e A ⟨y,rfl,a2,a3,J,K⟩;have L:=j.trans K;have M:Am A wr.heap.size _ _:=⟨(K.block _ S.lt (.inr (by omega))).trans S.out⟩
     obtain ⟨I,e1,e2,e3,z⟩:=AU M;clear z e1 e2;have a4:=OD;have a5:=Qt (y % 90+32);have Y:=Ec (y % 90+32);have Z:(⟨#[35]⟩:ByteArray).size=1:=rfl;have aa:(⟨#[10]⟩:ByteArray).size=1:=rfl;have C:=(Below.refl A.heap.size A).alloc NLN (.cells #[.int .u8 (y % 90+32)] 5);have ab:=J.after C J.lt;have ac:=L.then_below C L.size;have ad:=M.after C NLN;obtain ⟨I,e1,e2,e3,z⟩:=AU ad;clear z e1 e2;dsimp only;go_wp2_with fail
     refine ⟨⟨_,_,Aa b,rfl,by go_num, ?_,ab,ac⟩, ?_⟩
     ·simp only[Ar,Y,Z,aa,d,f];omega
     ·have:=Aa b;simp[intOf];omega
    ·by_cases a6:F % 7=6
     ·skip;go_wp2_with fail
      refine ⟨⟨_,_,Aa b,rfl,by go_num, ?_,l,j⟩, ?_⟩
      ·simp only[Ar,o,r,m,d,f];omega
      ·have:=Aa b;simp[intOf];omega
     ·by_cases a7:F % 7=5
      ·by_cases h0:k=0
       ·subst h0;go_wp2_with fail
        refine ⟨⟨_,_,Aa b,rfl,by go_num, ?_,l,j⟩, ?_⟩
        ·simp only[Ar,o,r,m,d,f];omega
        ·have:=Aa b;simp[intOf];omega
       ·obtain ⟨E,rfl⟩:∃ E,k=E+1:=⟨k - 1,by omega⟩
        obtain ⟨u,N,f2⟩:=Aa U (Nat.succ_pos E);rw[Nat.add_sub_cancel] at N f2;obtain ⟨B,O⟩:∃ B,u.kind=B:=⟨_,rfl⟩
        rw[O] at N;obtain ⟨P,Q⟩:∃ P,u.text=P:=⟨_,rfl⟩
        rw[Q] at f2;clear O Q U;by_cases bw:aA=5
        ·by_cases V:B=5
         ·skip;go_wp2_with fail
          refine ⟨⟨_,_,Aa b,rfl,by go_num, ?_,l,j⟩, ?_⟩
          ·simp only[Ar,o,r,m,d,f];omega
          ·have:=Aa b;simp[intOf];omega
         ·have aB:=zA.2 V;go_wp2_with fail
          refine ⟨⟨_,_,Aa b,rfl,by go_num, ?_,l,j⟩, ?_⟩
          ·simp only[Ar,o,r,m,d,f];omega
          ·have:=Aa b;simp[intOf];omega
        ·have bL:=zA.2 bw;by_cases V:B=5
         ·skip;go_wp2_with fail
          all_goals
           refine ⟨⟨_,_,Aa b,rfl,by go_num, ?_,l,j⟩, ?_⟩
           ·simp only[Ar,o,r,m,d,f];omega
           ·have:=Aa b;simp[intOf];omega
         ·have aB:=zA.2 V;go_wp2_with fail
          refine ⟨⟨_,_,Aa b,rfl,by go_num, ?_,l,j⟩, ?_⟩
          ·simp only[Ar,o,r,m,d,f];omega
          ·have:=Aa b;simp[intOf];omega
      ·skip;go_wp2_with fail
       refine ⟨⟨_,_,Aa b,rfl,by go_num, ?_,l,j⟩, ?_⟩
       ·simp only[Ar,o,r,m,d,f];omega
       ·have:=Aa b;simp[intOf];omega
  ·have bm: ¬ ((k:Int) < (T.length:Int)):=by omega
   have bl:acc.size≤20000000:=by have:=(Aa au).1;omega
   have bx:=Ab bl;clear bl;go_wp2_with fail
   go_ret
   exact ⟨_,rfl,Aa bx,bb.trans al⟩
def Xm:Option Ex→ByteArray
 |none=>⟨#[]⟩
 |some e=>e.pr
def grO:Option Ex→ByteArray
 |none=>⟨#[100,101,110,121]⟩
 |some e=>⟨#[103,114,97,110,116,32]⟩ ++e.pr
structure Sw where
 kind:Int
 name:ByteArray
 cond:Option Ex
 grant:Option Ex
def Sw.pr (s:Sw):ByteArray:=
 (if s.kind=1 then ⟨#[108,101,116,32]⟩ ++s.name ++⟨#[32,61,32]⟩ ++Xm s.cond
   else if s.kind=2 then ⟨#[119,104,101,110,32]⟩ ++Xm s.cond ++⟨#[32,61,62,32]⟩ ++grO s.grant
   else ⟨#[101,108,115,101,32]⟩ ++grO s.grant) ++⟨#[59,10]⟩
def okG:Option Ex→Prop
 |none=>True
 |some e=>e.okW
def Sw.okW (s:Sw):Prop:=
 (s.kind=1∧Bh s.name=true∧(∃ e,s.cond=some e∧e.okW)∧s.grant=none)∨
 (s.kind=2∧s.name=⟨#[]⟩∧(∃ e,s.cond=some e∧e.okW)∧okG s.grant)∨
 (s.kind=3∧s.name=⟨#[]⟩∧s.cond=none∧okG s.grant)
def AaU:Option Ex→Option Pt→Prop
 |none,none=>True
 |some e,some p=>∃ T,LW e T p
 |_,_=>False
def Alk (x:Sw) (s:Ps):Prop:=s.kind=x.kind∧s.name=x.name∧AaU x.cond s.cond∧AaU x.grant s.grant
theorem Zm {e:Ex}(a:e.okW){T:List Ae}{p:Pt}(h:LW e T p){r:List Ae}(f:Fr 0 r):D .expr (T ++r) (.ok p r):=(GE e a T p h).2.1 0 r (zN _) f
theorem KR (r:List UInt8):JS (59 ::r):=Fp (.inr (.inr (.inl rfl)))
theorem Sq {n f:Nat}{g:Option Ex}{r:List UInt8}{out:List Ae}(m:okG g)(hf:(Aj (grO g) ++59 ::r).length < f):
  ∃ T i,AaU g i∧IR n f (Aj (grO g) ++59 ::r) out T (59 ::r)∧∀ s t b,see s t=true→Fr 0 b→DD s (t ::(T ++b)) (.ok i b):=by
 cases g with
 |none=>
  obtain ⟨u,d,o⟩:=Cu (n:=n) (c:=100) (a:= [101,110,121]) (out:=out) hf (by decide) (by decide) (by decide) (by decide) (KR r);exact ⟨[u],none,trivial,o,fun s t b h _=> .deny h d⟩
 |some e=>
  have j:e.okW:=m;have q:Aj (grO (some e)) ++59 ::r=103 ::([114,97,110,116] ++32 ::(Aj e.pr ++59 ::r)):=by rw[grO,Au];simp[Aj]
  rw[q] at hf ⊢;obtain ⟨u,d,f1,f2,k⟩:=Cu (n:=n) (c:=103) (a:= [114,97,110,116]) (out:=out) hf (by decide) (by decide) (by decide) (by decide) (Co _);rw[Cn] at k;obtain ⟨T,p,l,v,w,x⟩:=ET n e j f1 (59 ::r) (out ++ [u]) (KR r) (Dd f2);refine ⟨u ::T,some p,⟨T,l⟩,⟨v,w,by rw[k,x];simp⟩,fun s t b h y=> .grant h (Ag d (by decide)) (.beh d (Zm j l y))⟩
theorem VY {n f:Nat}{x:Sw}{r:List UInt8}{out:List Ae}(K:x.okW)(hf:(Aj x.pr ++r).length < f):
  ∃ T s,Alk x s∧IR n f (Aj x.pr ++r) out T r∧∀ j,DS (T ++j) (.ok s j):=by
 obtain ⟨k,nm,c,g⟩:=x;have fin:∀ (g:Nat) (B:List Ae),(59 :: 10 ::r).length < g→∃ u,see AG u=true∧IR n g (59 :: 10 ::r) B [u] r:=fun g B L=>by
  obtain ⟨u,h,f1,f2,b⟩:=Bb (n:=n) (c:=59) (out:=B) L (by decide) (fun d y e=>by injection e with e1 e2;subst e1;decide);rw[AaP] at b;exact ⟨u,h,f1,Dd f2,b⟩
 rcases K with ⟨h1,h2,⟨e,h3,h4⟩,h5⟩ | ⟨h1,h2,⟨e,h3,h4⟩,h5⟩ | ⟨h1,h2,h3,h5⟩
 ·dsimp only at h1 h2 h3 h5;subst h1 h3 h5;have l:Aj (Sw.pr ⟨1,nm,some e,none⟩) ++r=108 ::([101,116] ++32 ::(Aj nm ++32 ::(61 :: 32 ::(Aj e.pr ++59 :: 10 ::r)))):=by
   rw[Sw.pr,if_pos rfl,Xm,Au,Au,Au,Au];simp[Aj]
  rw[l] at hf ⊢;obtain ⟨t,i,f1,f2,b⟩:=Cu (n:=n) (c:=108) (a:= [101,116]) (out:=out) hf (by decide) (by decide) (by decide) (by decide) (Co _);rw[Cn] at b;obtain ⟨m,M,N,O,C,o⟩:=Pj (n:=n) (out:=out ++ [t]) (Dd f2) h2 (Co _);rw[Cn] at o;obtain ⟨q,A,E,F,v⟩:=Bb (n:=n) (c:=61) (out:=out ++ [t] ++ [m]) (Dd C) (by decide) (fun d y e=>by injection e with e1 e2;subst e1;decide);rw[Cn] at v;obtain ⟨T,p,w,g1,g2,g3⟩:=ET n e h4 E _ (out ++ [t] ++ [m] ++ [q]) (KR _) (Dd F);obtain ⟨u,h,g4,g5,g6⟩:=fin g1 (out ++ [t] ++ [m] ++ [q] ++T) g2;refine ⟨t ::m ::q ::(T ++ [u]),⟨t.at_,1,m.text,some p,none⟩,⟨rfl,N,⟨T,w⟩,trivial⟩,⟨g4,g5,by rw[b,o,v,g3,g6];simp⟩,fun j=>?_⟩;rw[List.cons_append,List.cons_append,List.cons_append,zC];exact .let_ i M (.beh A (Zm h4 w (FL h (by decide)))) h
 ·dsimp only at h1 h2 h3 h5;subst h1 h3 h2;have l:Aj (Sw.pr ⟨2,⟨#[]⟩,some e,g⟩) ++r=119 ::([104,101,110] ++32 ::(Aj e.pr ++32 ::(61 :: 62 :: 32 ::(Aj (grO g) ++59 :: 10 ::r)))):=by
   rw[Sw.pr,if_neg (show ¬ (2 :Int)=1 by decide),if_pos rfl,Xm,Au,Au,Au,Au];simp[Aj]
  rw[l] at hf ⊢;obtain ⟨t,i,f1,f2,b⟩:=Cu (n:=n) (c:=119) (a:= [104,101,110]) (out:=out) hf (by decide) (by decide) (by decide) (by decide) (Co _);rw[Cn] at b;obtain ⟨T,p,w,O,C,o⟩:=ET n e h4 f1 _ (out ++ [t]) (Co _) (Dd f2);rw[Cn] at o;obtain ⟨q,A,E,F,v⟩:=GA (n:=n) (c:=61) (d:=62) (out:=out ++ [t] ++T) (Dd C) (by decide);rw[Cn] at v;obtain ⟨z,H,I,⟨g1,g2,g3⟩,J⟩:=Sq (n:=n) (f:=E) (out:=out ++ [t] ++T ++ [q]) h5 (Dd F);obtain ⟨u,h,g4,g5,g6⟩:=fin g1 (out ++ [t] ++T ++ [q] ++z) g2;refine ⟨t ::(T ++q ::(z ++ [u])),⟨t.at_,2,AB [],some p,H⟩,⟨rfl,rfl,⟨T,w⟩,I⟩,⟨g4,g5,by rw[b,o,v,g3,g6];simp⟩,fun j=>?_⟩;rw[List.cons_append,zC,List.cons_append,zC];exact .when i (.beh i (Zm h4 w (FL A (by decide)))) (J _ q _ A (FL h (by decide))) h
 ·dsimp only at h1 h2 h3 h5;subst h1 h3 h2;have l:Aj (Sw.pr ⟨3,⟨#[]⟩,none,g⟩) ++r=101 ::([108,115,101] ++32 ::(Aj (grO g) ++59 :: 10 ::r)):=by
   rw[Sw.pr,if_neg (show ¬ (3 :Int)=1 by decide),if_neg (show ¬ (3 :Int)=2 by decide),Au,Au];simp[Aj]
  rw[l] at hf ⊢;obtain ⟨t,i,f1,f2,b⟩:=Cu (n:=n) (c:=101) (a:= [108,115,101]) (out:=out) hf (by decide) (by decide) (by decide) (by decide) (Co _);rw[Cn] at b;obtain ⟨z,H,I,⟨g1,g2,g3⟩,J⟩:=Sq (n:=n) (f:=f1) (out:=out ++ [t]) h5 (Dd f2);obtain ⟨u,h,g4,g5,g6⟩:=fin g1 (out ++ [t] ++z) g2;refine ⟨t ::(z ++ [u]),⟨t.at_,3,AB [],none,H⟩,⟨rfl,rfl,trivial,I⟩,⟨g4,g5,by rw[b,g3,g6];simp⟩,fun j=>?_⟩;rw[List.cons_append,zC];exact .else_ i (J _ t _ i (FL h (by decide))) h
def prX:List Sw→List UInt8
 | []=> []
 |x ::X=>Aj x.pr ++prX X
def VZ:List Sw→Prop
 | []=>False
 | [x]=>x.kind=3
 |x ::y ::X=>x.kind≠3∧VZ (y ::X)
def AaV:List Sw→List Ps→Prop
 | [], []=>True
 |x ::X,s ::S=>Alk x s∧AaV X S
 |_,_=>False
theorem Sr {n:Nat} :∀ (X:List Sw) (f:Nat) (out:List Ae),(∀ x∈X,x.okW)→VZ X→(prX X).length < f→∃ T S,AaV X S∧IR n f (prX X) out T []∧DP T (.ok S)
 | [],_,_,_,h,_=>by cases h
 | [x],f,out,ho,hl,hf=>by
  obtain ⟨T,s,h1,h2,h3⟩:=VY (n:=n) (r:= []) (out:=out) (ho x (zQ ..)) hf;have h4:=h3 [];rw[zp] at h4;exact ⟨T, [s],⟨h1,trivial⟩,h2,.last h4 (by rw[h1.1];exact hl)⟩
 |x ::y ::X,f,out,ho,hl,hf=>by
  obtain ⟨T,s,h1,⟨f1,f2,b⟩,h3⟩:=VY (n:=n) (out:=out) (ho x (zQ ..)) hf;obtain ⟨a,S,c,⟨d,g,i⟩,j⟩:=Sr (y ::X) f1 (out ++T) (fun k l=>ho k (zS _ l)) hl.2 f2;exact ⟨T ++a,s ::S,⟨h1,c⟩,⟨d,g,by rw[prX,b,i,zC]⟩,.more (h3 a) (by rw[h1.1];exact hl.1) j⟩
theorem Zn {X:List Sw}{t:ByteArray}(ht:Aj t=prX X)(h4:t.size≤4000)(a:∀ x∈X,x.okW)(hl:VZ X):(Ay t).code=0∧∃ S,AaV X S∧DP (Ay t).toks (.ok S):=by
 obtain ⟨T,S,h1,⟨f1,f2,b⟩,h3⟩:=Sr (n:=t.size) X (t.size+1) [] a hl (by rw[← ht,At];omega);have e:Ay t=⟨T,0,0⟩:=by
  rw[Ay,if_neg (by omega),ht,b,ID,List.nil_append]
 rw[e];exact ⟨rfl,S,h1,h3⟩
theorem Pk (n:Nat):∀ (f:Nat) (l:List UInt8) (out:List Ae),l.length≤n→∃ X,(∀ t∈(AE n f l out).toks,t∈out ++X)∧((AE n f l out).toks=out ++X∨(AE n f l out).toks= [])∧X.Pairwise (fun a b=>a.at_ < b.at_)∧∀ t∈X,n - l.length≤t.at_∧t.at_ < n
 | 0,l,out,_=>⟨[],by simp[AE],by simp[AE],.nil,by simp⟩
 |f+1,l,out,hn=>by
  have h:=Gv false l;cases g:Dj false l with
  |nil=>exact ⟨[],by rw[AE,g];simp,by rw[AE,g];simp,.nil,by simp⟩
  |cons c r=>
   rw[g] at h;simp only[List.length_cons] at h;cases i:BY (c ::r) with
   |bad code=>exact ⟨[],by rw[AE,g];simp[i],by rw[AE,g];simp[i],.nil,by simp⟩
   |tok k m s d=>
    have j:=EJ (c ::r);rw[i] at j;obtain ⟨p,o,_⟩: 1≤d∧d≤(c ::r).length∧s.length≤d:=j;simp only[List.length_cons] at o;have q:((c ::r).drop d).length=r.length+1 - d:=by simp
    obtain ⟨X,h1,h2,h3,h4⟩:=Pk n f ((c ::r).drop d) (out ++ [⟨k,m,AB s,n - (r.length+1)⟩]) (by omega);have e:AE n (f+1) l out=AE n f ((c ::r).drop d) (out ++ [⟨k,m,AB s,n - (r.length+1)⟩]):=by rw[AE,g];simp[i]
    rw[e];rw[zC] at h1 h2;refine ⟨_ ::X,h1,h2,List.pairwise_cons.2 ⟨fun b h=>?_,h3⟩,fun t ht=>?_⟩
    ·have:=(h4 b h).1;show n - (r.length+1) < b.at_;omega
    ·rcases zG.1 ht with rfl | ht
     ·show n - l.length≤n - (r.length+1)∧n - (r.length+1) < n;omega
     ·have:=h4 t ht;omega
theorem Xn (t:ByteArray):(Ay t).toks.Pairwise (fun a b=>a.at_ < b.at_)∧∀ u∈(Ay t).toks,u.at_ < t.size:=by
 rw[Ay];split
 ·exact ⟨.nil,by simp⟩
 ·obtain ⟨X,h1,h2,h3,h4⟩:=Pk t.size (t.size+1) (Aj t) [] (by rw[At];exact NLN);rw[List.nil_append] at h2;rcases h2 with h2 | h2
  ·rw[h2];exact ⟨h3,fun u hu=>(h4 u hu).2⟩
  ·rw[h2];exact ⟨.nil,by simp⟩
set_option maxHeartbeats 800000
theorem Nm (a f:Option Addr)(n c g:Nat)(j:List ByteArray)(w:World)(h:BL w a n c j)(m:BL w f n g j):
  Calls Tryz.prog 59 #[.slice a n c,.slice f n g] w fun e w'=>e= .returned (.bool true)∧Below w.heap.size w w':=by
 have q:n≤9223372036854775807:=by have:=h.cap;have:=h.small;unfold maxLen at this;omega
 go_enter Tryz.func59,Tryz.ntmps59
 go_wp2
 go_loopw [5,6,14] (fun _ _ i wr=>∃ k:Nat,k≤n∧i= .int .i64 k∧Below w.heap.size w wr) (fun _ _ i _=>n - (intOf i).toNat)
 case atStart=>exact ⟨0,zN _,rfl,BRN⟩
 case round=>
  obtain ⟨k,hk,rfl,d⟩:=hrel;by_cases l:k < n
  ·obtain ⟨b,r,o,_,hc⟩:=(h.below d NLN).cells k l;obtain ⟨s,t,p,_,u⟩:=(m.below d NLN).cells k l;subst o;subst p;have v:(k:Int) < (n:Int):=by omega
   go_wp2
   first
    |go_roundw
     case rel=>exact ⟨k+1,by omega,by go_num,d⟩
     case measure=>simp[intOf] <;> omega
    |go_quiet (fail)
     go_wp2
     go_roundw
     case rel=>exact ⟨k+1,by omega,by go_num,below_drewN d _⟩
     case measure=>simp[intOf] <;> omega
  ·go_wp2
   go_ret
   exact ⟨rfl,d⟩
set_option maxHeartbeats 1600000
theorem Ow (a f:Option Addr)(n c g:Nat)(L:List Int)(w:World)(h:IP w a n c L)(j:IP w f n g L):
  Calls Tryz.prog 60 #[.slice a n c,.slice f n g] w fun e w'=>e= .returned (.bool true)∧Below w.heap.size w w':=by
 have o:=h.small;have hl:=h.len;go_enter Tryz.func60,Tryz.ntmps60
 go_wp2_with fail
 go_loopw [5,6,14] (fun _ _ i wr=>∃ k:Nat,k≤n∧i= .int .i64 k∧Below w.heap.size w wr) (fun _ _ i _=>n - (intOf i).toNat)
 case atStart=>exact ⟨0,zN _,rfl,BRN⟩
 case round=>
  obtain ⟨k,hk,rfl,d⟩:=hrel;by_cases p:k < n
  ·obtain ⟨b,q,l,_,hc⟩:=(h.below d NLN).cells k (by omega);obtain ⟨r,s,m,_,t⟩:=(j.below d NLN).cells k (by omega);subst l;subst m;have u:(k:Int) < (n:Int):=by omega
   go_wp2_with fail
   first
    |go_roundw
     case rel=>exact ⟨k+1,by omega,by go_num,d⟩
     case measure=>simp[intOf] <;> omega
    |go_quiet (fail)
     go_wp2_with fail
     go_roundw
     case rel=>exact ⟨k+1,by omega,by go_num,below_drewN d _⟩
     case measure=>simp[intOf] <;> omega
  ·go_wp2_with fail
   go_ret
   exact ⟨rfl,d⟩
theorem AcZ {w:World}{b:Nat}{a c d f:Value}{t:TypeId}(R:Am w b #[a,c,d,f] t):w.cell? ⟨b,0,none⟩=some a∧w.cell? ⟨b,1,none⟩=some c∧w.cell? ⟨b,2,none⟩=some d∧w.cell? ⟨b,3,none⟩=some f:=⟨R.cell 0,R.cell 1,R.cell 2,R.cell 3⟩
theorem Nn (a m:Option Addr)(n c o:Nat)(L:List St)(w:World)(h:PO w a n c L)(s:PO w m n o L):
  Calls Tryz.prog 25 #[.slice a n c,.slice m n o] w fun e w'=>e= .returned (.bool true)∧Below w.heap.size w w':=by
 have A:=h.small;have hl:=h.len;go_enter Tryz.func25,Tryz.ntmps25
 go_wp2_with fail
 go_loopw [5,6,14] (fun _ _ i wr=>∃ k:Nat,k≤n∧i= .int .i64 k∧Below w.heap.size w wr) (fun _ _ i _=>n - (intOf i).toNat)
 case atStart=>exact ⟨0,zN _,rfl,BRN⟩
 case round=>
  obtain ⟨k,hk,rfl,d⟩:=hrel;by_cases B:k < n
  ·obtain ⟨b,C,t,_,u,c1,c2,c3⟩:=(h.below d NLN).cells k (by omega);obtain ⟨g,j,v,l,q,d1,d2,d3⟩:=(s.below d NLN).cells k (by omega);subst t;subst v;have E:(k:Int) < (n:Int):=by omega
   go_wp2_with fail
   obtain ⟨x,e1,e2,e3⟩:=AcZ (Am.new wr #[.int .i64 L[k].kind,.string L[k].name,.int .i64 L[k].cond,.int .i64 L[k].grant] 51);have f:=(Below.refl wr.heap.size wr).alloc NLN (.cells #[.int .i64 L[k].kind,.string L[k].name,.int .i64 L[k].cond,.int .i64 L[k].grant] 51);have r:=d.trans (f.mono d.size);have y:=(f.cell (p:=⟨g,j+k * 4,none⟩) l).trans q;have f1:=(f.cell (p:=⟨g,j+k * 4+1,none⟩) l).trans d1;have f2:=(f.cell (p:=⟨g,j+k * 4+2,none⟩) l).trans d2;have z:=(f.cell (p:=⟨g,j+k * 4+3,none⟩) l).trans d3;clear u c1 c2 c3 q d1 d2 d3 f d;generalize wr.alloc (.cells #[.int .i64 L[k].kind,.string L[k].name,.int .i64 L[k].cond,.int .i64 L[k].grant] 51)=F at x e1 e2 e3 y f1 f2 z r ⊢;go_region
   go_wp2_with fail
   go_roundw
   case rel=>exact ⟨k+1,by omega,by go_num,below_drewN r _⟩
   case measure=>simp[intOf] <;> omega
  ·go_wp2_with fail
   go_ret
   exact ⟨rfl,d⟩
theorem No (a z:Option Addr)(n c A:Nat)(L:List Nd)(w:World)(h:IZ w a n c L)(H:IZ w z n A L):
  Calls Tryz.prog 24 #[.slice a n c,.slice z n A] w fun e w'=>e= .returned (.bool true)∧Below w.heap.size w w':=by
 have R:=h.small;have hl:=h.len;go_enter Tryz.func24,Tryz.ntmps24
 go_wp2_with fail
 go_loopw [5,6,15] (fun _ _ i wr=>∃ k:Nat,k≤n∧i= .int .i64 k∧Below w.heap.size w wr) (fun _ _ i _=>n - (intOf i).toNat)
 case atStart=>exact ⟨0,zN _,rfl,BRN⟩
 case round=>
  obtain ⟨k,hk,rfl,g⟩:=hrel;by_cases S:k < n
  ·obtain ⟨b,T,I,U,an,nn,m,o,J,p,K,c1,c2,c3,c4,B,C⟩:=(h.below g NLN).cells k (by omega);obtain ⟨V,W,M,X,q,d,s,t,f,u,N,d1,d2,d3,d4,E,F⟩:=(H.below g NLN).cells k (by omega);subst I;subst M;have Y:(k:Int) < (n:Int):=by omega
   obtain rfl:d=nn:=by rw[E.len,B.len]
   obtain rfl:f=J:=by rw[← F.len,← C.len]
   go_wp2_with fail
   have x:=(Below.refl wr.heap.size wr).alloc NLN (.cells #[.int .i64 L[k].op,.int .i64 L[k].num,.string L[k].text,.slice an d m,.slice o f p] 124);have j:=x.alloc x.size (.cells #[.int .i64 L[k].op,.int .i64 L[k].num,.string L[k].text,.slice q d s,.slice t f u] 124);have y:=(Am.new wr #[.int .i64 L[k].op,.int .i64 L[k].num,.string L[k].text,.slice an d m,.slice o f p] 124).alloc (.cells #[.int .i64 L[k].op,.int .i64 L[k].num,.string L[k].text,.slice q d s,.slice t f u] 124);have v:=Am.new (wr.alloc (.cells #[.int .i64 L[k].op,.int .i64 L[k].num,.string L[k].text,.slice an d m,.slice o f p] 124)) #[.int .i64 L[k].op,.int .i64 L[k].num,.string L[k].text,.slice q d s,.slice t f u] 124;simp only[World.size_alloc] at v;generalize (wr.alloc (.cells #[.int .i64 L[k].op,.int .i64 L[k].num,.string L[k].text,.slice an d m,.slice o f p] 124)).alloc (.cells #[.int .i64 L[k].op,.int .i64 L[k].num,.string L[k].text,.slice q d s,.slice t f u] 124)=O at j y v ⊢;refine (Nm _ _ _ _ _ _ O (B.below j NLN) (E.below j NLN)).mono ?_;rintro r P ⟨rfl,b3⟩;have Z:=(y.after b3 NLN).cell 4;have aa:=(v.after b3 NLN).cell 4;have l:=j.trans (b3.mono j.size);clear y v b3 x j K c1 c2 c3 c4 N d1 d2 d3 d4;dsimp only;go_wp2_with fail
   refine (Ow _ _ _ _ _ _ P (C.below l NLN) (F.below l NLN)).mono ?_;rintro r ab ⟨rfl,b4⟩;have Q:=g.trans ((l.trans (b4.mono l.size)).mono g.size);clear l b4 g;dsimp only;go_wp2_with fail
   go_roundw
   case rel=>exact ⟨k+1,by omega,by go_num,Q⟩
   case measure=>simp[intOf] <;> omega
  ·go_wp2_with fail
   go_ret
   exact ⟨rfl,g⟩
theorem LP (a f:Option Addr)(n c i:Nat)(b j:Option Addr)(m d k:Nat)(N:List Nd)(L:List St)(w:World)(h:IZ w a n c N)(t:IZ w f n i N)(g:PO w b m d L)(u:PO w j m k L):
  Calls Tryz.prog 9 #[.agg #[.slice a n c,.slice b m d],.agg #[.slice f n i,.slice j m k]] w fun e w'=>e= .returned (.bool true)∧Below w.heap.size w w':=by
 go_enter Tryz.func9,Tryz.ntmps9
 go_wp2_with fail
 have q:=(Below.refl w.heap.size w).alloc NLN (.cells #[.slice a n c,.slice b m d] 27);have l:=q.alloc q.size (.cells #[.slice f n i,.slice j m k] 27);have s:=(Am.new w #[.slice a n c,.slice b m d] 27).alloc (.cells #[.slice f n i,.slice j m k] 27);have p:=Am.new (w.alloc (.cells #[.slice a n c,.slice b m d] 27)) #[.slice f n i,.slice j m k] 27;simp only[World.size_alloc] at p;generalize (w.alloc (.cells #[.slice a n c,.slice b m d] 27)).alloc (.cells #[.slice f n i,.slice j m k] 27)=v at l s p ⊢;refine (No _ _ _ _ _ _ v (h.below l NLN) (t.below l NLN)).mono ?_;rintro r x ⟨rfl,b3⟩;have z:=(s.after b3 NLN).cell 1;have A:=(p.after b3 NLN).cell 1;have o:=l.trans (b3.mono l.size);clear s p b3 q l;dsimp only;go_wp2_with fail
 refine (Nn _ _ _ _ _ _ x (g.below o NLN) (u.below o NLN)).mono ?_;rintro r B ⟨rfl,b4⟩;have y:=o.trans (b4.mono o.size);clear o b4;dsimp only;go_wp2_with fail
 go_ret
 exact ⟨rfl,y⟩
end Go.Proofs.YtffkofkjpckmpaaGreatDoor

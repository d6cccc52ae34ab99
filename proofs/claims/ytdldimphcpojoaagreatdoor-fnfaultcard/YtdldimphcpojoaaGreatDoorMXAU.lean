/-
  KTL, GP, GQ, GJ, GR, GN, GO. Own work.
-/
import Derived.Test.YtdldimphcpojoaaGreatDoorMXAF
import Derived.Test.YtdldimphcpojoaaGreatDoorMXAO
import Derived.Test.YtdldimphcpojoaaGreatDoorMXAM
namespace Go.Proofs.YtdldimphcpojoaaGreatDoor
set_option maxRecDepth 100000
set_option maxHeartbeats 6400000
open Go.RowKit
set_option linter.unusedVariables false
theorem O0 (w:World)(k:Nat)(hk:k < 24):∃ s:ByteArray,s.size≤40∧(w.alloc (.cells #[.string ⟨#[]⟩,.string ⟨#[33]⟩,.string ⟨#[65]⟩,.string ⟨#[64]⟩,.string ⟨#[61,61]⟩,.string ⟨#[110,111,116,32]⟩,.string ⟨#[105,102,32]⟩,.string ⟨#[32,116,104,101,110,32]⟩,.string ⟨#[34]⟩,.string ⟨#[34,34]⟩,.string ⟨#[40]⟩,.string ⟨#[41]⟩,.string ⟨#[59]⟩,.string ⟨#[123]⟩,.string ⟨#[44]⟩,.string ⟨#[57,57,57,57,57,57,57,57,57,57,57,57,57,57,57,57,57,57,57,57]⟩,.string ⟨#[57,50,50,51,51,55,50,48,51,54,56,53,52,55,55,53,56,48,56]⟩,.string ⟨#[55,97,32]⟩,.string ⟨#[100,101,110,121]⟩,.string ⟨#[61,62]⟩,.string ⟨#[45]⟩,.string ⟨#[115,105,122,101]⟩,.string ⟨#[97,95,110,97,109,101,95,116,104,97,116,95,105,115,95,108,111,110,103,101,114,95,116,104,97,110,95,51,50,95,98,121,116,101,115]⟩,.string ⟨#[101,108,115,101]⟩] 9)).cell? ⟨w.heap.size,k,none⟩=some (.string s):=by
 have h:=(An.new w #[.string ⟨#[]⟩,.string ⟨#[33]⟩,.string ⟨#[65]⟩,.string ⟨#[64]⟩,.string ⟨#[61,61]⟩,.string ⟨#[110,111,116,32]⟩,.string ⟨#[105,102,32]⟩,.string ⟨#[32,116,104,101,110,32]⟩,.string ⟨#[34]⟩,.string ⟨#[34,34]⟩,.string ⟨#[40]⟩,.string ⟨#[41]⟩,.string ⟨#[59]⟩,.string ⟨#[123]⟩,.string ⟨#[44]⟩,.string ⟨#[57,57,57,57,57,57,57,57,57,57,57,57,57,57,57,57,57,57,57,57]⟩,.string ⟨#[57,50,50,51,51,55,50,48,51,54,56,53,52,55,55,53,56,48,56]⟩,.string ⟨#[55,97,32]⟩,.string ⟨#[100,101,110,121]⟩,.string ⟨#[61,62]⟩,.string ⟨#[45]⟩,.string ⟨#[115,105,122,101]⟩,.string ⟨#[97,95,110,97,109,101,95,116,104,97,116,95,105,115,95,108,111,110,103,101,114,95,116,104,97,110,95,51,50,95,98,121,116,101,115]⟩,.string ⟨#[101,108,115,101]⟩] 9).cell k
 match k,hk with
 | 0,_=>exact ⟨_,by decide,h⟩
 | 1,_=>exact ⟨_,by decide,h⟩
 | 2,_=>exact ⟨_,by decide,h⟩
 | 3,_=>exact ⟨_,by decide,h⟩
 | 4,_=>exact ⟨_,by decide,h⟩
 | 5,_=>exact ⟨_,by decide,h⟩
 | 6,_=>exact ⟨_,by decide,h⟩
 | 7,_=>exact ⟨_,by decide,h⟩
 | 8,_=>exact ⟨_,by decide,h⟩
 | 9,_=>exact ⟨_,by decide,h⟩
 | 10,_=>exact ⟨_,by decide,h⟩
 | 11,_=>exact ⟨_,by decide,h⟩
 | 12,_=>exact ⟨_,by decide,h⟩
 | 13,_=>exact ⟨_,by decide,h⟩
 | 14,_=>exact ⟨_,by decide,h⟩
 | 15,_=>exact ⟨_,by decide,h⟩
 | 16,_=>exact ⟨_,by decide,h⟩
 | 17,_=>exact ⟨_,by decide,h⟩
 | 18,_=>exact ⟨_,by decide,h⟩
 | 19,_=>exact ⟨_,by decide,h⟩
 | 20,_=>exact ⟨_,by decide,h⟩
 | 21,_=>exact ⟨_,by decide,h⟩
 | 22,_=>exact ⟨_,by decide,h⟩
 | 23,_=>exact ⟨_,by decide,h⟩
 | n+24,h=>exact absurd h (by omega)
theorem TR (R:Nat)(a:Option Addr)(n c:Nat)(w:World)(h:Cr w R a n c)(s:ByteArray)(hs:s.size≤100000000000):
  Calls Tryz.prog 24 #[.pointer (some ⟨R,0,none⟩),.string s] w fun e w'=>∃ t:ByteArray,e= .returned (.string t)∧t.size≤s.size+100∧Ai R (R+1) w w':=by
 go_enter Tryz.func24,Tryz.ntmps24
 go_wp2_with fail
 refine (BA R a n c w h).mono ?_;rintro e S ⟨x,rfl,z,A,h1,p⟩;clear h;dsimp only;by_cases B: 0 < s.size
 ·have C:(0 :Int) < (s.size:Int):=by omega
  go_wp2_with fail
  refine (BA R a n c S h1).mono ?_;rintro e X ⟨y,rfl,N,O,h2,E⟩;have T:=p.trans E;clear h1 p E;dsimp only;have U:=Int.emod_nonneg (x * 256+y) (show (s.size:Int)≠0 by omega);have L:=Int.emod_lt_of_pos (x * 256+y) C;go_wp2_with fail
  refine (BA R a n c X h2).mono ?_;rintro e f ⟨l,rfl,q,r,h3,m⟩;have i:=T.trans m;clear h2 T m;dsimp only;obtain ⟨j,V⟩:=Int.eq_ofNat_of_zero_le U;rw[V] at L ⊢;clear V U C;have P:j < s.size:=by omega
  obtain ⟨b,u,v⟩:=O0 f (l % 24).toNat (by omega);by_cases Q: 128≤l
  ·by_cases aa:(s.size:Int) < (j:Int)+1+l % 3
   ·skip;have o:(s.extract 0 j).size≤s.size:=by rw[ByteArray.size_extract];omega
    have q2:(s.extract s.size s.size).size≤s.size:=by rw[ByteArray.size_extract];omega
    have q3: ¬ (9223372036854775807 < (s.extract 0 j).size+b.size):=by omega
    have F: ¬ (9223372036854775807 < j+b.size):=by omega
    have H: ¬ (9223372036854775807 < j+b.size+(s.size - s.size)):=by omega
    have q5: ¬ (9223372036854775807 < (s.extract 0 j ++b).size+(s.extract s.size s.size).size):=by rw[Ao];omega
    have q4:(s.extract 0 j ++b).size≤s.size+100:=by simp only[Ao,ByteArray.size_extract];omega
    have I:j≤s.size:=by omega
    have J:s.size≤s.size:=by omega
    have d:=i.then_below ((Below.refl f.heap.size f).alloc NLN (.cells #[.string ⟨#[]⟩,.string ⟨#[33]⟩,.string ⟨#[65]⟩,.string ⟨#[64]⟩,.string ⟨#[61,61]⟩,.string ⟨#[110,111,116,32]⟩,.string ⟨#[105,102,32]⟩,.string ⟨#[32,116,104,101,110,32]⟩,.string ⟨#[34]⟩,.string ⟨#[34,34]⟩,.string ⟨#[40]⟩,.string ⟨#[41]⟩,.string ⟨#[59]⟩,.string ⟨#[123]⟩,.string ⟨#[44]⟩,.string ⟨#[57,57,57,57,57,57,57,57,57,57,57,57,57,57,57,57,57,57,57,57]⟩,.string ⟨#[57,50,50,51,51,55,50,48,51,54,56,53,52,55,55,53,56,48,56]⟩,.string ⟨#[55,97,32]⟩,.string ⟨#[100,101,110,121]⟩,.string ⟨#[61,62]⟩,.string ⟨#[45]⟩,.string ⟨#[115,105,122,101]⟩,.string ⟨#[97,95,110,97,109,101,95,116,104,97,116,95,105,115,95,108,111,110,103,101,114,95,116,104,97,110,95,51,50,95,98,121,116,101,115]⟩,.string ⟨#[101,108,115,101]⟩] 9)) i.size;go_wp2_with fail
    generalize f.alloc (.cells #[.string ⟨#[]⟩,.string ⟨#[33]⟩,.string ⟨#[65]⟩,.string ⟨#[64]⟩,.string ⟨#[61,61]⟩,.string ⟨#[110,111,116,32]⟩,.string ⟨#[105,102,32]⟩,.string ⟨#[32,116,104,101,110,32]⟩,.string ⟨#[34]⟩,.string ⟨#[34,34]⟩,.string ⟨#[40]⟩,.string ⟨#[41]⟩,.string ⟨#[59]⟩,.string ⟨#[123]⟩,.string ⟨#[44]⟩,.string ⟨#[57,57,57,57,57,57,57,57,57,57,57,57,57,57,57,57,57,57,57,57]⟩,.string ⟨#[57,50,50,51,51,55,50,48,51,54,56,53,52,55,55,53,56,48,56]⟩,.string ⟨#[55,97,32]⟩,.string ⟨#[100,101,110,121]⟩,.string ⟨#[61,62]⟩,.string ⟨#[45]⟩,.string ⟨#[115,105,122,101]⟩,.string ⟨#[97,95,110,97,109,101,95,116,104,97,116,95,105,115,95,108,111,110,103,101,114,95,116,104,97,110,95,51,50,95,98,121,116,101,115]⟩,.string ⟨#[101,108,115,101]⟩] 9)=M at d ⊢;clear v;skip;have g:=Ab (And.intro q4 d);clear q4 d;go_region
    clear o q2 q3 F q5 H I J;generalize s.extract 0 j ++b=t at g ⊢;generalize s.extract 0 j ++b=p;generalize s.extract 0 j=E;generalize s.extract s.size s.size=m;clear P L B hs u q r z A N O h3 i;go_wp2_with fail
    go_ret
    exact ⟨_,rfl,(Aa g).1,(Aa g).2.trans (Ai.drewN _ _)⟩
   ·obtain ⟨k,W⟩:∃ k:Nat,(j:Int)+1+l % 3=(k:Int):=⟨(j+1+(l % 3).toNat),by omega⟩
    have ab:k≤s.size:=by omega
    have ac:j≤k:=by omega
    have Y:=Ab W;clear W;have o:(s.extract 0 j).size≤s.size:=by rw[ByteArray.size_extract];omega
    have q2:(s.extract k s.size).size≤s.size:=by rw[ByteArray.size_extract];omega
    have q3: ¬ (9223372036854775807 < (s.extract 0 j).size+b.size):=by omega
    have F: ¬ (9223372036854775807 < j+b.size):=by omega
    have H: ¬ (9223372036854775807 < j+b.size+(s.size - k)):=by omega
    have q5: ¬ (9223372036854775807 < (s.extract 0 j ++b).size+(s.extract k s.size).size):=by rw[Ao];omega
    have q4:(s.extract 0 j ++b ++s.extract k s.size).size≤s.size+100:=by simp only[Ao,ByteArray.size_extract];omega
    have I:j≤s.size:=by omega
    have J:k≤s.size:=by omega
    have d:=i.then_below ((Below.refl f.heap.size f).alloc NLN (.cells #[.string ⟨#[]⟩,.string ⟨#[33]⟩,.string ⟨#[65]⟩,.string ⟨#[64]⟩,.string ⟨#[61,61]⟩,.string ⟨#[110,111,116,32]⟩,.string ⟨#[105,102,32]⟩,.string ⟨#[32,116,104,101,110,32]⟩,.string ⟨#[34]⟩,.string ⟨#[34,34]⟩,.string ⟨#[40]⟩,.string ⟨#[41]⟩,.string ⟨#[59]⟩,.string ⟨#[123]⟩,.string ⟨#[44]⟩,.string ⟨#[57,57,57,57,57,57,57,57,57,57,57,57,57,57,57,57,57,57,57,57]⟩,.string ⟨#[57,50,50,51,51,55,50,48,51,54,56,53,52,55,55,53,56,48,56]⟩,.string ⟨#[55,97,32]⟩,.string ⟨#[100,101,110,121]⟩,.string ⟨#[61,62]⟩,.string ⟨#[45]⟩,.string ⟨#[115,105,122,101]⟩,.string ⟨#[97,95,110,97,109,101,95,116,104,97,116,95,105,115,95,108,111,110,103,101,114,95,116,104,97,110,95,51,50,95,98,121,116,101,115]⟩,.string ⟨#[101,108,115,101]⟩] 9)) i.size;go_wp2_with fail
    generalize f.alloc (.cells #[.string ⟨#[]⟩,.string ⟨#[33]⟩,.string ⟨#[65]⟩,.string ⟨#[64]⟩,.string ⟨#[61,61]⟩,.string ⟨#[110,111,116,32]⟩,.string ⟨#[105,102,32]⟩,.string ⟨#[32,116,104,101,110,32]⟩,.string ⟨#[34]⟩,.string ⟨#[34,34]⟩,.string ⟨#[40]⟩,.string ⟨#[41]⟩,.string ⟨#[59]⟩,.string ⟨#[123]⟩,.string ⟨#[44]⟩,.string ⟨#[57,57,57,57,57,57,57,57,57,57,57,57,57,57,57,57,57,57,57,57]⟩,.string ⟨#[57,50,50,51,51,55,50,48,51,54,56,53,52,55,55,53,56,48,56]⟩,.string ⟨#[55,97,32]⟩,.string ⟨#[100,101,110,121]⟩,.string ⟨#[61,62]⟩,.string ⟨#[45]⟩,.string ⟨#[115,105,122,101]⟩,.string ⟨#[97,95,110,97,109,101,95,116,104,97,116,95,105,115,95,108,111,110,103,101,114,95,116,104,97,110,95,51,50,95,98,121,116,101,115]⟩,.string ⟨#[101,108,115,101]⟩] 9)=M at d ⊢;clear v;rw[Aa Y];have g:=Ab (And.intro q4 d);clear q4 d;go_region
    clear o q2 q3 F q5 H I J;generalize s.extract 0 j ++b ++s.extract k s.size=t at g ⊢;generalize s.extract 0 j ++b=p;generalize s.extract 0 j=E;generalize s.extract k s.size=m;clear P L B hs u q r z A N O h3 i;go_wp2_with fail
    go_ret
    exact ⟨_,rfl,(Aa g).1,(Aa g).2.trans (Ai.drewN _ _)⟩
  ·have Z: ¬ (128≤l):=Q;have o:(s.extract 0 j).size≤s.size:=by rw[ByteArray.size_extract];omega
   have q2:(s.extract j s.size).size≤s.size:=by rw[ByteArray.size_extract];omega
   have q3: ¬ (9223372036854775807 < (s.extract 0 j).size+b.size):=by omega
   have F: ¬ (9223372036854775807 < j+b.size):=by omega
   have H: ¬ (9223372036854775807 < j+b.size+(s.size - j)):=by omega
   have q5: ¬ (9223372036854775807 < (s.extract 0 j ++b).size+(s.extract j s.size).size):=by rw[Ao];omega
   have q4:(s.extract 0 j ++b ++s.extract j s.size).size≤s.size+100:=by simp only[Ao,ByteArray.size_extract];omega
   have I:j≤s.size:=by omega
   have J:j≤s.size:=by omega
   have d:=i.then_below ((Below.refl f.heap.size f).alloc NLN (.cells #[.string ⟨#[]⟩,.string ⟨#[33]⟩,.string ⟨#[65]⟩,.string ⟨#[64]⟩,.string ⟨#[61,61]⟩,.string ⟨#[110,111,116,32]⟩,.string ⟨#[105,102,32]⟩,.string ⟨#[32,116,104,101,110,32]⟩,.string ⟨#[34]⟩,.string ⟨#[34,34]⟩,.string ⟨#[40]⟩,.string ⟨#[41]⟩,.string ⟨#[59]⟩,.string ⟨#[123]⟩,.string ⟨#[44]⟩,.string ⟨#[57,57,57,57,57,57,57,57,57,57,57,57,57,57,57,57,57,57,57,57]⟩,.string ⟨#[57,50,50,51,51,55,50,48,51,54,56,53,52,55,55,53,56,48,56]⟩,.string ⟨#[55,97,32]⟩,.string ⟨#[100,101,110,121]⟩,.string ⟨#[61,62]⟩,.string ⟨#[45]⟩,.string ⟨#[115,105,122,101]⟩,.string ⟨#[97,95,110,97,109,101,95,116,104,97,116,95,105,115,95,108,111,110,103,101,114,95,116,104,97,110,95,51,50,95,98,121,116,101,115]⟩,.string ⟨#[101,108,115,101]⟩] 9)) i.size;go_wp2_with fail
   generalize f.alloc (.cells #[.string ⟨#[]⟩,.string ⟨#[33]⟩,.string ⟨#[65]⟩,.string ⟨#[64]⟩,.string ⟨#[61,61]⟩,.string ⟨#[110,111,116,32]⟩,.string ⟨#[105,102,32]⟩,.string ⟨#[32,116,104,101,110,32]⟩,.string ⟨#[34]⟩,.string ⟨#[34,34]⟩,.string ⟨#[40]⟩,.string ⟨#[41]⟩,.string ⟨#[59]⟩,.string ⟨#[123]⟩,.string ⟨#[44]⟩,.string ⟨#[57,57,57,57,57,57,57,57,57,57,57,57,57,57,57,57,57,57,57,57]⟩,.string ⟨#[57,50,50,51,51,55,50,48,51,54,56,53,52,55,55,53,56,48,56]⟩,.string ⟨#[55,97,32]⟩,.string ⟨#[100,101,110,121]⟩,.string ⟨#[61,62]⟩,.string ⟨#[45]⟩,.string ⟨#[115,105,122,101]⟩,.string ⟨#[97,95,110,97,109,101,95,116,104,97,116,95,105,115,95,108,111,110,103,101,114,95,116,104,97,110,95,51,50,95,98,121,116,101,115]⟩,.string ⟨#[101,108,115,101]⟩] 9)=M at d ⊢;clear v;skip;have g:=Ab (And.intro q4 d);clear q4 d;go_region
   clear o q2 q3 F q5 H I J;generalize s.extract 0 j ++b ++s.extract j s.size=t at g ⊢;generalize s.extract 0 j ++b=p;generalize s.extract 0 j=E;generalize s.extract j s.size=m;clear P L B hs u q r z A N O h3 i;go_wp2_with fail
   go_ret
   exact ⟨_,rfl,(Aa g).1,(Aa g).2.trans (Ai.drewN _ _)⟩
 ·have C: ¬ ((0 :Int) < (s.size:Int)):=by omega
  go_wp2_with fail
  refine (BA R a n c S h1).mono ?_;rintro e f ⟨l,rfl,q,r,h3,m⟩;have i:=p.trans m;clear h1 p m;dsimp only;obtain ⟨b,u,v⟩:=O0 f (l % 24).toNat (by omega);have o: ¬ (9223372036854775807 < b.size):=by omega
  have q2: ¬ (9223372036854775807 < b.size+s.size):=by omega
  have q3: ¬ (9223372036854775807 < 0+b.size):=by omega
  have q5: ¬ (9223372036854775807 < 0+b.size+(s.size - 0)):=by omega
  have d:=i.then_below ((Below.refl f.heap.size f).alloc NLN (.cells #[.string ⟨#[]⟩,.string ⟨#[33]⟩,.string ⟨#[65]⟩,.string ⟨#[64]⟩,.string ⟨#[61,61]⟩,.string ⟨#[110,111,116,32]⟩,.string ⟨#[105,102,32]⟩,.string ⟨#[32,116,104,101,110,32]⟩,.string ⟨#[34]⟩,.string ⟨#[34,34]⟩,.string ⟨#[40]⟩,.string ⟨#[41]⟩,.string ⟨#[59]⟩,.string ⟨#[123]⟩,.string ⟨#[44]⟩,.string ⟨#[57,57,57,57,57,57,57,57,57,57,57,57,57,57,57,57,57,57,57,57]⟩,.string ⟨#[57,50,50,51,51,55,50,48,51,54,56,53,52,55,55,53,56,48,56]⟩,.string ⟨#[55,97,32]⟩,.string ⟨#[100,101,110,121]⟩,.string ⟨#[61,62]⟩,.string ⟨#[45]⟩,.string ⟨#[115,105,122,101]⟩,.string ⟨#[97,95,110,97,109,101,95,116,104,97,116,95,105,115,95,108,111,110,103,101,114,95,116,104,97,110,95,51,50,95,98,121,116,101,115]⟩,.string ⟨#[101,108,115,101]⟩] 9)) i.size;by_cases Q: 128≤l
  ·go_wp2_with fail
   generalize f.alloc (.cells #[.string ⟨#[]⟩,.string ⟨#[33]⟩,.string ⟨#[65]⟩,.string ⟨#[64]⟩,.string ⟨#[61,61]⟩,.string ⟨#[110,111,116,32]⟩,.string ⟨#[105,102,32]⟩,.string ⟨#[32,116,104,101,110,32]⟩,.string ⟨#[34]⟩,.string ⟨#[34,34]⟩,.string ⟨#[40]⟩,.string ⟨#[41]⟩,.string ⟨#[59]⟩,.string ⟨#[123]⟩,.string ⟨#[44]⟩,.string ⟨#[57,57,57,57,57,57,57,57,57,57,57,57,57,57,57,57,57,57,57,57]⟩,.string ⟨#[57,50,50,51,51,55,50,48,51,54,56,53,52,55,55,53,56,48,56]⟩,.string ⟨#[55,97,32]⟩,.string ⟨#[100,101,110,121]⟩,.string ⟨#[61,62]⟩,.string ⟨#[45]⟩,.string ⟨#[115,105,122,101]⟩,.string ⟨#[97,95,110,97,109,101,95,116,104,97,116,95,105,115,95,108,111,110,103,101,114,95,116,104,97,110,95,51,50,95,98,121,116,101,115]⟩,.string ⟨#[101,108,115,101]⟩] 9)=M at d ⊢;clear v;have g:=Ab d;clear d;go_region
   have q4:(b ++s).size≤s.size+100:=by rw[Ao];omega
   clear B C hs u q r z A h3 i o q2 q3 q5;have K:=Ab q4;clear q4;generalize b ++s=t at K ⊢;go_wp2_with fail
   go_ret
   exact ⟨_,rfl,Aa K,(Aa g).trans (Ai.drewN _ _)⟩
  ·have Z: ¬ (128≤l):=Q;go_wp2_with fail
   generalize f.alloc (.cells #[.string ⟨#[]⟩,.string ⟨#[33]⟩,.string ⟨#[65]⟩,.string ⟨#[64]⟩,.string ⟨#[61,61]⟩,.string ⟨#[110,111,116,32]⟩,.string ⟨#[105,102,32]⟩,.string ⟨#[32,116,104,101,110,32]⟩,.string ⟨#[34]⟩,.string ⟨#[34,34]⟩,.string ⟨#[40]⟩,.string ⟨#[41]⟩,.string ⟨#[59]⟩,.string ⟨#[123]⟩,.string ⟨#[44]⟩,.string ⟨#[57,57,57,57,57,57,57,57,57,57,57,57,57,57,57,57,57,57,57,57]⟩,.string ⟨#[57,50,50,51,51,55,50,48,51,54,56,53,52,55,55,53,56,48,56]⟩,.string ⟨#[55,97,32]⟩,.string ⟨#[100,101,110,121]⟩,.string ⟨#[61,62]⟩,.string ⟨#[45]⟩,.string ⟨#[115,105,122,101]⟩,.string ⟨#[97,95,110,97,109,101,95,116,104,97,116,95,105,115,95,108,111,110,103,101,114,95,116,104,97,110,95,51,50,95,98,121,116,101,115]⟩,.string ⟨#[101,108,115,101]⟩] 9)=M at d ⊢;clear v;have g:=Ab d;clear d;go_region
   have q4:(b ++s).size≤s.size+100:=by rw[Ao];omega
   clear B C hs u q r z A h3 i o q2 q3 q5;have K:=Ab q4;clear q4;generalize b ++s=t at K ⊢;go_wp2_with fail
   go_ret
   exact ⟨_,rfl,Aa K,(Aa g).trans (Ai.drewN _ _)⟩
end Go.Proofs.YtdldimphcpojoaaGreatDoor
namespace Go.Proofs.YtdldimphcpojoaaGreatDoor
set_option maxRecDepth 100000
set_option maxHeartbeats 6400000
open Go.RowKit
set_option linter.unusedVariables false
variable {aY : Addr} {pb g c : Nat} {T : List Af} {tl : Nat}
def Zh (aY:Addr) (pb g c:Nat) (T:List Af) (tl:Nat) (R:List ByteArray × Bool × List Af) (w:World) (r:Ending) (w':World):Prop:=
 ((R.2.1=true∧∃ a cx k,r= .returned (.tuple #[.slice a R.1.length cx,.nilIface])∧w'.ownsRow w.heap.size 9 1 (.slice a R.1.length cx) R.1.length (R.1.map Value.string)∧Pp w' pb g c T tl R.2.2 k∧R.1.length≤4000)∨
   (R.2.1=false∧∃ b,r= .returned (.tuple #[.slice none 0 0,BS b])∧Uu aY tl R.2.2 b w'))∧Ai pb (pb+1) w w'
def Xx (pb g c:Nat) (T:List Af) (tl:Nat) (R:List ByteArray × Bool × List Af) (w:World) (n:Nat) (v:Value) (wr:World):Prop:=
 ∃ a cx A r k,v= .slice a A.length cx∧wr.ownsRow w.heap.size 9 1 v A.length (A.map Value.string)∧Pp wr pb g c T tl r k∧IU r A=R∧n=r.length∧A.length+r.length≤T.length∧Ai pb (pb+1) w wr
theorem XS {r:List Af}{b:Nat}(h: ¬ FM (CW b r))(a:List ByteArray):IU r a=(a,false,r):=by
 match r with
 | []=>rfl
 | [t]=>rw[IU,if_neg (show ¬ FM t from h)]
 | t ::u ::q=>rw[IU,if_neg (show ¬ FM t from h)]
theorem WC {t:Af}{r:List Af}(h:FM t)(hs:AL DA r=false)(a:List ByteArray):IU (t ::r) a=(a ++ [t.text],true,r):=by
 match r with
 | []=>rw[IU,if_pos h]
 | u ::q=>rw[IU,if_pos h,if_neg (by rw[show see DA u=false from hs];decide)]
theorem XT {t u:Af}{r:List Af}(h:FM t)(hs:see DA u=true)(a:List ByteArray):IU (t ::u ::r) a=IU r (a ++ [t.text]):=by
 rw[IU,if_pos h,if_pos hs]
theorem Og (a b c d:Value)(w:World):(Instr.field 41 (.agg #[a,b,c,d]) 2).run Tryz.prog w= .ok c w:=by
 simp[Instr.field,run_underlying Tryz.underlying41,Sem.run_bind,part,asAgg,isAgg,go_sem]
theorem Ai.grownP {lo hi:Nat}{w b c:World}{d:Obj}{row:Option Nat}(t:Ai lo hi w b)(a:(b.alloc d).grownBy c row)(f:∀ k,row=some k→w.heap.size≤k):Ai lo hi w c:=by
 have h0:=t.allP ((Below.refl b.heap.size b).alloc NLN d);exact ⟨a.os.trans h0.os,a.tape.trans h0.tape,a.output.trans h0.output,Nat.le_trans h0.size a.size,fun k h1 h2=>(a.block k (Nat.lt_of_lt_of_le h1 h0.size) (fun e=>by have:=f k e.symm;omega)).trans (h0.block k h1 h2)⟩
theorem Pp.grownP {w a:World}{k:Nat}{b:List Af}{lo n:Nat}{v:Value}{j:List Value}{d:Obj}(h:Pp w pb g c T tl b k)(m:∀ q,v.ownBlock=some q→lo≤q)(l:(w.alloc d).grownBy a v.ownBlock)(f:w.ownsRow lo 9 1 v n j):Pp a pb g c T tl b k:=by
 have i:∀ q,q < w.heap.size→v.ownBlock≠some q→a.heap[q]? =w.heap[q]? :=fun q h1 h2=>(l.block q (by simp;omega) (fun e=>h2 e.symm)).trans (Below.heap_alloc w d q h1);exact ⟨⟨(i pb h.row.lt (Ad h.row f (by decide))).trans h.row.out⟩,Ac h.toks (fun q hq=>i q (h.toks.lt q hq).2 (fun e=>Al f h.toks (by decide) q e hq)),h.drop,h.len,h.small⟩
theorem Qt (aD: 17≤pb)(d:List Af)(w:World)(k:Nat)(h:Pp w pb g c T tl d k)(R:Gy w aY):
  Calls Tryz.prog 154 #[.pointer (some ⟨pb,0,none⟩)] w (Zh aY pb g c T tl (FN d) w):=by
 have B:=Ab (AR h BK);have S:=Ab h;have aE:=Ab R;have nz:=h.row.lt;have ah:=h.len;cases hs:AL BK d
 case true=>
  have K:=Ab hs;have j:=Ab (show FN d=([],true,d) by rw[FN,hs];rfl);clear hs h R ah;go_enter Tryz.func154,Tryz.ntmps154
  go_wp2_with fail
  refine (Aa B).mono ?_;rintro e aF ⟨rfl,o⟩;rw[Aa K];dsimp only;go_wp2_with fail
  go_ret2
  rw[Aa j];exact ⟨.inl ⟨rfl,none,0,k,rfl,World.ownsRow_nil _ _ _ _,(Aa S).below o,by simp⟩,Ai.of_below o NLN⟩
 case false=>
  have K:=Ab hs;have j:=Ab (show IU d []=FN d by rw[FN,hs];rfl);have aG:=Ab (show d.length≤T.length by omega);have ai:=Ab h.small;clear hs h R ah;obtain ⟨i,hi,aH,aI,aJ⟩:=info_parts Kc;go_enter Tryz.func154,Tryz.ntmps154
  go_wp2_with fail
  refine (Aa B).mono ?_;rintro e aF ⟨rfl,o⟩;rw[Aa K];dsimp only;go_wp2_with fail
  go_loopw [4] (fun v wr=>∃ n,Xx pb g c T tl (FN d) w n v wr) (fun v wr=>Bu (fun n=>Xx pb g c T tl (FN d) w n v wr))
  case atStart=>exact ⟨d.length,none,0, [],d,k,rfl,World.ownsRow_nil _ _ _ _,(Aa S).below o,Aa j,rfl,by simpa using Aa aG,Ai.of_below o NLN⟩
  case round=>
   clear S B K j o;have hl:=EY hrel;have aj:=Ab (show ∀ n L w',n < Bu (fun n=>Xx pb g c T tl (FN d) w n u4 wr)→Xx pb g c T tl (FN d) w n L w'→Bu (fun n=>Xx pb g c T tl (FN d) w n L w') < Bu (fun n=>Xx pb g c T tl (FN d) w n u4 wr) from fun n L w' h1 h2=>Gp h1 h2);generalize ak:Bu (fun n=>Xx pb g c T tl (FN d) w n u4 wr)=m at hl aj;have aK:=Ab ak;clear ak hrel;obtain ⟨a,al,f,r,aQ,rfl,U,V,ao,hm,ap,z⟩:=hl;have W:=Ab (Bp V);have aq:=Ab V;have X:=Ab ao;have M:=Ab (And.intro hm ap);have aL:=Ab ((Aa aE).touch z aD);have aR:=z.size;clear V ao hm ap;by_cases x:FM (CW tl r)
   ·obtain ⟨t,s,rfl⟩:∃ t s,r=t ::s:=by
     cases r with
     | nil=>exact absurd x.1 (show ¬ (0 :Int)=2 by decide)
     | cons t s=>exact ⟨t,s,rfl⟩
    have N:FM t:=x;have e1:(t.kind != 2)=false:=by rw[N.1];rfl
    have e2:(t.text.toList== [])=false:=by
     cases hc:(t.text.toList== [])
     ·rfl
     ·have:t.text.toList=(Ax []).toList:=by rw[beq_iff_eq] at hc;rw[hc,ByteArray.toList_eq];rfl
      exact absurd ((EW _ _).1 (beq_iff_eq.2 this)) N.2
    have ar:=Ab N;clear x N;go_wp2_with fail
    refine (Aa W).mono ?_;rintro e O ⟨rfl,p⟩;dsimp only[Cw,CW];have l:=p.alloc p.size (.cells #[.int .i64 t.kind,.int .i64 t.num,.string t.text,.int .i64 (t.at_:Int)] 41);have au:=Ab (BD ((Aa aq).below l));have Y:=z.allP l;have C:(O.alloc (.cells #[.int .i64 t.kind,.int .i64 t.num,.string t.text,.int .i64 (t.at_:Int)] 41)).ownsRow w.heap.size 9 1 (.slice a f.length al) f.length (f.map Value.string):=Ac U (fun q hq=>l.block q (U.lt q hq).2);have aS:=Og (.int .i64 t.kind) (.int .i64 t.num) (.string t.text) (.int .i64 (t.at_:Int));go_wp2_with fail
    generalize O.alloc (.cells #[.int .i64 t.kind,.int .i64 t.num,.string t.text,.int .i64 (t.at_:Int)] 41)=aT at au Y C ⊢;refine (Aa au).mono ?_;rintro e P ⟨rfl,av,Z⟩;have aa:=Y.trans Z;have E:P.ownsRow w.heap.size 9 1 (.slice a f.length al) f.length (f.map Value.string):=Ac C (fun q hq=>Z.block q (C.lt q hq).2 (.inr (by have:=(C.lt q hq).1;omega)));clear U C l p Y Z z;have aU:=aa.size;have aV:f.length≤4000:=by have:=(Aa M).2;have:=Aa ai;simp at *;omega
    dsimp only[Cw];go_wp2_with (at_builtin;refine wpList_append_own _ rfl _ _ 34 rfl w.heap.size 9 i (.string ByteArray.empty) 1 16 Tryz.underlying34 hi aH aI aJ rfl (by decide) _ _ _ rfl (E.alloc _) ⟨P.heap.size,0,none⟩ 1 1 [.string t.text] rfl rfl ?c1 ?c2 ?c3 ?c4 ?c5 ?_)
    case c1=>exact cell_one_new _ _ _
    case c2=>intro u hu;simp at hu;subst hu;rfl
    case c3=>unfold maxLen;omega
    case c4=>omega
    case c5=>simp;omega
    intro L aW A ab _;have ac:=av.grownP (fun q hq=>(E.lt q hq).1) ab E;have aM:=aa.grownP ab (fun q hq=>(E.lt q hq).1);obtain ⟨F,H,aw⟩:=Em A;rw[aw] at A ⊢;clear ab E aw av aa;have B:=Ab (AR ac DA);have ax:=Ab ac;clear ac;go_wp2_with fail
    refine (Aa B).mono ?_;rintro e aN ⟨rfl,Q⟩;have I:aN.ownsRow w.heap.size 9 1 (.slice F (f.length+1) H) (f.length+1) (f.map Value.string ++ [.string t.text]):=Ac A (fun q hq=>Q.block q (A.lt q hq).2);have ad:=aM.allP Q;have aO:=Ab (show f.length+1≤4000 by have:=(Aa M).2;have:=Aa ai;simp at *;omega);cases hs:AL DA s
    ·have j:=Ab (show FN d=(f ++ [t.text],true,s) by rw[← Aa X,WC (Aa ar) hs]);clear hs A;dsimp only;go_wp2_with fail
     go_ret2
     rw[Aa j];exact ⟨.inl ⟨rfl,F,H,_,by simp,by simpa using I,(Aa ax).below Q,by simpa using Aa aO⟩,ad⟩
    ·obtain ⟨u,y,rfl⟩:∃ u y,s=u ::y:=by
      cases s with
      | nil=>cases hs
      | cons u y=>exact ⟨u,y,rfl⟩
     have j:=Ab (show IU y (f ++ [t.text])=FN d by rw[← Aa X,XT (Aa ar) hs]);have aP:=Ab (BD ((Aa ax).below Q));clear hs A;dsimp only;go_wp2_with fail
     refine (Aa aP).mono ?_;rintro e ay ⟨rfl,az,ae⟩;have aA:ay.ownsRow w.heap.size 9 1 (.slice F (f.length+1) H) (f.length+1) (f.map Value.string ++ [.string t.text]):=Ac I (fun q hq=>ae.block q (I.lt q hq).2 (.inr (by have:=(I.lt q hq).1;omega)));have aB:=Ab (show Xx pb g c T tl (FN d) w y.length (.slice F (f.length+1) H) ay from ⟨F,H,f ++ [t.text],y,_,by simp,by simpa using aA,az,Aa j,rfl,by have:=(Aa M).2;simp at this ⊢;omega,ad.trans ae⟩);clear I aA az ae ad;dsimp only[Cw];go_wp2_with fail
     go_roundw
     case rel=>exact ⟨_,Aa aB⟩
     case measure=>rw[Aa aK];exact Aa aj _ _ _ (by have:=(Aa M).1;simp at this;omega) (Aa aB)
   ·have j:=Ab (show FN d=(f,false,r) by rw[← Aa X,XS x]);have aC:=Ab (fun w' (o:Below wr.heap.size wr w')=>CM ((Aa aq).below o) ((Aa aL).below o));by_cases J:(CW tl r).kind=2
    ·have e1:((CW tl r).kind != 2)=false:=by rw[J];rfl
     have e2:((CW tl r).text.toList== [])=true:=by
      have:(CW tl r).text=Ax []:=by
       by_cases h0:(CW tl r).text=Ax []
       ·exact h0
       ·exact absurd ⟨J,h0⟩ x
      rw[this,ByteArray.toList_eq];rfl
     clear x J;go_wp2_with fail
     refine (Aa W).mono ?_;rintro e O ⟨rfl,p⟩;generalize CW tl r=t at e1 e2;have l:=p.alloc p.size (.cells #[.int .i64 t.kind,.int .i64 t.num,.string t.text,.int .i64 (t.at_:Int)] 41);dsimp only[Cw];go_wp2_with fail
     refine (Aa aC _ l).mono ?_;rintro e P ⟨b,rfl,af,ag⟩;dsimp only[BS];go_wp2_with fail
     go_ret2
     rw[Aa j];exact ⟨.inr ⟨rfl,b,rfl,af⟩,(z.allP l).allP ag⟩
    ·have e1:((CW tl r).kind != 2)=true:=bne_iff_ne.2 J;clear x J;go_wp2_with fail
     refine (Aa W).mono ?_;rintro e O ⟨rfl,p⟩;generalize CW tl r=t at e1;have l:=p.alloc p.size (.cells #[.int .i64 t.kind,.int .i64 t.num,.string t.text,.int .i64 (t.at_:Int)] 41);dsimp only[Cw];go_wp2_with fail
     refine (Aa aC _ l).mono ?_;rintro e P ⟨b,rfl,af,ag⟩;dsimp only[BS];go_wp2_with fail
     go_ret2
     rw[Aa j];exact ⟨.inr ⟨rfl,b,rfl,af⟩,(z.allP l).allP ag⟩
end Go.Proofs.YtdldimphcpojoaaGreatDoor
namespace Go.Proofs.YtdldimphcpojoaaGreatDoor
set_option maxRecDepth 100000
set_option maxHeartbeats 3200000
open Go.RowKit Go.Lib Go.Sort
set_option linter.unusedVariables false
variable {aY : Addr} {pb g c : Nat} {T : List Af} {tl : Nat}
def I3 (t:Af) (R:List ByteArray × Bool × List Af):PR:=if R.2.1=true then (match R.2.2 with | []=> .bad [] | u ::q=>if see BK u=true then .ok (.set t.at_ R.1) q else .bad (u ::q)) else .bad R.2.2
theorem WD (d c:Nat)(a:Option Addr)(b:List ByteArray)(w:World)(h:w.ownsRow d 9 1 (.slice a b.length c) b.length (b.map Value.string))(i:b.length≤1048576):
  Calls Tryz.prog 155 #[.slice a b.length c] w fun e w'=>e= .returned (.tuple #[])∧w'.ownsRow d 9 1 (.slice a b.length c) b.length (((b.map Ak).mergeSort fun x y=>decide (x≤y)).map encStr)∧w.grownBy w' (Value.slice a b.length c).ownBlock:=by
 by_cases h0:b.length=0
 ·have e:b= []:=List.eq_nil_of_length_eq_zero h0;subst e;refine (Tryz.slices_Sort_string_none a c w).mono ?_;rintro e w' ⟨rfl,rfl⟩;exact ⟨rfl,by simpa using h,World.grownBy.refl _ _⟩
 ·obtain ⟨x,o,j,hx⟩:=Ah h;obtain ⟨f,k,_⟩:=hx (by omega);have l:a=some ⟨f,0,none⟩:=by
   injection j with h1;rw[h1];exact k
  subst l;have g:=h;rw[← Wk] at g;refine (UU d f b.length c (b.map Ak) w g i).mono ?_;rintro e w' ⟨rfl,m,n⟩;exact ⟨rfl,m,n⟩
theorem WE (f c:Nat)(a:Option Addr)(b:List ByteArray)(w:World)(h:w.ownsRow f 9 1 (.slice a b.length c) b.length (((b.map Ak).mergeSort fun x y=>decide (x≤y)).map encStr))(i:b.length≤1048576):
  Calls Tryz.prog 156 #[.slice a b.length c] w fun e w'=>∃ K,Cx b K∧e= .returned (.slice a K.length c)∧w'.ownsRow f 9 1 (.slice a K.length c) K.length (K.map Value.string)∧w.grownBy w' (Value.slice a b.length c).ownBlock:=by
 by_cases h0:b.length=0
 ·have e:b= []:=List.eq_nil_of_length_eq_zero h0;subst e;refine (Tryz.slices_Compact_string_empty a c w).mono ?_;rintro e w' ⟨rfl,rfl⟩;exact ⟨[],⟨rfl,fun x=>Iff.rfl⟩,rfl,by simpa using h,World.grownBy.refl _ _⟩
 ·obtain ⟨x,n,j,hx⟩:=Ah h;obtain ⟨g,k,_⟩:=hx (by omega);have l:a=some ⟨g,0,none⟩:=by
   injection j with h1;rw[h1];exact k
  subst l;refine (Oh f g b.length c _ w h i).mono ?_;rintro e w' ⟨rfl,d,m⟩;have hs:=H5 b;rw[← Wl] at d
  change Cx b ((Kg b).map Ax) at hs
  have e3:(Lib.compact ((b.map Ak).mergeSort fun x y=>decide (x≤y)))=Kg b:=rfl;rw[e3] at d ⊢;have e4:(Kg b).length=((Kg b).map Ax).length:=(List.length_map _).symm;rw[e4] at d ⊢;exact ⟨_,hs,rfl,d,m⟩
theorem Cm {w:World}{B B' n size:Nat}{e:TypeId}{v:Value}{a:List Value}(h:w.ownsRow B e size v n a)(b:B'≤B):w.ownsRow B' e size v n a:=by
 refine ⟨h.1, ?_⟩;rcases h.2 with h0 | ⟨g,cap,c,d,h1,h2⟩
 ·exact .inl h0
 ·exact .inr ⟨g,cap,c,d,Nat.le_trans b h1,h2⟩
theorem Ai.grown0 {lo hi:Nat}{w b c:World}{row:Option Nat}(t:Ai lo hi w b)(a:b.grownBy c row)(d:∀ k,row=some k→w.heap.size≤k):Ai lo hi w c:=
 ⟨a.os.trans t.os,a.tape.trans t.tape,a.output.trans t.output,Nat.le_trans t.size a.size,fun k h1 h2=>(a.block k (Nat.lt_of_lt_of_le h1 t.size) (fun e=>by have:=d k e.symm;omega)).trans (t.block k h1 h2)⟩
theorem Pp.grown0 {w a:World}{k:Nat}{b:List Af}{lo n:Nat}{v:Value}{i:List Value}(h:Pp w pb g c T tl b k)(j:w.grownBy a v.ownBlock)(d:w.ownsRow lo 9 1 v n i):Pp a pb g c T tl b k:=by
 have f:∀ q,q < w.heap.size→v.ownBlock≠some q→a.heap[q]? =w.heap[q]? :=fun q h1 h2=>j.block q h1 (fun e=>h2 e.symm);exact ⟨⟨(f pb h.row.lt (Ad h.row d (by decide))).trans h.row.out⟩,Ac h.toks (fun q hq=>f q (h.toks.lt q hq).2 (fun e=>Al d h.toks (by decide) q e hq)),h.drop,h.len,h.small⟩
theorem WF (s: 17≤pb)(t:Af)(r:List Af)(w:World)(k:Nat)(h:Pp w pb g c T tl (t ::r) k)(E:Gy w aY):
  Calls Tryz.prog 148 #[.pointer (some ⟨pb,0,none⟩)] w (EQ aY pb g c T tl (I3 t (FN r)) w):=by
 have Q:=Ab (BD h);have F:=Ab E;have ag:=Cz (.int .i64 t.kind) (.int .i64 t.num) (.string t.text) (.int .i64 (t.at_:Int));have nz:=h.row.lt;rcases hR:FN r with ⟨f,ah,q⟩
 have R:=Ab hR;clear h E hR;go_enter Tryz.func148,Tryz.ntmps148
 go_wp2_with fail
 refine (Aa Q).mono ?_;rintro e v ⟨rfl,H,m⟩;have I:=Ab (Qt (aY:=aY) s r v _ H ((Aa F).touch m s));have ai:=m.size;rw[Aa R] at I;clear H;dsimp only[Cw];go_wp2_with fail
 refine (Aa I).mono ?_;rintro e S ⟨⟨i,a,j,aj,rfl,l,x,hl⟩ | ⟨i,b,rfl,n⟩,J⟩
 ·dsimp only at i l x hl;subst i;have L:=m.trans J;have U:=Ab (WD v.heap.size j a f S l (by omega));have V:=Ab x;clear x;dsimp only;go_wp2_with fail
  refine (Aa U).mono ?_;rintro e W ⟨rfl,o,y⟩;have X:=Ab ((Aa V).grown0 y l);have M:=L.grown0 y (fun q hq=>by have:=(l.lt q hq).1;omega);have Y:=Ab (WE v.heap.size j a f W o (by omega));clear l y L;dsimp only;go_wp2_with fail
  refine (Aa Y).mono ?_;rintro e Z ⟨K,N,rfl,O,z⟩;have p:=(Aa X).grown0 z o;have A:=M.grown0 z (fun q hq=>by have:=(o.lt q hq).1;omega);have aa:=Ab ((Aa F).touch A s);have ab:=Ab N;have ac:Z.ownsRow (pb+1) 9 1 (.slice a K.length j) K.length (K.map Value.string):=Cm O (by omega);clear N o O z M;cases hq:AL BK q
  ·have B:=Ab (DB p (Aa aa) BK hq);have C:=Ab (show I3 t (f,true,q)= .bad q by
    rw[I3,if_pos rfl];cases q with
    | nil=>rfl
    | cons u q=>exact if_neg (by rw[show see BK u=false from hq];decide))
   clear p hq;dsimp only;go_wp2_with fail
   refine (Aa B).mono ?_;rintro e ad ⟨b,rfl,n,ae⟩;dsimp only[BS];go_wp2_with fail
   go_ret2
   rw[Aa C];exact ⟨⟨_,b,rfl,.inr ⟨_,_,rfl⟩,n⟩,A.allP ae⟩
  ·obtain ⟨u,d,rfl⟩:∃ u d,q=u ::d:=by
    cases q with
    | nil=>cases hq
    | cons u d=>exact ⟨u,d,rfl⟩
   have B:=Ab (CN p BK hq);have C:=Ab (show I3 t (f,true,u ::d)= .ok (.set t.at_ f) d by rw[I3,if_pos rfl];exact if_pos hq);clear p hq;dsimp only;go_wp2_with fail
   refine (Aa B).mono ?_;rintro e ad ⟨rfl,af,P⟩;dsimp only;go_wp2_with fail
   go_ret2
   rw[Aa C];exact ⟨⟨.set t.at_ a K.length j K,_,rfl,⟨rfl,Aa ab⟩,Ex.own_touch P (.set t.at_ a K.length j K) ac,af⟩,A.trans P⟩
 ·dsimp only at i n;subst i;dsimp only[BS];go_wp2_with fail
  go_ret2
  exact ⟨⟨.nilIface,b,rfl,.inl rfl,n⟩,m.trans J⟩
end Go.Proofs.YtdldimphcpojoaaGreatDoor
namespace Go.Proofs.YtdldimphcpojoaaGreatDoor
set_option maxRecDepth 100000
set_option maxHeartbeats 1600000
open Go.RowKit
set_option linter.unusedVariables false
variable {aY : Addr} {pb g c : Nat} {T : List Af} {tl : Nat}
theorem UP (k:Nat)(m:List Af)(x:PR)(d:D (.opd k) m x)(b:∀ nt x,D nt m x→nt.good→nt.rank < (NT.opd k).rank→CS aY pb g c T tl nt m x):CS aY pb g c T tl (.opd k) m x:=by
 intro w l h f;show Calls Tryz.prog 133 #[.pointer (some ⟨pb,0,none⟩),.int .i64 (k:Int)] w (EQ aY pb g c T tl x w);cases d
 case opd1 d=>
  have i:=Ab (b _ _ d (.inr (.inl rfl)) (by decide) w l h f);clear h f b;go_enter Tryz.func133,Tryz.ntmps133
  go_wp2_with fail
  refine (Aa i).mono ?_;intro r n a;obtain ⟨v,e,rfl,o,he⟩:=a.form;have j:=Ab a;clear a;dsimp only;go_wp2_with fail
  go_ret2
  exact Aa j
 case opd2 d=>
  have i:=Ab (b _ _ d trivial (by decide) w l h f);clear h f b;go_enter Tryz.func133,Tryz.ntmps133
  go_wp2_with fail
  refine (Aa i).mono ?_;intro r n a;obtain ⟨v,e,rfl,o,he⟩:=a.form;have j:=Ab a;clear a;dsimp only;go_wp2_with fail
  go_ret2
  exact Aa j
 case opd4 d=>
  have i:=Ab (b _ _ d (.inr (.inr (.inl rfl))) (by decide) w l h f);clear h f b;go_enter Tryz.func133,Tryz.ntmps133
  go_wp2_with fail
  refine (Aa i).mono ?_;intro r n a;obtain ⟨v,e,rfl,o,he⟩:=a.form;have j:=Ab a;clear a;dsimp only;go_wp2_with fail
  go_ret2
  exact Aa j
 case opd5 d=>
  have i:=Ab (b _ _ d (.inr (.inr (.inr rfl))) (by decide) w l h f);clear h f b;go_enter Tryz.func133,Tryz.ntmps133
  go_wp2_with fail
  refine (Aa i).mono ?_;intro r n a;obtain ⟨v,e,rfl,o,he⟩:=a.form;have j:=Ab a;clear a;dsimp only;go_wp2_with fail
  go_ret2
  exact Aa j
 case opd6 d=>
  have i:=Ab (b _ _ d trivial (by decide) w l h f);clear h f b;go_enter Tryz.func133,Tryz.ntmps133
  go_wp2_with fail
  refine (Aa i).mono ?_;intro r n a;obtain ⟨v,e,rfl,o,he⟩:=a.form;have j:=Ab a;clear a;dsimp only;go_wp2_with fail
  go_ret2
  exact Aa j
def PR.pre (i:Nat) (op:Int):PR→PR
 | .ok e q=> .ok (.un i op e) q
 | .bad q=> .bad q
theorem MT (u: 17≤pb)(op:Int)(t:Af)(r:List Af)(x:PR)(w:World)(k:Nat)(h:Pp w pb g c T tl (t ::r) k)(j:Gy w aY)(l:CS aY pb g c T tl .neg r x):
  Calls Tryz.prog 140 #[.pointer (some ⟨pb,0,none⟩),.int .i64 op,.func (.func 137) #[.pointer (some ⟨pb,0,none⟩)] #[]] w (EQ aY pb g c T tl (x.pre t.at_ op) w):=by
 have y:=Ab (BD h);have z:Hid (∀ w' a,Pp w' pb g c T tl r a→Gy w' aY→Calls Tryz.prog 137 #[.pointer (some ⟨pb,0,none⟩)] w' (EQ aY pb g c T tl x w')):=Ab (fun w' a A=>l w' a A);have B:=Ab j;have K:=Cz (.int .i64 t.kind) (.int .i64 t.num) (.string t.text) (.int .i64 (t.at_:Int));clear h j l;go_enter Tryz.func140,Tryz.ntmps140
 go_wp2_with fail
 refine (Aa y).mono ?_;rintro e C ⟨rfl,m,d⟩;dsimp only[Cw];go_wp2_with fail
 refine (Aa z C _ m ((Aa B).touch d u)).mono ?_;clear m;intro L M n;cases x with
 | bad q=>
  obtain ⟨⟨v,b,rfl,E,F⟩,f⟩:=n;rcases E with rfl | ⟨N,O,rfl⟩
  all_goals
   dsimp only[BS];go_wp2_with fail
   go_ret2
   exact ⟨⟨.nilIface,b,rfl,.inl rfl,F⟩,d.trans f⟩
 | ok p q=>
  obtain ⟨⟨e,H,rfl,he,o,I⟩,f⟩:=n;obtain ⟨P,Q,i⟩:=e.form;have s:=Ab (And.intro he o);rw[i];have J:=Ab i;clear he o i;dsimp only;go_wp2_with fail
  go_ret2
  exact ⟨⟨.un t.at_ op e,H,by rw[Ex.val,Aa J];rfl,⟨rfl,rfl,(Aa s).1⟩,(Aa s).2,I⟩,d.trans f⟩
theorem MU (u: 17≤pb)(op:Int)(t:Af)(r:List Af)(x:PR)(w:World)(k:Nat)(h:Pp w pb g c T tl (t ::r) k)(j:Gy w aY)(l:CS aY pb g c T tl .una r x):
  Calls Tryz.prog 140 #[.pointer (some ⟨pb,0,none⟩),.int .i64 op,.func (.func 138) #[.pointer (some ⟨pb,0,none⟩)] #[]] w (EQ aY pb g c T tl (x.pre t.at_ op) w):=by
 have y:=Ab (BD h);have z:Hid (∀ w' a,Pp w' pb g c T tl r a→Gy w' aY→Calls Tryz.prog 138 #[.pointer (some ⟨pb,0,none⟩)] w' (EQ aY pb g c T tl x w')):=Ab (fun w' a A=>l w' a A);have B:=Ab j;have K:=Cz (.int .i64 t.kind) (.int .i64 t.num) (.string t.text) (.int .i64 (t.at_:Int));clear h j l;go_enter Tryz.func140,Tryz.ntmps140
 go_wp2_with fail
 refine (Aa y).mono ?_;rintro e C ⟨rfl,m,d⟩;dsimp only[Cw];go_wp2_with fail
 refine (Aa z C _ m ((Aa B).touch d u)).mono ?_;clear m;intro L M n;cases x with
 | bad q=>
  obtain ⟨⟨v,b,rfl,E,F⟩,f⟩:=n;rcases E with rfl | ⟨N,O,rfl⟩
  all_goals
   dsimp only[BS];go_wp2_with fail
   go_ret2
   exact ⟨⟨.nilIface,b,rfl,.inl rfl,F⟩,d.trans f⟩
 | ok p q=>
  obtain ⟨⟨e,H,rfl,he,o,I⟩,f⟩:=n;obtain ⟨P,Q,i⟩:=e.form;have s:=Ab (And.intro he o);rw[i];have J:=Ab i;clear he o i;dsimp only;go_wp2_with fail
  go_ret2
  exact ⟨⟨.un t.at_ op e,H,by rw[Ex.val,Aa J];rfl,⟨rfl,rfl,(Aa s).1⟩,(Aa s).2,I⟩,d.trans f⟩
theorem LN (u: 17≤pb)(op:Int)(t:Af)(r:List Af)(x:PR)(w:World)(k:Nat)(h:Pp w pb g c T tl (t ::r) k)(j:Gy w aY)(l:CS aY pb g c T tl .encl r x):
  Calls Tryz.prog 140 #[.pointer (some ⟨pb,0,none⟩),.int .i64 op,.func (.func 147) #[.pointer (some ⟨pb,0,none⟩)] #[]] w (EQ aY pb g c T tl (x.pre t.at_ op) w):=by
 have y:=Ab (BD h);have z:Hid (∀ w' a,Pp w' pb g c T tl r a→Gy w' aY→Calls Tryz.prog 147 #[.pointer (some ⟨pb,0,none⟩)] w' (EQ aY pb g c T tl x w')):=Ab (fun w' a A=>l w' a A);have B:=Ab j;have K:=Cz (.int .i64 t.kind) (.int .i64 t.num) (.string t.text) (.int .i64 (t.at_:Int));clear h j l;go_enter Tryz.func140,Tryz.ntmps140
 go_wp2_with fail
 refine (Aa y).mono ?_;rintro e C ⟨rfl,m,d⟩;dsimp only[Cw];go_wp2_with fail
 refine (Aa z C _ m ((Aa B).touch d u)).mono ?_;clear m;intro L M n;cases x with
 | bad q=>
  obtain ⟨⟨v,b,rfl,E,F⟩,f⟩:=n;rcases E with rfl | ⟨N,O,rfl⟩
  all_goals
   dsimp only[BS];go_wp2_with fail
   go_ret2
   exact ⟨⟨.nilIface,b,rfl,.inl rfl,F⟩,d.trans f⟩
 | ok p q=>
  obtain ⟨⟨e,H,rfl,he,o,I⟩,f⟩:=n;obtain ⟨P,Q,i⟩:=e.form;have s:=Ab (And.intro he o);rw[i];have J:=Ab i;clear he o i;dsimp only;go_wp2_with fail
  go_ret2
  exact ⟨⟨.un t.at_ op e,H,by rw[Ex.val,Aa J];rfl,⟨rfl,rfl,(Aa s).1⟩,(Aa s).2,I⟩,d.trans f⟩
theorem UQ (u: 17≤pb)(b:List Af)(x:PR)(d:D .neg b x)(j:∀ x,D .cmp b x→CS aY pb g c T tl .cmp b x)(k:∀ r x,D .neg r x→r.length < b.length→CS aY pb g c T tl .neg r x):CS aY pb g c T tl .neg b x:=by
 intro w p h i;show Calls Tryz.prog 137 #[.pointer (some ⟨pb,0,none⟩)] w (EQ aY pb g c T tl x w);have s:=Ab (AR h Ee);have z:(AL Ee b=false∧D .cmp b x)∨(∃ t r y,b=t ::r∧see Ee t=true∧D .neg r y∧x=y.pre t.at_ 9):=by
  cases d
  case neg_no hs d=>exact .inl ⟨hs,d⟩
  case neg_bad t r q hs d=>exact .inr ⟨t,r,.bad q,rfl,hs,d,rfl⟩
  case neg t r q e hs d=>exact .inr ⟨t,r,.ok e q,rfl,hs,d,rfl⟩
 clear d;rcases z with ⟨hs,d⟩ | ⟨t,r,y,rfl,hs,d,rfl⟩
 ·have l:=Ab hs;have m:=Ab (fun w' (a:Below w.heap.size w w')=>j _ d w' p (h.below a) (i.below a));clear h i j k hs d;go_enter Tryz.func137,Tryz.ntmps137
  go_wp2_with fail
  refine (Aa s).mono ?_;rintro e n ⟨rfl,a⟩;rw[Aa l];dsimp only;go_wp2_with fail
  refine (Aa m n a).mono ?_;intro r A f;obtain ⟨v,e,rfl,B,he⟩:=f.form;have o:=Ab (f.from (Ai.of_below a NLN));clear f;dsimp only;go_wp2_with fail
  go_ret2
  exact Aa o
 ·have l:=Ab (show AL Ee (t ::r)=true from hs);have m:=Ab (fun w' (a:Below w.heap.size w w')=>MT u 9 t r y w' p (h.below a) (i.below a) (k r y d (by simp)));clear h i j k hs d;go_enter Tryz.func137,Tryz.ntmps137
  go_wp2_with fail
  refine (Aa s).mono ?_;rintro e n ⟨rfl,a⟩;rw[Aa l];dsimp only;go_wp2_with fail
  refine (Aa m n a).mono ?_;intro r A f;obtain ⟨v,e,rfl,B,he⟩:=f.form;have o:=Ab (f.from (Ai.of_below a NLN));clear f;dsimp only;go_wp2_with fail
  go_ret2
  exact Aa o
theorem UR (u: 17≤pb)(b:List Af)(x:PR)(d:D .una b x)(j:∀ x,D .prim b x→CS aY pb g c T tl .prim b x)(k:∀ r x,D .una r x→r.length < b.length→CS aY pb g c T tl .una r x):CS aY pb g c T tl .una b x:=by
 intro w p h i;show Calls Tryz.prog 138 #[.pointer (some ⟨pb,0,none⟩)] w (EQ aY pb g c T tl x w);have s:=Ab (AR h AX);have z:(AL AX b=false∧D .prim b x)∨(∃ t r y,b=t ::r∧see AX t=true∧D .una r y∧x=y.pre t.at_ 8):=by
  cases d
  case una_no hs d=>exact .inl ⟨hs,d⟩
  case una_bad t r q hs d=>exact .inr ⟨t,r,.bad q,rfl,hs,d,rfl⟩
  case una t r q e hs d=>exact .inr ⟨t,r,.ok e q,rfl,hs,d,rfl⟩
 clear d;rcases z with ⟨hs,d⟩ | ⟨t,r,y,rfl,hs,d,rfl⟩
 ·have l:=Ab hs;have m:=Ab (fun w' (a:Below w.heap.size w w')=>j _ d w' p (h.below a) (i.below a));clear h i j k hs d;go_enter Tryz.func138,Tryz.ntmps138
  go_wp2_with fail
  refine (Aa s).mono ?_;rintro e n ⟨rfl,a⟩;rw[Aa l];dsimp only;go_wp2_with fail
  refine (Aa m n a).mono ?_;intro r A f;obtain ⟨v,e,rfl,B,he⟩:=f.form;have o:=Ab (f.from (Ai.of_below a NLN));clear f;dsimp only;go_wp2_with fail
  go_ret2
  exact Aa o
 ·have l:=Ab (show AL AX (t ::r)=true from hs);have m:=Ab (fun w' (a:Below w.heap.size w w')=>MU u 8 t r y w' p (h.below a) (i.below a) (k r y d (by simp)));clear h i j k hs d;go_enter Tryz.func138,Tryz.ntmps138
  go_wp2_with fail
  refine (Aa s).mono ?_;rintro e n ⟨rfl,a⟩;rw[Aa l];dsimp only;go_wp2_with fail
  refine (Aa m n a).mono ?_;intro r A f;obtain ⟨v,e,rfl,B,he⟩:=f.form;have o:=Ab (f.from (Ai.of_below a NLN));clear f;dsimp only;go_wp2_with fail
  go_ret2
  exact Aa o
end Go.Proofs.YtdldimphcpojoaaGreatDoor
namespace Go.Proofs.YtdldimphcpojoaaGreatDoor
set_option maxRecDepth 100000
set_option maxHeartbeats 1600000
open Go.RowKit
set_option linter.unusedVariables false
variable {aY : Addr} {pb g c : Nat} {T : List Af} {tl : Nat}
theorem UV (t:Af)(r:List Af)(hk:t.kind=1):CS aY pb g c T tl .prim (t ::r) (.ok (.int t.at_ t.num) r):=by
 intro w k h b;show Calls Tryz.prog 142 #[.pointer (some ⟨pb,0,none⟩)] w (EQ aY pb g c T tl (.ok (.int t.at_ t.num) r) w);have l:=Ab (Bp h);have d:=Ab h;have p:=Ab b;have e1:(t.kind== 1)=true:=beq_iff_eq.2 hk;clear h b hk;go_enter Tryz.func142,Tryz.ntmps142
 go_wp2_with fail
 refine (Aa l).mono ?_;rintro e f ⟨rfl,a⟩;dsimp only[Cw,CW];have i:=a.alloc a.size (.cells #[.int .i64 t.kind,.int .i64 t.num,.string t.text,.int .i64 (t.at_:Int)] 41);have m:=An.new f #[.int .i64 t.kind,.int .i64 t.num,.string t.text,.int .i64 (t.at_:Int)] 41;have nz:=(Aa d).row.lt;have q:=a.size;go_wp2_with fail
 generalize f.alloc (.cells #[.int .i64 t.kind,.int .i64 t.num,.string t.text,.int .i64 (t.at_:Int)] 41)=s at *;have n:=Ab (BD ((Aa d).below i));refine (Aa n).mono ?_;rintro e u ⟨rfl,o,j⟩;obtain ⟨v,c1,c2,c3,x⟩:=AE (m.touchP j (.inr (by omega)));dsimp only[Cw];go_wp2_with fail
 go_ret2
 exact ⟨⟨.int t.at_ t.num,_,rfl,⟨rfl,rfl⟩,trivial,o⟩,(Ai.of_below i NLN).trans j⟩
theorem Tg (t:Af)(r:List Af)(hk:t.kind=2):CS aY pb g c T tl .prim (t ::r) (.ok (.text t.at_ t.text) r):=by
 intro w k h b;show Calls Tryz.prog 142 #[.pointer (some ⟨pb,0,none⟩)] w (EQ aY pb g c T tl (.ok (.text t.at_ t.text) r) w);have l:=Ab (Bp h);have d:=Ab h;have p:=Ab b;have e1:(t.kind== 1)=false:=beq_eq_false_iff_ne.2 (by omega);have e2:(t.kind== 2)=true:=beq_iff_eq.2 hk;clear h b hk;go_enter Tryz.func142,Tryz.ntmps142
 go_wp2_with fail
 refine (Aa l).mono ?_;rintro e f ⟨rfl,a⟩;dsimp only[Cw,CW];have i:=a.alloc a.size (.cells #[.int .i64 t.kind,.int .i64 t.num,.string t.text,.int .i64 (t.at_:Int)] 41);have m:=An.new f #[.int .i64 t.kind,.int .i64 t.num,.string t.text,.int .i64 (t.at_:Int)] 41;have nz:=(Aa d).row.lt;have q:=a.size;go_wp2_with fail
 generalize f.alloc (.cells #[.int .i64 t.kind,.int .i64 t.num,.string t.text,.int .i64 (t.at_:Int)] 41)=s at *;have n:=Ab (BD ((Aa d).below i));refine (Aa n).mono ?_;rintro e u ⟨rfl,o,j⟩;obtain ⟨v,c1,c2,c3,x⟩:=AE (m.touchP j (.inr (by omega)));dsimp only[Cw];go_wp2_with fail
 go_ret2
 exact ⟨⟨.text t.at_ t.text,_,rfl,⟨rfl,rfl⟩,trivial,o⟩,(Ai.of_below i NLN).trans j⟩
theorem Th (t:Af)(r:List Af)(hk:t.kind=3):CS aY pb g c T tl .prim (t ::r) (.ok (.name t.at_ t.text) r):=by
 intro w k h b;show Calls Tryz.prog 142 #[.pointer (some ⟨pb,0,none⟩)] w (EQ aY pb g c T tl (.ok (.name t.at_ t.text) r) w);have l:=Ab (Bp h);have d:=Ab h;have p:=Ab b;have e1:(t.kind== 1)=false:=beq_eq_false_iff_ne.2 (by omega);have e2:(t.kind== 2)=false:=beq_eq_false_iff_ne.2 (by omega);have e3:(t.kind== 3)=true:=beq_iff_eq.2 hk;clear h b hk;go_enter Tryz.func142,Tryz.ntmps142
 go_wp2_with fail
 refine (Aa l).mono ?_;rintro e f ⟨rfl,a⟩;dsimp only[Cw,CW];have i:=a.alloc a.size (.cells #[.int .i64 t.kind,.int .i64 t.num,.string t.text,.int .i64 (t.at_:Int)] 41);have m:=An.new f #[.int .i64 t.kind,.int .i64 t.num,.string t.text,.int .i64 (t.at_:Int)] 41;have nz:=(Aa d).row.lt;have q:=a.size;go_wp2_with fail
 generalize f.alloc (.cells #[.int .i64 t.kind,.int .i64 t.num,.string t.text,.int .i64 (t.at_:Int)] 41)=s at *;have n:=Ab (BD ((Aa d).below i));refine (Aa n).mono ?_;rintro e u ⟨rfl,o,j⟩;obtain ⟨v,c1,c2,c3,x⟩:=AE (m.touchP j (.inr (by omega)));dsimp only[Cw];go_wp2_with fail
 go_ret2
 exact ⟨⟨.name t.at_ t.text,_,rfl,⟨rfl,rfl⟩,trivial,o⟩,(Ai.of_below i NLN).trans j⟩
theorem FU {t:Af}{s:List UInt8}(h:see s t=true):(t.kind== 1)=false∧(t.kind== 2)=false∧(t.kind== 3)=false:=by
 rcases FR h with e | e <;> rw[e] <;> decide
theorem Si {t:Af}{s:List UInt8}(h:see s t=true)(u:List UInt8):(t.text.toList== u)=decide (s=u):=by
 rw[Kt h,ByteArray.toList_eq];show (s== u)=_;by_cases e:s=u
 ·rw[decide_eq_true e,e];simp
 ·rw[decide_eq_false e];simpa using e
theorem UW (t:Af)(r:List Af)(hk:see Ca t=true):CS aY pb g c T tl .prim (t ::r) (.ok (.bool t.at_ true) r):=by
 intro w k h f;show Calls Tryz.prog 142 #[.pointer (some ⟨pb,0,none⟩)] w (EQ aY pb g c T tl (.ok (.bool t.at_ true) r) w);have o:=Ab (Bp h);have i:=Ab h;have z:=Ab f;obtain ⟨e1,e2,e3⟩:=FU hk;have e4:(t.text.toList== [116,114,117,101])=true:=by rw[Si hk];decide
 have p:=Ab (fun s w' (q:Below w.heap.size w w')=>AR (h.below q) s);have u:=Ab (show AL Ca (t ::r)=true from hk);clear h f hk;go_enter Tryz.func142,Tryz.ntmps142
 go_wp2_with fail
 refine (Aa o).mono ?_;rintro e j ⟨rfl,a⟩;dsimp only[Cw,CW];have b:=a.alloc a.size (.cells #[.int .i64 t.kind,.int .i64 t.num,.string t.text,.int .i64 (t.at_:Int)] 41);have l:=An.new j #[.int .i64 t.kind,.int .i64 t.num,.string t.text,.int .i64 (t.at_:Int)] 41;have nz:=(Aa i).row.lt;have A:=a.size;go_wp2_with fail
 generalize j.alloc (.cells #[.int .i64 t.kind,.int .i64 t.num,.string t.text,.int .i64 (t.at_:Int)] 41)=v at *;refine (Aa p Ca v b).mono ?_;rintro e B ⟨rfl,d⟩;rw[Aa u];have m:=b.trans (d.mono b.size);dsimp only;have x:=Ab (BD ((Aa i).below m));obtain ⟨C,b1,b2,b3,E⟩:=AE (l.after d NLN);go_wp2_with fail
 refine (Aa x).mono ?_;rintro e F ⟨rfl,y,n⟩;obtain ⟨H,c1,c2,c3,I⟩:=AE ((l.after d NLN).touchP n (.inr (by omega)));dsimp only[Cw];go_wp2_with fail
 go_ret2
 exact ⟨⟨.bool t.at_ true,_,rfl,⟨rfl,rfl⟩,trivial,y⟩,(Ai.of_below m NLN).trans n⟩
theorem UX (t:Af)(r:List Af)(hk:see Bs t=true):CS aY pb g c T tl .prim (t ::r) (.ok (.bool t.at_ false) r):=by
 intro w k h j;show Calls Tryz.prog 142 #[.pointer (some ⟨pb,0,none⟩)] w (EQ aY pb g c T tl (.ok (.bool t.at_ false) r) w);have u:=Ab (Bp h);have l:=Ab h;have E:=Ab j;obtain ⟨e1,e2,e3⟩:=FU hk;have e4:(t.text.toList== [116,114,117,101])=false:=by rw[Si hk];decide
 have m:=Ab (fun s w' (v:Below w.heap.size w w')=>AR (h.below v) s);have x:=Ab (show AL Ca (t ::r)=false from Ag hk (by decide));have y:=Ab (show AL Bs (t ::r)=true from hk);clear h j hk;go_enter Tryz.func142,Tryz.ntmps142
 go_wp2_with fail
 refine (Aa u).mono ?_;rintro e n ⟨rfl,b⟩;dsimp only[Cw,CW];have d:=b.alloc b.size (.cells #[.int .i64 t.kind,.int .i64 t.num,.string t.text,.int .i64 (t.at_:Int)] 41);have o:=An.new n #[.int .i64 t.kind,.int .i64 t.num,.string t.text,.int .i64 (t.at_:Int)] 41;have nz:=(Aa l).row.lt;have F:=b.size;go_wp2_with fail
 generalize n.alloc (.cells #[.int .i64 t.kind,.int .i64 t.num,.string t.text,.int .i64 (t.at_:Int)] 41)=z at *;refine (Aa m Ca z d).mono ?_;rintro e A ⟨rfl,a⟩;rw[Aa x];have f:=d.trans (a.mono d.size);dsimp only;go_wp2_with fail
 refine (Aa m Bs A f).mono ?_;rintro e H ⟨rfl,i⟩;rw[Aa y];have p:=f.trans (i.mono f.size);dsimp only;have B:=Ab (BD ((Aa l).below p));obtain ⟨I,b1,b2,b3,J⟩:=AE (o.after (a.trans (i.mono a.size)) NLN);go_wp2_with fail
 refine (Aa B).mono ?_;rintro e K ⟨rfl,C,q⟩;obtain ⟨L,c1,c2,c3,M⟩:=AE ((o.after (a.trans (i.mono a.size)) NLN).touchP q (.inr (by omega)));dsimp only[Cw];go_wp2_with fail
 go_ret2
 exact ⟨⟨.bool t.at_ false,_,rfl,⟨rfl,rfl⟩,trivial,C⟩,(Ai.of_below p NLN).trans q⟩
theorem Ma (q: 17≤pb)(t:Af)(r:List Af)(x:PR)(hk:see BO t=true)(n:CS aY pb g c T tl .encl r x):CS aY pb g c T tl .prim (t ::r) (x.pre t.at_ 10):=by
 intro w k h b;show Calls Tryz.prog 142 #[.pointer (some ⟨pb,0,none⟩)] w (EQ aY pb g c T tl (x.pre t.at_ 10) w);have u:=Ab (Bp h);have y:=Ab h;have N:=Ab b;obtain ⟨e1,e2,e3⟩:=FU hk;have z:Hid (∀ w',Below w.heap.size w w'→Calls Tryz.prog 140 #[.pointer (some ⟨pb,0,none⟩),.int .i64 10,.func (.func 147) #[.pointer (some ⟨pb,0,none⟩)] #[]] w' (EQ aY pb g c T tl (x.pre t.at_ 10) w')):=Ab (fun w' a=>LN q 10 t r x w' k (h.below a) (b.below a) n);have d:=Ab (fun s w' (a:Below w.heap.size w w')=>AR (h.below a) s);have A:=Ab (show AL Ca (t ::r)=false from Ag hk (by decide));have B:=Ab (show AL Bs (t ::r)=false from Ag hk (by decide));have C:=Ab (show AL BO (t ::r)=true from hk);clear h b hk n;go_enter Tryz.func142,Tryz.ntmps142
 go_wp2_with fail
 refine (Aa u).mono ?_;rintro e o ⟨rfl,f⟩;dsimp only[Cw,CW];have i:=f.alloc f.size (.cells #[.int .i64 t.kind,.int .i64 t.num,.string t.text,.int .i64 (t.at_:Int)] 41);have O:=An.new o #[.int .i64 t.kind,.int .i64 t.num,.string t.text,.int .i64 (t.at_:Int)] 41;have nz:=(Aa y).row.lt;have P:=f.size;go_wp2_with fail
 generalize o.alloc (.cells #[.int .i64 t.kind,.int .i64 t.num,.string t.text,.int .i64 (t.at_:Int)] 41)=E at *;refine (Aa d Ca E i).mono ?_;rintro e F ⟨rfl,H⟩;rw[Aa A];have j:=i.trans (H.mono i.size);dsimp only;go_wp2_with fail
 refine (Aa d Bs F j).mono ?_;rintro e I ⟨rfl,J⟩;rw[Aa B];have l:=j.trans (J.mono j.size);dsimp only;go_wp2_with fail
 refine (Aa d BO I l).mono ?_;rintro e K ⟨rfl,L⟩;rw[Aa C];have p:=l.trans (L.mono l.size);dsimp only;go_wp2_with fail
 refine (Aa z K p).mono ?_;intro Q R m;obtain ⟨v,e,rfl,S,he⟩:=m.form;have M:=Ab (m.from (Ai.of_below p NLN));clear m;dsimp only;go_wp2_with fail
 go_ret2
 exact Aa M
theorem UY (Q: 17≤pb)(t:Af)(r:List Af)(x:PR)(hk:see AD t=true)(o:CS aY pb g c T tl .encl (t ::r) x):CS aY pb g c T tl .prim (t ::r) (x):=by
 intro w k h d;show Calls Tryz.prog 142 #[.pointer (some ⟨pb,0,none⟩)] w (EQ aY pb g c T tl (x) w);have u:=Ab (Bp h);have y:=Ab h;have R:=Ab d;obtain ⟨e1,e2,e3⟩:=FU hk;have z:Hid (∀ w',Below w.heap.size w w'→Calls Tryz.prog 147 #[.pointer (some ⟨pb,0,none⟩)] w' (EQ aY pb g c T tl (x) w')):=Ab (fun w' a=>o w' k (h.below a) (d.below a));have b:=Ab (fun s w' (a:Below w.heap.size w w')=>AR (h.below a) s);have A:=Ab (show AL Ca (t ::r)=false from Ag hk (by decide));have B:=Ab (show AL Bs (t ::r)=false from Ag hk (by decide));have C:=Ab (show AL BO (t ::r)=false from Ag hk (by decide));have E:=Ab (show AL AD (t ::r)=true from hk);clear h d hk o;go_enter Tryz.func142,Tryz.ntmps142
 go_wp2_with fail
 refine (Aa u).mono ?_;rintro e p ⟨rfl,f⟩;dsimp only[Cw,CW];have i:=f.alloc f.size (.cells #[.int .i64 t.kind,.int .i64 t.num,.string t.text,.int .i64 (t.at_:Int)] 41);have S:=An.new p #[.int .i64 t.kind,.int .i64 t.num,.string t.text,.int .i64 (t.at_:Int)] 41;have nz:=(Aa y).row.lt;have U:=f.size;go_wp2_with fail
 generalize p.alloc (.cells #[.int .i64 t.kind,.int .i64 t.num,.string t.text,.int .i64 (t.at_:Int)] 41)=F at *;refine (Aa b Ca F i).mono ?_;rintro e H ⟨rfl,I⟩;rw[Aa A];have j:=i.trans (I.mono i.size);dsimp only;go_wp2_with fail
 refine (Aa b Bs H j).mono ?_;rintro e J ⟨rfl,K⟩;rw[Aa B];have l:=j.trans (K.mono j.size);dsimp only;go_wp2_with fail
 refine (Aa b BO J l).mono ?_;rintro e L ⟨rfl,M⟩;rw[Aa C];have m:=l.trans (M.mono l.size);dsimp only;go_wp2_with fail
 refine (Aa b AD L m).mono ?_;rintro e N ⟨rfl,O⟩;rw[Aa E];have q:=m.trans (O.mono m.size);dsimp only;go_wp2_with fail
 refine (Aa z N q).mono ?_;intro V W n;obtain ⟨v,e,rfl,X,he⟩:=n.form;have P:=Ab (n.from (Ai.of_below q NLN));clear n;dsimp only;go_wp2_with fail
 go_ret2
 exact Aa P
theorem KA (u: 17≤pb)(t:Af)(r:List Af)(hk:see BV t=true):CS aY pb g c T tl .prim (t ::r) (I3 t (FN r)):=by
 intro w k h d;show Calls Tryz.prog 142 #[.pointer (some ⟨pb,0,none⟩)] w (EQ aY pb g c T tl (I3 t (FN r)) w);have x:=Ab (Bp h);have y:=Ab h;have U:=Ab d;obtain ⟨e1,e2,e3⟩:=FU hk;have z:Hid (∀ w',Below w.heap.size w w'→Calls Tryz.prog 148 #[.pointer (some ⟨pb,0,none⟩)] w' (EQ aY pb g c T tl (I3 t (FN r)) w')):=Ab (fun w' b=>WF u t r w' k (h.below b) (d.below b));have a:=Ab (fun s w' (b:Below w.heap.size w w')=>AR (h.below b) s);have A:=Ab (show AL Ca (t ::r)=false from Ag hk (by decide));have B:=Ab (show AL Bs (t ::r)=false from Ag hk (by decide));have C:=Ab (show AL BO (t ::r)=false from Ag hk (by decide));have E:=Ab (show AL AD (t ::r)=false from Ag hk (by decide));have F:=Ab (show AL BV (t ::r)=true from hk);clear h d hk;go_enter Tryz.func142,Tryz.ntmps142
 go_wp2_with fail
 refine (Aa x).mono ?_;rintro e p ⟨rfl,f⟩;dsimp only[Cw,CW];have i:=f.alloc f.size (.cells #[.int .i64 t.kind,.int .i64 t.num,.string t.text,.int .i64 (t.at_:Int)] 41);have V:=An.new p #[.int .i64 t.kind,.int .i64 t.num,.string t.text,.int .i64 (t.at_:Int)] 41;have nz:=(Aa y).row.lt;have W:=f.size;go_wp2_with fail
 generalize p.alloc (.cells #[.int .i64 t.kind,.int .i64 t.num,.string t.text,.int .i64 (t.at_:Int)] 41)=H at *;refine (Aa a Ca H i).mono ?_;rintro e I ⟨rfl,J⟩;rw[Aa A];have j:=i.trans (J.mono i.size);dsimp only;go_wp2_with fail
 refine (Aa a Bs I j).mono ?_;rintro e K ⟨rfl,L⟩;rw[Aa B];have l:=j.trans (L.mono j.size);dsimp only;go_wp2_with fail
 refine (Aa a BO K l).mono ?_;rintro e M ⟨rfl,N⟩;rw[Aa C];have m:=l.trans (N.mono l.size);dsimp only;go_wp2_with fail
 refine (Aa a AD M m).mono ?_;rintro e O ⟨rfl,P⟩;rw[Aa E];have n:=m.trans (P.mono m.size);dsimp only;go_wp2_with fail
 refine (Aa a BV O n).mono ?_;rintro e Q ⟨rfl,R⟩;rw[Aa F];have q:=n.trans (R.mono n.size);dsimp only;go_wp2_with fail
 refine (Aa z Q q).mono ?_;intro X Y o;obtain ⟨v,e,rfl,Z,he⟩:=o.form;have S:=Ab (o.from (Ai.of_below q NLN));clear o;dsimp only;go_wp2_with fail
 go_ret2
 exact Aa S
theorem Mb (a:List Af)(h1:(CW tl a).kind≠1)(h2:(CW tl a).kind≠2)(h3:(CW tl a).kind≠3)(h4:AL Ca a=false)(h5:AL Bs a=false)(h6:AL BO a=false)(h7:AL AD a=false)(h8:AL BV a=false):CS aY pb g c T tl .prim a (.bad a):=by
 intro w k h i;show Calls Tryz.prog 142 #[.pointer (some ⟨pb,0,none⟩)] w (EQ aY pb g c T tl (.bad a) w);have u:=Ab (Bp h);have v:=Ab h;have S:=Ab i;have e1:((CW tl a).kind== 1)=false:=beq_eq_false_iff_ne.2 h1;have e2:((CW tl a).kind== 2)=false:=beq_eq_false_iff_ne.2 h2;have e3:((CW tl a).kind== 3)=false:=beq_eq_false_iff_ne.2 h3;have x:=Ab h4;have y:=Ab h5;have z:=Ab h6;have A:=Ab h7;have B:=Ab h8;have d:=Ab (fun s w' (f:Below w.heap.size w w')=>AR (h.below f) s);have C:=Ab (fun w' (f:Below w.heap.size w w')=>CM (h.below f) (i.below f));clear h i h1 h2 h3 h4 h5 h6 h7 h8;go_enter Tryz.func142,Tryz.ntmps142
 go_wp2_with fail
 refine (Aa u).mono ?_;rintro e q ⟨rfl,j⟩;generalize CW tl a=t at e1 e2 e3;dsimp only[Cw];have l:=j.alloc j.size (.cells #[.int .i64 t.kind,.int .i64 t.num,.string t.text,.int .i64 (t.at_:Int)] 41);have U:=An.new q #[.int .i64 t.kind,.int .i64 t.num,.string t.text,.int .i64 (t.at_:Int)] 41;have nz:=(Aa v).row.lt;have V:=j.size;go_wp2_with fail
 generalize q.alloc (.cells #[.int .i64 t.kind,.int .i64 t.num,.string t.text,.int .i64 (t.at_:Int)] 41)=E at *;refine (Aa d Ca E l).mono ?_;rintro e F ⟨rfl,H⟩;rw[Aa x];have m:=l.trans (H.mono l.size);dsimp only;go_wp2_with fail
 refine (Aa d Bs F m).mono ?_;rintro e I ⟨rfl,J⟩;rw[Aa y];have n:=m.trans (J.mono m.size);dsimp only;go_wp2_with fail
 refine (Aa d BO I n).mono ?_;rintro e K ⟨rfl,L⟩;rw[Aa z];have o:=n.trans (L.mono n.size);dsimp only;go_wp2_with fail
 refine (Aa d AD K o).mono ?_;rintro e M ⟨rfl,N⟩;rw[Aa A];have p:=o.trans (N.mono o.size);dsimp only;go_wp2_with fail
 refine (Aa d BV M p).mono ?_;rintro e O ⟨rfl,P⟩;rw[Aa B];have r:=p.trans (P.mono p.size);dsimp only;go_wp2_with fail
 refine (Aa C O r).mono ?_;rintro e W ⟨b,rfl,Q,R⟩;dsimp only[BS];go_wp2_with fail
 go_ret2
 exact ⟨⟨.nilIface,b,rfl,.inl rfl,Q⟩,(Ai.of_below r NLN).allP R⟩
theorem Ti (a: 17≤pb)(b:List Af)(x:PR)(d:D .prim b x)(f:∀ r x,D .encl r x→r.length≤b.length→CS aY pb g c T tl .encl r x):CS aY pb g c T tl .prim b x:=by
 cases d with
 | num h=>exact UV _ _ h
 | text h=>exact Tg _ _ h
 | name h=>exact Th _ _ h
 | tru h=>exact UW _ _ h
 | fls h=>exact UX _ _ h
 | @size_bad t r q h d=>exact Ma a t r _ h (f r _ d (by simp))
 | @size t r q e h d=>exact Ma a t r _ h (f r _ d (by simp))
 | @par t r x h d=>exact UY a t r x h (f _ _ d NLN)
 | @set_bad t r q i h hs=>
  have e:I3 t (FN r)= .bad q:=by rw[hs];rfl
  rw[← e];exact KA a t r h
 | @set_end t r q i h hs hq=>
  have e:I3 t (FN r)= .bad q:=by
   rw[hs,I3,if_pos rfl];cases q with
   | nil=>rfl
   | cons u q=>exact if_neg (by rw[show see BK u=false from hq];decide)
  rw[← e];exact KA a t r h
 | @set t u r q i h hs hq=>
  have e:I3 t (FN r)= .ok (.set t.at_ i) q:=by rw[hs,I3,if_pos rfl];exact if_pos hq
  rw[← e];exact KA a t r h
 | prim_nil=>exact Mb [] (show (0 :Int)≠1 by decide) (show (0 :Int)≠2 by decide) (show (0 :Int)≠3 by decide) rfl rfl rfl rfl rfl
 | prim_no h1 h2 h3 h4 h5 h6 h7 h8=>exact Mb _ h1 h2 h3 h4 h5 h6 h7 h8
end Go.Proofs.YtdldimphcpojoaaGreatDoor
namespace Go.Proofs.YtdldimphcpojoaaGreatDoor
set_option maxRecDepth 100000
set_option maxHeartbeats 3200000
open Go.RowKit
set_option linter.unusedVariables false
variable {aY : Addr} {pb g c : Nat} {T : List Af} {tl : Nat}
theorem UT (E: 17≤pb)(o:List Af)(x:PR)(d:D .cmp o x)(k:∀ r x,D (.opd 4) r x→r.length≤o.length→CS aY pb g c T tl (.opd 4) r x):CS aY pb g c T tl .cmp o x:=by
 intro w F h l;show Calls Tryz.prog 141 #[.pointer (some ⟨pb,0,none⟩)] w (EQ aY pb g c T tl x w);have U:(∃ q,D (.opd 4) o (.bad q)∧x= .bad q)∨(∃ a r,D (.opd 4) o (.ok a r)∧NV 4 r=none∧x= .ok a r)∨(∃ a t r op y,D (.opd 4) o (.ok a (t ::r))∧CF 4 t=some op∧D (.opd 4) r y∧x=y.two t.at_ op a):=by
  cases d with
  | cmp_bad d=>exact .inl ⟨_,d,rfl⟩
  | cmp_one d h=>exact .inr (.inl ⟨_,_,d,h,rfl⟩)
  | cmp_two_bad d h d2=>exact .inr (.inr ⟨_,_,_,_,_,d,h,d2,rfl⟩)
  | cmp_two d h d2=>exact .inr (.inr ⟨_,_,_,_,_,d,h,d2,rfl⟩)
 have H:=Ab l;clear d;rcases U with ⟨q,d,rfl⟩ | ⟨a,r,d,N,rfl⟩ | ⟨a,t,r,op,y,d,O,d2,rfl⟩
 ·have z:Hid (Calls Tryz.prog 133 #[.pointer (some ⟨pb,0,none⟩),.int .i64 4] w (EQ aY pb g c T tl (.bad q) w)):=Ab (k _ _ d NLN w F h l);clear h l k d;go_enter Tryz.func141,Tryz.ntmps141
  go_wp2_with fail
  refine (Aa z).mono ?_;rintro A f ⟨⟨v,b,rfl,P,R⟩,i⟩;rcases P with rfl | ⟨ac,ad,rfl⟩
  all_goals
   dsimp only[BS];go_wp2_with fail
   go_ret2
   exact ⟨⟨.nilIface,b,rfl,.inl rfl,R⟩,i⟩
 ·have z:Hid (Calls Tryz.prog 133 #[.pointer (some ⟨pb,0,none⟩),.int .i64 4] w (EQ aY pb g c T tl (.ok a r) w)):=Ab (k _ _ d NLN w F h l);have I:=Ab (show CF 4 (CW tl r)=none by rw[← Sh];exact N);clear h l k d N;go_enter Tryz.func141,Tryz.ntmps141
  go_wp2_with fail
  refine (Aa z).mono ?_;rintro A f ⟨⟨j,J,rfl,he,B,m⟩,i⟩;have K:Hid (Calls Tryz.prog 134 #[.pointer (some ⟨pb,0,none⟩),.int .i64 4] f fun e w'=>WA 4 (CW tl r) e∧Below f.heap.size f w'):=Ab (EE (aY:=aY) 4 m ((Aa H).touch i E));have V:=Ab m;have Q:=Ab (And.intro he B);obtain ⟨W,X,p⟩:=j.form;have Y:=Ab p;rw[p];clear he B m p;dsimp only;go_wp2_with fail
  refine (Aa K).mono ?_;rintro A Z ⟨C,s⟩;rw[WA,Aa I] at C;subst C;dsimp only;go_wp2_with fail
  go_ret2
  have n:=s.alloc s.size (.cells #[.int .i64 0,.int .i64 0,.string ⟨#[]⟩] 220);exact ⟨⟨j,J,by rw[Aa Y];rfl,(Aa Q).1,j.own_touch (Ai.of_below n NLN) (Aa Q).2,(Aa V).below n⟩,i.allP n⟩
 ·have z:Hid (Calls Tryz.prog 133 #[.pointer (some ⟨pb,0,none⟩),.int .i64 4] w (EQ aY pb g c T tl (.ok a (t ::r)) w)):=Ab (k _ _ d NLN w F h l);have aa:=Ab (k r y d2 (by have:=d.less rfl;simp at this;omega));have I:=Ab (show CF 4 (CW tl (t ::r))=some op from O);clear h l k d d2 O;go_enter Tryz.func141,Tryz.ntmps141
  go_wp2_with fail
  refine (Aa z).mono ?_;rintro A f ⟨⟨j,J,rfl,he,B,m⟩,i⟩;have K:Hid (Calls Tryz.prog 134 #[.pointer (some ⟨pb,0,none⟩),.int .i64 4] f fun e w'=>WA 4 (CW tl (t ::r)) e∧Below f.heap.size f w'):=Ab (EE (aY:=aY) 4 m ((Aa H).touch i E));have S:Hid (∀ w' u,Below f.heap.size f w'→Calls Tryz.prog 135 #[.pointer (some ⟨pb,0,none⟩),.agg #[.int .i64 op,.int .i64 4,.string u],j.val] w' (EQ aY pb g c T tl (y.two t.at_ op a) w')):=Ab (fun w' u L=>Ky E 4 op u j a t r y w' J (m.below L) (((Aa H).touch i E).below L) he (j.own_touch (Ai.of_below L NLN) B) (Aa aa));obtain ⟨W,X,p⟩:=j.form;rw[p] at S ⊢;clear he B m p;dsimp only;go_wp2_with fail
  refine (Aa K).mono ?_;rintro A Z ⟨C,s⟩;rw[WA,Aa I] at C;obtain ⟨u,rfl⟩:=C;dsimp only;have n:=s.alloc s.size (.cells #[.int .i64 op,.int .i64 4,.string u] 220);go_wp2_with fail
  refine (Aa S _ u n).mono ?_;intro A ae M;obtain ⟨v,e,rfl,P,he⟩:=M.form;have ab:=Ab (M.from (i.allP n));clear M n s;dsimp only;go_wp2_with fail
  go_ret2
  exact Aa ab
end Go.Proofs.YtdldimphcpojoaaGreatDoor
namespace Go.Proofs.YtdldimphcpojoaaGreatDoor
set_option maxRecDepth 100000
set_option maxHeartbeats 6400000
open Go.RowKit
set_option linter.unusedVariables false
variable {aY : Addr} {pb g c : Nat} {T : List Af} {tl : Nat}
def XR:Nat→List UInt8
 | 0=>Du
 | 1=>BQ
 | _=>AI
def Cg (i0:Nat) (x:PR):Nat→List Pt→List Af→Prop
 | 0,L,r=>∃ a b d,L= [a,b,d]∧x= .ok (.ite i0 a b d) r
 | n+1,L,r=>∃ y,D (.beh (XR (2 - n))) r y∧(∀ q,y= .bad q→x= .bad q)∧∀ p q,y= .ok p q→Cg i0 x n (L ++ [p]) q∧q.length≤r.length
theorem D.choice {t:Af}{r:List Af}{x:PR}(d:D .expr (t ::r) x)(h:see Du t=true):Cg t.at_ x 3 [] (t ::r):=by
 cases d with
 | expr_no a d=>rw[AL,h] at a;cases a
 | expr_if1 _ d1=>exact ⟨_,d1,fun q e=>(by cases e;rfl),fun p q e=>by cases e⟩
 | expr_if2 _ d1 d2=>exact ⟨_,d1,fun q e=>(by cases e),fun p q e=>by cases e;exact ⟨⟨_,d2,fun q e=>(by cases e;rfl),fun p q e=>by cases e⟩,d1.len⟩⟩
 | expr_if3 _ d1 d2 d3=>exact ⟨_,d1,fun q e=>(by cases e),fun p q e=>by cases e;exact ⟨⟨_,d2,fun q e=>(by cases e),fun p q e=>by cases e;exact ⟨⟨_,d3,fun q e=>(by cases e;rfl),fun p q e=>by cases e⟩,d2.len⟩⟩,d1.len⟩⟩
 | expr_if _ d1 d2 d3=>exact ⟨_,d1,fun q e=>(by cases e),fun p q e=>by cases e;exact ⟨⟨_,d2,fun q e=>(by cases e),fun p q e=>by cases e;exact ⟨⟨_,d3,fun q e=>(by cases e),fun p q e=>by cases e;exact ⟨⟨_,_,_,rfl,rfl⟩,d3.len⟩⟩,d2.len⟩⟩,d1.len⟩⟩
def Of (E:List Ex):Array Value:=(E.map Ex.val ++List.replicate (3 - E.length) Value.nilIface).toArray
def Kz (lo:Nat) (w:World):List Ex→List Pt→Prop
 | [], []=>True
 | e ::E,p ::L=>Er e p∧e.own lo w∧Kz lo w E L
 | _,_=>False
theorem Kz.touch {a:Nat}{w w':World}(T:Ai a (a+1) w w'):∀ (b:List Ex) (L:List Pt),Kz (a+1) w b L→Kz (a+1) w' b L
 | [], [],_=>trivial
 | e ::b,p ::L,h=>⟨h.1,e.own_touch T h.2.1,Kz.touch T b L h.2.2⟩
 | [],_ ::_,h=>h
 | _ ::_, [],h=>h
theorem Kz.snoc {lo:Nat}{w:World}{e:Ex}{p:Pt}(he:Er e p)(b:e.own lo w):∀ (a:List Ex) (L:List Pt),Kz lo w a L→Kz lo w (a ++ [e]) (L ++ [p])
 | [], [],_=>⟨he,b,trivial⟩
 | _ ::a,_ ::L,h=>⟨h.1,h.2.1,Kz.snoc he b a L h.2.2⟩
 | [],_ ::_,h=>absurd h id
 | _ ::_, [],h=>absurd h id
theorem Ex.own_set {lo:Nat}{w:World}{b:Nat}{cs:Array Value}{f:TypeId}(R:An w b cs f)(d:f≠9)(j:Nat)(v:Value):∀ (e:Ex),e.own lo w→e.own lo (w.setCell ⟨b,j,none⟩ v)
 | .int ..,h=>h
 | .text ..,h=>h
 | .bool ..,h=>h
 | .set _ a n c ss,h=>by
  have g:w.ownsRow lo 9 1 (.slice a n c) n (ss.map Value.string):=h;exact Ac g (fun q hq=>heap_setCell_other w ⟨b,j,none⟩ q v (fun e=>Ad R g d (by rw[hq,e])))
 | .name ..,h=>h
 | .attr ..,h=>h
 | .lett ..,h=>h
 | .un _ _ k,h=>k.own_set R d j v h
 | .bin _ _ l r,h=>⟨l.own_set R d j v h.1,r.own_set R d j v h.2⟩
 | .ite _ c t e,h=>⟨c.own_set R d j v h.1,t.own_set R d j v h.2.1,e.own_set R d j v h.2.2⟩
theorem Kz.setP {lo:Nat}{w:World}{b:Nat}{cs:Array Value}{c:TypeId}(R:An w b cs c)(d:c≠9)(j:Nat)(v:Value):∀ (a:List Ex) (L:List Pt),Kz lo w a L→Kz lo (w.setCell ⟨b,j,none⟩ v) a L
 | [], [],_=>trivial
 | e ::a,p ::L,h=>⟨h.1,e.own_set R d j v h.2.1,Kz.setP R d j v a L h.2.2⟩
 | [],_ ::_,h=>h
 | _ ::_, [],h=>h
theorem Pp.setP {w:World}{k:Nat}{f:List Af}(h:Pp w pb g c T tl f k){b:Nat}{cs:Array Value}{d:TypeId}(R:An w b cs d)(h1:d≠79)(h2:d≠41)(j:Nat)(v:Value):Pp (w.setCell ⟨b,j,none⟩ v) pb g c T tl f k:=by
 have i:pb≠b:=fun e=>by
  have l:=R.out;have a:=h.row.out;rw[e,l] at a;injection a with a;injection a with _ a;exact h1 a
 exact ⟨⟨(heap_setCell_other w ⟨b,j,none⟩ pb v i).trans h.row.out⟩,Ac h.toks (fun q hq=>heap_setCell_other w ⟨b,j,none⟩ q v (fun e=>Ad R h.toks h2 (by rw[hq,e]))),h.drop,h.len,h.small⟩
theorem YL (w:World):(Instr.index 218 (.agg #[.string ⟨#[105,102]⟩,.string ⟨#[116,104,101,110]⟩,.string ⟨#[101,108,115,101]⟩]) (.int .i64 0)).run Tryz.prog w= .ok (.string ⟨#[105,102]⟩) w:=by kernel_rfl
theorem YM (w:World):(Instr.index 218 (.agg #[.string ⟨#[105,102]⟩,.string ⟨#[116,104,101,110]⟩,.string ⟨#[101,108,115,101]⟩]) (.int .i64 1)).run Tryz.prog w= .ok (.string ⟨#[116,104,101,110]⟩) w:=by kernel_rfl
theorem YN (w:World):(Instr.index 218 (.agg #[.string ⟨#[105,102]⟩,.string ⟨#[116,104,101,110]⟩,.string ⟨#[101,108,115,101]⟩]) (.int .i64 2)).run Tryz.prog w= .ok (.string ⟨#[101,108,115,101]⟩) w:=by kernel_rfl
theorem Qs (au: 17≤pb)(t:Af)(r:List Af)(x:PR)(hc:Cg t.at_ x 3 [] (t ::r))(aC:∀ s av x,D (.beh s) av x→av.length≤r.length+1→CS aY pb g c T tl (.beh s) av x)(w:World)(k:Nat)(h:Pp w pb g c T tl (t ::r) k)(aD:Gy w aY):
  Calls Tryz.prog 126 #[.pointer (some ⟨pb,0,none⟩)] w (EQ aY pb g c T tl x w):=by
 have aa:=Ab (Bp h);have aw:=Ab aC;have ab:=Ab hc;have ac:=Ab h;have ax:=Ab aD;have aS:=Cz (.int .i64 t.kind) (.int .i64 t.num) (.string t.text) (.int .i64 (t.at_:Int));have nz:=h.row.lt;clear aC hc h aD;go_enter Tryz.func126,Tryz.ntmps126
 go_wp2_with fail
 refine (Aa aa).mono ?_;rintro e m ⟨rfl,ay⟩;dsimp only[Cw,CW];have aT:=ay.size;have az:=ay.alloc ay.size (.cells #[.nilIface,.nilIface,.nilIface] 217);have aE:=An.new m #[.nilIface,.nilIface,.nilIface] 217;go_wp2_with fail
 go_loopw [14] (fun aA wr=>∃ (i:Nat) (z:List Ex) (L:List Pt) (q:List Af) (Z:Nat),aA= .int .i64 i∧i≤3∧z.length=i∧Kz (pb+1) wr z L∧Cg t.at_ x (3 - i) L q∧q.length≤r.length+1∧Pp wr pb g c T tl q Z∧An wr m.heap.size (Of z) 217∧Ai pb (pb+1) w wr) (fun aA _=>3 - (intOf aA).toNat)
 case atStart=>exact ⟨0, [], [],t ::r,k,rfl,by omega,rfl,trivial,Aa ab,by simp,(Aa ac).below az,aE,Ai.of_below az NLN⟩
 case round=>
  clear aE az;obtain ⟨i,z,L,q,Z,rfl,hi,J,K,u,hq,M,I,F⟩:=hrel;have aB:pb+1≤m.heap.size:=by omega
  have aL:i=0∨i=1∨i=2∨i=3:=by omega
  rcases aL with rfl | rfl | rfl | rfl
  ·have aM:z= []:=List.eq_nil_of_length_eq_zero J;subst aM;obtain ⟨y,N,O,P⟩:∃ y,D (.beh (XR 0)) q y∧(∀ f,y= .bad f→x= .bad f)∧∀ p f,y= .ok p f→Cg t.at_ x 2 (L ++ [p]) f∧f.length≤q.length:=u;have Q:Hid (Calls Tryz.prog 108 #[.pointer (some ⟨pb,0,none⟩),.string (Ax (XR 0))] wr (EQ aY pb g c T tl y wr)):=Ab (Aa aw _ q y N hq wr Z M ((Aa ax).touch F au));have A:=Ab (And.intro O P);have H:=Ab K;have ad:=Ab hq;clear J K hq N O P M hi ab ac aa;have aF:=YL;go_wp2_with fail
   refine (Aa Q).mono ?_;intro aG ae R;cases y with
   | bad f=>
    obtain ⟨⟨v,b,rfl,af,ag⟩,o⟩:=R;have W:=Ab ((Aa A).1 f rfl);rcases af with rfl | ⟨aH,aI,rfl⟩
    all_goals
     dsimp only[BS];go_wp2_with fail
     go_ret2
     rw[Aa W];exact ⟨⟨.nilIface,b,rfl,.inl rfl,ag⟩,F.trans o⟩
   | ok p f=>
    obtain ⟨⟨e,ah,rfl,he,S,U⟩,o⟩:=R;obtain ⟨u,hl⟩:=(Aa A).2 p f rfl;have l:=I.touchP o (.inr aB);have ai:=Ab (Kz.snoc he S _ _ (Kz.touch o _ _ (Aa H)));have V:=Ab (And.intro u hl);have X:=Ab U;obtain ⟨B,C,E⟩:=e.form;have aj:=Ab E;rw[E];clear he S U E u hl I A H Q;have aJ:=fun j=>l.frozen j;have ak:=l.cell 0;have Y:=l.cell 0;have q2:=l.cell 1;have q3:=l.cell 2;simp only[Of,List.map_nil,List.length_nil,List.nil_append,List.getElem?_toArray,List.getElem?_cons_zero,List.getElem?_cons_succ,Nat.reduceSub,List.replicate] at ak Y q2 q3;dsimp only;go_wp2_with fail
    have al:=l.set 0 (.iface B C);have ao:=(F.trans o).setNewP ⟨m.heap.size,0,none⟩ (.iface B C) (by show w.heap.size≤m.heap.size;omega);have aK:=Ai.setCell (lo:=m.heap.size) (hi:=m.heap.size+1) ae ⟨m.heap.size,0,none⟩ (.iface B C) NLN (Nat.lt_succ_self _);go_roundw
    case rel=>exact ⟨1, [e],_,f,ah,rfl,by omega,rfl,Kz.setP l (by decide) _ _ _ _ (Aa ai),(Aa V).1,by have:=Aa ad;have:=(Aa V).2;omega,(Aa X).setP l (by decide) (by decide) _ _,by rw[Of];simp only[List.map_cons,List.map_nil];rw[Aa aj];exact al,ao⟩
    case measure=>simp[intOf]
  ·obtain ⟨n,rfl⟩:∃ n,z= [n]:=by
    match z,J with
    | [n],_=>exact ⟨n,rfl⟩
   obtain ⟨y,N,O,P⟩:∃ y,D (.beh (XR 1)) q y∧(∀ f,y= .bad f→x= .bad f)∧∀ p f,y= .ok p f→Cg t.at_ x 1 (L ++ [p]) f∧f.length≤q.length:=u;have Q:Hid (Calls Tryz.prog 108 #[.pointer (some ⟨pb,0,none⟩),.string (Ax (XR 1))] wr (EQ aY pb g c T tl y wr)):=Ab (Aa aw _ q y N hq wr Z M ((Aa ax).touch F au));have A:=Ab (And.intro O P);have H:=Ab K;have ad:=Ab hq;clear J K hq N O P M hi ab ac aa;have aF:=YM;go_wp2_with fail
   refine (Aa Q).mono ?_;intro aG ae R;cases y with
   | bad f=>
    obtain ⟨⟨v,b,rfl,af,ag⟩,o⟩:=R;have W:=Ab ((Aa A).1 f rfl);rcases af with rfl | ⟨aH,aI,rfl⟩
    all_goals
     dsimp only[BS];go_wp2_with fail
     go_ret2
     rw[Aa W];exact ⟨⟨.nilIface,b,rfl,.inl rfl,ag⟩,F.trans o⟩
   | ok p f=>
    obtain ⟨⟨e,ah,rfl,he,S,U⟩,o⟩:=R;obtain ⟨u,hl⟩:=(Aa A).2 p f rfl;have l:=I.touchP o (.inr aB);have ai:=Ab (Kz.snoc he S _ _ (Kz.touch o _ _ (Aa H)));have V:=Ab (And.intro u hl);have X:=Ab U;obtain ⟨B,C,E⟩:=e.form;have aj:=Ab E;rw[E];clear he S U E u hl I A H Q;have aJ:=fun j=>l.frozen j;have ak:=l.cell 1;have Y:=l.cell 0;have q2:=l.cell 1;have q3:=l.cell 2;simp only[Of,List.map_cons,List.map_nil,List.length_cons,List.length_nil,List.nil_append,List.cons_append,List.getElem?_toArray,List.getElem?_cons_zero,List.getElem?_cons_succ,Nat.reduceAdd,Nat.reduceSub,List.replicate] at ak Y q2 q3;dsimp only;go_wp2_with fail
    have al:=l.set 1 (.iface B C);have ao:=(F.trans o).setNewP ⟨m.heap.size,1,none⟩ (.iface B C) (by show w.heap.size≤m.heap.size;omega);have aK:=Ai.setCell (lo:=m.heap.size) (hi:=m.heap.size+1) ae ⟨m.heap.size,1,none⟩ (.iface B C) NLN (Nat.lt_succ_self _);go_roundw
    case rel=>exact ⟨2, [n,e],_,f,ah,rfl,by omega,rfl,Kz.setP l (by decide) _ _ _ _ (Aa ai),(Aa V).1,by have:=Aa ad;have:=(Aa V).2;omega,(Aa X).setP l (by decide) (by decide) _ _,by rw[Of];simp only[List.map_cons,List.map_nil];rw[Aa aj];exact al,ao⟩
    case measure=>simp[intOf]
  ·obtain ⟨n,e1,rfl⟩:∃ n e1,z= [n,e1]:=by
    match z,J with
    | [n,e1],_=>exact ⟨n,e1,rfl⟩
   obtain ⟨y,N,O,P⟩:∃ y,D (.beh (XR 2)) q y∧(∀ f,y= .bad f→x= .bad f)∧∀ p f,y= .ok p f→Cg t.at_ x 0 (L ++ [p]) f∧f.length≤q.length:=u;have Q:Hid (Calls Tryz.prog 108 #[.pointer (some ⟨pb,0,none⟩),.string (Ax (XR 2))] wr (EQ aY pb g c T tl y wr)):=Ab (Aa aw _ q y N hq wr Z M ((Aa ax).touch F au));have A:=Ab (And.intro O P);have H:=Ab K;have ad:=Ab hq;clear J K hq N O P M hi ab ac aa;have aF:=YN;go_wp2_with fail
   refine (Aa Q).mono ?_;intro aG ae R;cases y with
   | bad f=>
    obtain ⟨⟨v,b,rfl,af,ag⟩,o⟩:=R;have W:=Ab ((Aa A).1 f rfl);rcases af with rfl | ⟨aH,aI,rfl⟩
    all_goals
     dsimp only[BS];go_wp2_with fail
     go_ret2
     rw[Aa W];exact ⟨⟨.nilIface,b,rfl,.inl rfl,ag⟩,F.trans o⟩
   | ok p f=>
    obtain ⟨⟨e,ah,rfl,he,S,U⟩,o⟩:=R;obtain ⟨u,hl⟩:=(Aa A).2 p f rfl;have l:=I.touchP o (.inr aB);have ai:=Ab (Kz.snoc he S _ _ (Kz.touch o _ _ (Aa H)));have V:=Ab (And.intro u hl);have X:=Ab U;obtain ⟨B,C,E⟩:=e.form;have aj:=Ab E;rw[E];clear he S U E u hl I A H Q;have aJ:=fun j=>l.frozen j;have ak:=l.cell 2;have Y:=l.cell 0;have q2:=l.cell 1;have q3:=l.cell 2;simp only[Of,List.map_cons,List.map_nil,List.length_cons,List.length_nil,List.nil_append,List.cons_append,List.getElem?_toArray,List.getElem?_cons_zero,List.getElem?_cons_succ,Nat.reduceAdd,Nat.reduceSub,List.replicate] at ak Y q2 q3;dsimp only;go_wp2_with fail
    have al:=l.set 2 (.iface B C);have ao:=(F.trans o).setNewP ⟨m.heap.size,2,none⟩ (.iface B C) (by show w.heap.size≤m.heap.size;omega);have aK:=Ai.setCell (lo:=m.heap.size) (hi:=m.heap.size+1) ae ⟨m.heap.size,2,none⟩ (.iface B C) NLN (Nat.lt_succ_self _);go_roundw
    case rel=>exact ⟨3, [n,e1,e],_,f,ah,rfl,by omega,rfl,Kz.setP l (by decide) _ _ _ _ (Aa ai),(Aa V).1,by have:=Aa ad;have:=(Aa V).2;omega,(Aa X).setP l (by decide) (by decide) _ _,by rw[Of];simp only[List.map_cons,List.map_nil];rw[Aa aj];exact al,ao⟩
    case measure=>simp[intOf]
  ·obtain ⟨n,e1,e2,rfl⟩:∃ n e1 e2,z= [n,e1,e2]:=by
    match z,J with
    | [n,e1,e2],_=>exact ⟨n,e1,e2,rfl⟩
   obtain ⟨a,b,d,rfl,hx⟩:∃ a b d,L= [a,b,d]∧x= .ok (.ite t.at_ a b d) q:=u;have W:=Ab hx;have H:=Ab K;have X:=Ab M;obtain ⟨aU,aV,ap⟩:=n.form;obtain ⟨aW,aX,aq⟩:=e1.form;obtain ⟨aZ,a0,ar⟩:=e2.form;have Y:=I.cell 0;have q2:=I.cell 1;have q3:=I.cell 2;simp only[Of,List.map_cons,List.map_nil,List.length_cons,List.length_nil,List.nil_append,List.cons_append,List.getElem?_toArray,List.getElem?_cons_zero,List.getElem?_cons_succ,ap,aq,ar] at Y q2 q3;have aN:=Ab (And.intro ap (And.intro aq ar));clear hx K M J hq hi ap aq ar ab ac aa;go_wp2_with fail
   go_ret2
   rw[Aa W];obtain ⟨⟨aO,aP,g1,aQ,g2,aR,_⟩,ap,aq,ar⟩:=And.intro (Aa H) (Aa aN);exact ⟨⟨.ite t.at_ n e1 e2,Z,by rw[Ex.val,ap,aq,ar];rfl,⟨rfl,aO,g1,g2⟩,⟨aP,aQ,aR⟩,Aa X⟩,F⟩
theorem Tf (z: 17≤pb)(b:List Af)(x:PR)(d:D .expr b x)(k:∀ x,D (.chain 1) b x→CS aY pb g c T tl (.chain 1) b x)(l:∀ s m x,D (.beh s) m x→m.length≤b.length→CS aY pb g c T tl (.beh s) m x):CS aY pb g c T tl .expr b x:=by
 intro w u h j;show Calls Tryz.prog 118 #[.pointer (some ⟨pb,0,none⟩)] w (EQ aY pb g c T tl x w);have y:=Ab (AR h Du);have A:(AL Du b=false∧D (.chain 1) b x)∨(∃ t r,b=t ::r∧see Du t=true∧Cg t.at_ x 3 [] (t ::r)):=by
  cases hs:AL Du b
  ·left;cases d with
   | expr_no h d=>exact ⟨rfl,d⟩
   | expr_if1 f _=>rw[AL,f] at hs;cases hs
   | expr_if2 f _ _=>rw[AL,f] at hs;cases hs
   | expr_if3 f _ _ _=>rw[AL,f] at hs;cases hs
   | expr_if f _ _ _=>rw[AL,f] at hs;cases hs
  ·cases b with
   | nil=>cases hs
   | cons t r=>exact .inr ⟨t,r,rfl,hs,d.choice hs⟩
 clear d;rcases A with ⟨hs,d⟩ | ⟨t,r,rfl,hs,hc⟩
 ·have n:=Ab hs;have o:Hid (∀ w',Below w.heap.size w w'→Calls Tryz.prog 127 #[.pointer (some ⟨pb,0,none⟩),.int .i64 1] w' (EQ aY pb g c T tl x w')):=Ab (fun w' a=>k _ d w' u (h.below a) (j.below a));clear h j k l hs d;go_enter Tryz.func118,Tryz.ntmps118
  go_wp2_with fail
  refine (Aa y).mono ?_;rintro e p ⟨rfl,a⟩;rw[Aa n];dsimp only;go_wp2_with fail
  refine (Aa o p a).mono ?_;intro r B i;obtain ⟨v,e,rfl,C,he⟩:=i.form;have q:=Ab (i.from (Ai.of_below a NLN));clear i;dsimp only;go_wp2_with fail
  go_ret2
  exact Aa q
 ·have n:=Ab (show AL Du (t ::r)=true from hs);have o:=Ab (fun w' (a:Below w.heap.size w w')=>Qs z t r x hc l w' u (h.below a) (j.below a));clear h j k l hs hc;go_enter Tryz.func118,Tryz.ntmps118
  go_wp2_with fail
  refine (Aa y).mono ?_;rintro e p ⟨rfl,a⟩;rw[Aa n];dsimp only;go_wp2_with fail
  refine (Aa o p a).mono ?_;intro r B i;obtain ⟨v,e,rfl,C,he⟩:=i.form;have q:=Ab (i.from (Ai.of_below a NLN));clear i;dsimp only;go_wp2_with fail
  go_ret2
  exact Aa q
end Go.Proofs.YtdldimphcpojoaaGreatDoor

/-
  Drawn texts: spoilt ones (written by mkktl.py). Own work.
-/
import Derived.Test.YtcpdodmoheebaaaGreatDoorMXAM
import Derived.Test.YtcpdodmoheebaaaGreatDoorMXAF
namespace Go.Proofs.YtcpdodmoheebaaaGreatDoor
set_option maxRecDepth 100000
set_option maxHeartbeats 6400000
open Go.RowKit
set_option linter.unusedVariables false
theorem GX (w:World)(k:Nat)(a:k < 24):∃ s:ByteArray,s.size≤40∧(w.alloc (.cells #[.string ⟨#[]⟩,.string ⟨#[33]⟩,.string ⟨#[65]⟩,.string ⟨#[64]⟩,.string ⟨#[61,61]⟩,.string ⟨#[110,111,116,32]⟩,.string ⟨#[105,102,32]⟩,.string ⟨#[32,116,104,101,110,32]⟩,.string ⟨#[34]⟩,.string ⟨#[34,34]⟩,.string ⟨#[40]⟩,.string ⟨#[41]⟩,.string ⟨#[59]⟩,.string ⟨#[123]⟩,.string ⟨#[44]⟩,.string ⟨#[57,57,57,57,57,57,57,57,57,57,57,57,57,57,57,57,57,57,57,57]⟩,.string ⟨#[57,50,50,51,51,55,50,48,51,54,56,53,52,55,55,53,56,48,56]⟩,.string ⟨#[55,97,32]⟩,.string ⟨#[100,101,110,121]⟩,.string ⟨#[61,62]⟩,.string ⟨#[45]⟩,.string ⟨#[115,105,122,101]⟩,.string ⟨#[97,95,110,97,109,101,95,116,104,97,116,95,105,115,95,108,111,110,103,101,114,95,116,104,97,110,95,51,50,95,98,121,116,101,115]⟩,.string ⟨#[101,108,115,101]⟩] 9)).cell? ⟨w.heap.size,k,none⟩=some (.string s):=by
 have h:=(Ao.new w #[.string ⟨#[]⟩,.string ⟨#[33]⟩,.string ⟨#[65]⟩,.string ⟨#[64]⟩,.string ⟨#[61,61]⟩,.string ⟨#[110,111,116,32]⟩,.string ⟨#[105,102,32]⟩,.string ⟨#[32,116,104,101,110,32]⟩,.string ⟨#[34]⟩,.string ⟨#[34,34]⟩,.string ⟨#[40]⟩,.string ⟨#[41]⟩,.string ⟨#[59]⟩,.string ⟨#[123]⟩,.string ⟨#[44]⟩,.string ⟨#[57,57,57,57,57,57,57,57,57,57,57,57,57,57,57,57,57,57,57,57]⟩,.string ⟨#[57,50,50,51,51,55,50,48,51,54,56,53,52,55,55,53,56,48,56]⟩,.string ⟨#[55,97,32]⟩,.string ⟨#[100,101,110,121]⟩,.string ⟨#[61,62]⟩,.string ⟨#[45]⟩,.string ⟨#[115,105,122,101]⟩,.string ⟨#[97,95,110,97,109,101,95,116,104,97,116,95,105,115,95,108,111,110,103,101,114,95,116,104,97,110,95,51,50,95,98,121,116,101,115]⟩,.string ⟨#[101,108,115,101]⟩] 9).cell k
 match k,a with
 | 0,_=>exact ⟨_,by decide,h⟩
 | 1,_=>exact ⟨_,by decide,h⟩
 | 2,_=>exact ⟨_,by decide,h⟩
 | 3,_=>exact ⟨_,by decide,h⟩
 | 4,_=>exact ⟨_,by decide,h⟩
 | 5,_=>exact ⟨_,by decide,h⟩
 | 6,_=>exact ⟨_,by decide,h⟩
 | 7,_=>exact ⟨_,by decide,h⟩
 | 8,_=>exact ⟨_,by decide,h⟩
 | 9,_=>exact ⟨_,by decide,h⟩
 | 10,_=>exact ⟨_,by decide,h⟩
 | 11,_=>exact ⟨_,by decide,h⟩
 | 12,_=>exact ⟨_,by decide,h⟩
 | 13,_=>exact ⟨_,by decide,h⟩
 | 14,_=>exact ⟨_,by decide,h⟩
 | 15,_=>exact ⟨_,by decide,h⟩
 | 16,_=>exact ⟨_,by decide,h⟩
 | 17,_=>exact ⟨_,by decide,h⟩
 | 18,_=>exact ⟨_,by decide,h⟩
 | 19,_=>exact ⟨_,by decide,h⟩
 | 20,_=>exact ⟨_,by decide,h⟩
 | 21,_=>exact ⟨_,by decide,h⟩
 | 22,_=>exact ⟨_,by decide,h⟩
 | 23,_=>exact ⟨_,by decide,h⟩
 | n+24,h=>exact absurd h (by omega)
theorem JP (m:Nat)(a:Option Addr)(n c:Nat)(w:World)(h:Ba w m a n c)(s:ByteArray)(hs:s.size≤100000000000):
  Calls Tryz.prog 20 #[.pointer (some ⟨m,0,none⟩),.string s] w fun e w'=>∃ t:ByteArray,e= .returned (.string t)∧t.size≤s.size+100∧As m (m+1) w w':=by
 go_enter Tryz.func20,Tryz.ntmps20
 go_wp2_with fail
 refine (AK m a n c w h).mono ?_
 rintro e Q ⟨x,rfl,A,B,h1,q⟩
 clear h
 dsimp only
 by_cases C: 0 < s.size
 ·have D:(0 :Int) < (s.size:Int):=by omega
  go_wp2_with fail
  refine (AK m a n c Q h1).mono ?_
  rintro e V ⟨y,rfl,M,N,h2,E⟩
  have R:=q.trans E
  clear h1 q E
  dsimp only
  have S:=Int.emod_nonneg (x * 256+y) (show (s.size:Int)≠0 by omega)
  have K:=Int.emod_lt_of_pos (x * 256+y) D
  go_wp2_with fail
  refine (AK m a n c V h2).mono ?_
  rintro e f ⟨l,rfl,r,u,h3,o⟩
  have i:=R.trans o
  clear h2 R o
  dsimp only
  obtain ⟨j,T⟩:=Int.eq_ofNat_of_zero_le S
  rw [T] at K ⊢
  clear T S D
  have O:j < s.size:=by omega
  obtain ⟨b,v,z⟩:=GX f (l % 24).toNat (by omega)
  by_cases P: 128≤l
  ·by_cases Y:(s.size:Int) < (j:Int)+1+l % 3
   ·skip
    have p:(s.extract 0 j).size≤s.size:=by rw [ByteArray.size_extract];omega
    have q2:(s.extract s.size s.size).size≤s.size:=by rw [ByteArray.size_extract];omega
    have q3: ¬ (9223372036854775807 < (s.extract 0 j).size+b.size):=by omega
    have F: ¬ (9223372036854775807 < j+b.size):=by omega
    have G: ¬ (9223372036854775807 < j+b.size+(s.size - s.size)):=by omega
    have q5: ¬ (9223372036854775807 < (s.extract 0 j ++b).size+(s.extract s.size s.size).size):=by rw [Ae];omega
    have q4:(s.extract 0 j ++b).size≤s.size+100:=by simp only [Ae,ByteArray.size_extract];omega
    have H:j≤s.size:=by omega
    have I:s.size≤s.size:=by omega
    have d:=i.then_below ((Below.refl f.heap.size f).alloc (Nat.le_refl _) (.cells #[.string ⟨#[]⟩,.string ⟨#[33]⟩,.string ⟨#[65]⟩,.string ⟨#[64]⟩,.string ⟨#[61,61]⟩,.string ⟨#[110,111,116,32]⟩,.string ⟨#[105,102,32]⟩,.string ⟨#[32,116,104,101,110,32]⟩,.string ⟨#[34]⟩,.string ⟨#[34,34]⟩,.string ⟨#[40]⟩,.string ⟨#[41]⟩,.string ⟨#[59]⟩,.string ⟨#[123]⟩,.string ⟨#[44]⟩,.string ⟨#[57,57,57,57,57,57,57,57,57,57,57,57,57,57,57,57,57,57,57,57]⟩,.string ⟨#[57,50,50,51,51,55,50,48,51,54,56,53,52,55,55,53,56,48,56]⟩,.string ⟨#[55,97,32]⟩,.string ⟨#[100,101,110,121]⟩,.string ⟨#[61,62]⟩,.string ⟨#[45]⟩,.string ⟨#[115,105,122,101]⟩,.string ⟨#[97,95,110,97,109,101,95,116,104,97,116,95,105,115,95,108,111,110,103,101,114,95,116,104,97,110,95,51,50,95,98,121,116,101,115]⟩,.string ⟨#[101,108,115,101]⟩] 9)) i.size
    go_wp2_with fail
    generalize f.alloc (.cells #[.string ⟨#[]⟩,.string ⟨#[33]⟩,.string ⟨#[65]⟩,.string ⟨#[64]⟩,.string ⟨#[61,61]⟩,.string ⟨#[110,111,116,32]⟩,.string ⟨#[105,102,32]⟩,.string ⟨#[32,116,104,101,110,32]⟩,.string ⟨#[34]⟩,.string ⟨#[34,34]⟩,.string ⟨#[40]⟩,.string ⟨#[41]⟩,.string ⟨#[59]⟩,.string ⟨#[123]⟩,.string ⟨#[44]⟩,.string ⟨#[57,57,57,57,57,57,57,57,57,57,57,57,57,57,57,57,57,57,57,57]⟩,.string ⟨#[57,50,50,51,51,55,50,48,51,54,56,53,52,55,55,53,56,48,56]⟩,.string ⟨#[55,97,32]⟩,.string ⟨#[100,101,110,121]⟩,.string ⟨#[61,62]⟩,.string ⟨#[45]⟩,.string ⟨#[115,105,122,101]⟩,.string ⟨#[97,95,110,97,109,101,95,116,104,97,116,95,105,115,95,108,111,110,103,101,114,95,116,104,97,110,95,51,50,95,98,121,116,101,115]⟩,.string ⟨#[101,108,115,101]⟩] 9)=L at d ⊢
    clear z
    skip
    have g:=Ab (And.intro q4 d)
    clear q4 d
    go_region
    clear p q2 q3 F q5 G H I
    generalize s.extract 0 j ++b=t at g ⊢
    generalize s.extract 0 j ++b=q
    generalize s.extract 0 j=E
    generalize s.extract s.size s.size=o
    clear O K C hs v r u A B M N h3 i
    go_wp2_with fail
    go_ret
    exact ⟨_,rfl,(Aa g).1,(Aa g).2.trans (As.drewN _ _)⟩
   ·obtain ⟨k,U⟩:∃ k:Nat,(j:Int)+1+l % 3=(k:Int):=⟨(j+1+(l % 3).toNat),by omega⟩
    have Z:k≤s.size:=by omega
    have aa:j≤k:=by omega
    have W:=Ab U
    clear U
    have p:(s.extract 0 j).size≤s.size:=by rw [ByteArray.size_extract];omega
    have q2:(s.extract k s.size).size≤s.size:=by rw [ByteArray.size_extract];omega
    have q3: ¬ (9223372036854775807 < (s.extract 0 j).size+b.size):=by omega
    have F: ¬ (9223372036854775807 < j+b.size):=by omega
    have G: ¬ (9223372036854775807 < j+b.size+(s.size - k)):=by omega
    have q5: ¬ (9223372036854775807 < (s.extract 0 j ++b).size+(s.extract k s.size).size):=by rw [Ae];omega
    have q4:(s.extract 0 j ++b ++s.extract k s.size).size≤s.size+100:=by simp only [Ae,ByteArray.size_extract];omega
    have H:j≤s.size:=by omega
    have I:k≤s.size:=by omega
    have d:=i.then_below ((Below.refl f.heap.size f).alloc (Nat.le_refl _) (.cells #[.string ⟨#[]⟩,.string ⟨#[33]⟩,.string ⟨#[65]⟩,.string ⟨#[64]⟩,.string ⟨#[61,61]⟩,.string ⟨#[110,111,116,32]⟩,.string ⟨#[105,102,32]⟩,.string ⟨#[32,116,104,101,110,32]⟩,.string ⟨#[34]⟩,.string ⟨#[34,34]⟩,.string ⟨#[40]⟩,.string ⟨#[41]⟩,.string ⟨#[59]⟩,.string ⟨#[123]⟩,.string ⟨#[44]⟩,.string ⟨#[57,57,57,57,57,57,57,57,57,57,57,57,57,57,57,57,57,57,57,57]⟩,.string ⟨#[57,50,50,51,51,55,50,48,51,54,56,53,52,55,55,53,56,48,56]⟩,.string ⟨#[55,97,32]⟩,.string ⟨#[100,101,110,121]⟩,.string ⟨#[61,62]⟩,.string ⟨#[45]⟩,.string ⟨#[115,105,122,101]⟩,.string ⟨#[97,95,110,97,109,101,95,116,104,97,116,95,105,115,95,108,111,110,103,101,114,95,116,104,97,110,95,51,50,95,98,121,116,101,115]⟩,.string ⟨#[101,108,115,101]⟩] 9)) i.size
    go_wp2_with fail
    generalize f.alloc (.cells #[.string ⟨#[]⟩,.string ⟨#[33]⟩,.string ⟨#[65]⟩,.string ⟨#[64]⟩,.string ⟨#[61,61]⟩,.string ⟨#[110,111,116,32]⟩,.string ⟨#[105,102,32]⟩,.string ⟨#[32,116,104,101,110,32]⟩,.string ⟨#[34]⟩,.string ⟨#[34,34]⟩,.string ⟨#[40]⟩,.string ⟨#[41]⟩,.string ⟨#[59]⟩,.string ⟨#[123]⟩,.string ⟨#[44]⟩,.string ⟨#[57,57,57,57,57,57,57,57,57,57,57,57,57,57,57,57,57,57,57,57]⟩,.string ⟨#[57,50,50,51,51,55,50,48,51,54,56,53,52,55,55,53,56,48,56]⟩,.string ⟨#[55,97,32]⟩,.string ⟨#[100,101,110,121]⟩,.string ⟨#[61,62]⟩,.string ⟨#[45]⟩,.string ⟨#[115,105,122,101]⟩,.string ⟨#[97,95,110,97,109,101,95,116,104,97,116,95,105,115,95,108,111,110,103,101,114,95,116,104,97,110,95,51,50,95,98,121,116,101,115]⟩,.string ⟨#[101,108,115,101]⟩] 9)=L at d ⊢
    clear z
    rw [Aa W]
    have g:=Ab (And.intro q4 d)
    clear q4 d
    go_region
    clear p q2 q3 F q5 G H I
    generalize s.extract 0 j ++b ++s.extract k s.size=t at g ⊢
    generalize s.extract 0 j ++b=q
    generalize s.extract 0 j=E
    generalize s.extract k s.size=o
    clear O K C hs v r u A B M N h3 i
    go_wp2_with fail
    go_ret
    exact ⟨_,rfl,(Aa g).1,(Aa g).2.trans (As.drewN _ _)⟩
  ·have X: ¬ (128≤l):=P
   have p:(s.extract 0 j).size≤s.size:=by rw [ByteArray.size_extract];omega
   have q2:(s.extract j s.size).size≤s.size:=by rw [ByteArray.size_extract];omega
   have q3: ¬ (9223372036854775807 < (s.extract 0 j).size+b.size):=by omega
   have F: ¬ (9223372036854775807 < j+b.size):=by omega
   have G: ¬ (9223372036854775807 < j+b.size+(s.size - j)):=by omega
   have q5: ¬ (9223372036854775807 < (s.extract 0 j ++b).size+(s.extract j s.size).size):=by rw [Ae];omega
   have q4:(s.extract 0 j ++b ++s.extract j s.size).size≤s.size+100:=by simp only [Ae,ByteArray.size_extract];omega
   have H:j≤s.size:=by omega
   have I:j≤s.size:=by omega
   have d:=i.then_below ((Below.refl f.heap.size f).alloc (Nat.le_refl _) (.cells #[.string ⟨#[]⟩,.string ⟨#[33]⟩,.string ⟨#[65]⟩,.string ⟨#[64]⟩,.string ⟨#[61,61]⟩,.string ⟨#[110,111,116,32]⟩,.string ⟨#[105,102,32]⟩,.string ⟨#[32,116,104,101,110,32]⟩,.string ⟨#[34]⟩,.string ⟨#[34,34]⟩,.string ⟨#[40]⟩,.string ⟨#[41]⟩,.string ⟨#[59]⟩,.string ⟨#[123]⟩,.string ⟨#[44]⟩,.string ⟨#[57,57,57,57,57,57,57,57,57,57,57,57,57,57,57,57,57,57,57,57]⟩,.string ⟨#[57,50,50,51,51,55,50,48,51,54,56,53,52,55,55,53,56,48,56]⟩,.string ⟨#[55,97,32]⟩,.string ⟨#[100,101,110,121]⟩,.string ⟨#[61,62]⟩,.string ⟨#[45]⟩,.string ⟨#[115,105,122,101]⟩,.string ⟨#[97,95,110,97,109,101,95,116,104,97,116,95,105,115,95,108,111,110,103,101,114,95,116,104,97,110,95,51,50,95,98,121,116,101,115]⟩,.string ⟨#[101,108,115,101]⟩] 9)) i.size
   go_wp2_with fail
   generalize f.alloc (.cells #[.string ⟨#[]⟩,.string ⟨#[33]⟩,.string ⟨#[65]⟩,.string ⟨#[64]⟩,.string ⟨#[61,61]⟩,.string ⟨#[110,111,116,32]⟩,.string ⟨#[105,102,32]⟩,.string ⟨#[32,116,104,101,110,32]⟩,.string ⟨#[34]⟩,.string ⟨#[34,34]⟩,.string ⟨#[40]⟩,.string ⟨#[41]⟩,.string ⟨#[59]⟩,.string ⟨#[123]⟩,.string ⟨#[44]⟩,.string ⟨#[57,57,57,57,57,57,57,57,57,57,57,57,57,57,57,57,57,57,57,57]⟩,.string ⟨#[57,50,50,51,51,55,50,48,51,54,56,53,52,55,55,53,56,48,56]⟩,.string ⟨#[55,97,32]⟩,.string ⟨#[100,101,110,121]⟩,.string ⟨#[61,62]⟩,.string ⟨#[45]⟩,.string ⟨#[115,105,122,101]⟩,.string ⟨#[97,95,110,97,109,101,95,116,104,97,116,95,105,115,95,108,111,110,103,101,114,95,116,104,97,110,95,51,50,95,98,121,116,101,115]⟩,.string ⟨#[101,108,115,101]⟩] 9)=L at d ⊢
   clear z
   skip
   have g:=Ab (And.intro q4 d)
   clear q4 d
   go_region
   clear p q2 q3 F q5 G H I
   generalize s.extract 0 j ++b ++s.extract j s.size=t at g ⊢
   generalize s.extract 0 j ++b=q
   generalize s.extract 0 j=E
   generalize s.extract j s.size=o
   clear O K C hs v r u A B M N h3 i
   go_wp2_with fail
   go_ret
   exact ⟨_,rfl,(Aa g).1,(Aa g).2.trans (As.drewN _ _)⟩
 ·have D: ¬ ((0 :Int) < (s.size:Int)):=by omega
  go_wp2_with fail
  refine (AK m a n c Q h1).mono ?_
  rintro e f ⟨l,rfl,r,u,h3,o⟩
  have i:=q.trans o
  clear h1 q o
  dsimp only
  obtain ⟨b,v,z⟩:=GX f (l % 24).toNat (by omega)
  have p: ¬ (9223372036854775807 < b.size):=by omega
  have q2: ¬ (9223372036854775807 < b.size+s.size):=by omega
  have q3: ¬ (9223372036854775807 < 0+b.size):=by omega
  have q5: ¬ (9223372036854775807 < 0+b.size+(s.size - 0)):=by omega
  have d:=i.then_below ((Below.refl f.heap.size f).alloc (Nat.le_refl _) (.cells #[.string ⟨#[]⟩,.string ⟨#[33]⟩,.string ⟨#[65]⟩,.string ⟨#[64]⟩,.string ⟨#[61,61]⟩,.string ⟨#[110,111,116,32]⟩,.string ⟨#[105,102,32]⟩,.string ⟨#[32,116,104,101,110,32]⟩,.string ⟨#[34]⟩,.string ⟨#[34,34]⟩,.string ⟨#[40]⟩,.string ⟨#[41]⟩,.string ⟨#[59]⟩,.string ⟨#[123]⟩,.string ⟨#[44]⟩,.string ⟨#[57,57,57,57,57,57,57,57,57,57,57,57,57,57,57,57,57,57,57,57]⟩,.string ⟨#[57,50,50,51,51,55,50,48,51,54,56,53,52,55,55,53,56,48,56]⟩,.string ⟨#[55,97,32]⟩,.string ⟨#[100,101,110,121]⟩,.string ⟨#[61,62]⟩,.string ⟨#[45]⟩,.string ⟨#[115,105,122,101]⟩,.string ⟨#[97,95,110,97,109,101,95,116,104,97,116,95,105,115,95,108,111,110,103,101,114,95,116,104,97,110,95,51,50,95,98,121,116,101,115]⟩,.string ⟨#[101,108,115,101]⟩] 9)) i.size
  by_cases P: 128≤l
  ·go_wp2_with fail
   generalize f.alloc (.cells #[.string ⟨#[]⟩,.string ⟨#[33]⟩,.string ⟨#[65]⟩,.string ⟨#[64]⟩,.string ⟨#[61,61]⟩,.string ⟨#[110,111,116,32]⟩,.string ⟨#[105,102,32]⟩,.string ⟨#[32,116,104,101,110,32]⟩,.string ⟨#[34]⟩,.string ⟨#[34,34]⟩,.string ⟨#[40]⟩,.string ⟨#[41]⟩,.string ⟨#[59]⟩,.string ⟨#[123]⟩,.string ⟨#[44]⟩,.string ⟨#[57,57,57,57,57,57,57,57,57,57,57,57,57,57,57,57,57,57,57,57]⟩,.string ⟨#[57,50,50,51,51,55,50,48,51,54,56,53,52,55,55,53,56,48,56]⟩,.string ⟨#[55,97,32]⟩,.string ⟨#[100,101,110,121]⟩,.string ⟨#[61,62]⟩,.string ⟨#[45]⟩,.string ⟨#[115,105,122,101]⟩,.string ⟨#[97,95,110,97,109,101,95,116,104,97,116,95,105,115,95,108,111,110,103,101,114,95,116,104,97,110,95,51,50,95,98,121,116,101,115]⟩,.string ⟨#[101,108,115,101]⟩] 9)=L at d ⊢
   clear z
   have g:=Ab d
   clear d
   go_region
   have q4:(b ++s).size≤s.size+100:=by rw [Ae];omega
   clear C D hs v r u A B h3 i p q2 q3 q5
   have J:=Ab q4
   clear q4
   generalize b ++s=t at J ⊢
   go_wp2_with fail
   go_ret
   exact ⟨_,rfl,Aa J,(Aa g).trans (As.drewN _ _)⟩
  ·have X: ¬ (128≤l):=P
   go_wp2_with fail
   generalize f.alloc (.cells #[.string ⟨#[]⟩,.string ⟨#[33]⟩,.string ⟨#[65]⟩,.string ⟨#[64]⟩,.string ⟨#[61,61]⟩,.string ⟨#[110,111,116,32]⟩,.string ⟨#[105,102,32]⟩,.string ⟨#[32,116,104,101,110,32]⟩,.string ⟨#[34]⟩,.string ⟨#[34,34]⟩,.string ⟨#[40]⟩,.string ⟨#[41]⟩,.string ⟨#[59]⟩,.string ⟨#[123]⟩,.string ⟨#[44]⟩,.string ⟨#[57,57,57,57,57,57,57,57,57,57,57,57,57,57,57,57,57,57,57,57]⟩,.string ⟨#[57,50,50,51,51,55,50,48,51,54,56,53,52,55,55,53,56,48,56]⟩,.string ⟨#[55,97,32]⟩,.string ⟨#[100,101,110,121]⟩,.string ⟨#[61,62]⟩,.string ⟨#[45]⟩,.string ⟨#[115,105,122,101]⟩,.string ⟨#[97,95,110,97,109,101,95,116,104,97,116,95,105,115,95,108,111,110,103,101,114,95,116,104,97,110,95,51,50,95,98,121,116,101,115]⟩,.string ⟨#[101,108,115,101]⟩] 9)=L at d ⊢
   clear z
   have g:=Ab d
   clear d
   go_region
   have q4:(b ++s).size≤s.size+100:=by rw [Ae];omega
   clear C D hs v r u A B h3 i p q2 q3 q5
   have J:=Ab q4
   clear q4
   generalize b ++s=t at J ⊢
   go_wp2_with fail
   go_ret
   exact ⟨_,rfl,Aa J,(Aa g).trans (As.drewN _ _)⟩
end Go.Proofs.YtcpdodmoheebaaaGreatDoor

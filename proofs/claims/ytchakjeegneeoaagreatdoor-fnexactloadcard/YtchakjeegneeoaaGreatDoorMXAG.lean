/-
  Mem, PickP, Byte1, LawsE. Own work.
-/
import Derived.Test.YtchakjeegneeoaaGreatDoorMXAC
import Derived.Test.YtchakjeegneeoaaGreatDoorMXAF
import Derived.WalkSpells
import Derived.WalkLawsBesides
import Derived.Laws.BytesString
import Derived.Deep.RegionHeld3
namespace Go.Proofs.YtchakjeegneeoaaGreatDoor
open Go.RowKit
def eqS (a b:ByteArray):Bool:=a.toList== b.toList
theorem Gc (a b:ByteArray):eqS a b=true↔a=b:=by
 rw[eqS,zN,za,za];exact ⟨Qq,fun h=>by rw[h]⟩
def VD (ss:List ByteArray) (s:ByteArray):Bool:=ss.any fun x=>eqS x s
theorem Kj (a:List ByteArray)(s:ByteArray):VD a s=true↔s∈a:=by
 rw[VD,List.any_eq_true];constructor
 ·rintro ⟨x,hx,he⟩;rw[Gc] at he;subst he;exact hx
 ·intro h;exact ⟨s,h,(Gc _ _).2 rfl⟩
theorem Xg (a:List ByteArray)(s:ByteArray):s∈a↔∃ j,j < a.length∧EU a j=s:=by
 constructor
 ·intro h;obtain ⟨j,b,rfl⟩:=Z1 h;exact ⟨j,b,Cv a j b⟩
 ·rintro ⟨j,b,rfl⟩;rw[Cv a j b];exact zO b
theorem Acq (a:List ByteArray)(s:ByteArray)(j:Nat)(b:j < a.length)(h:eqS (EU a j) s=true):VD a s=true:=by
 rw[Kj,Xg];exact ⟨j,b,(Gc _ _).1 h⟩
theorem YG (a:List ByteArray)(s:ByteArray)(h:∀ j,j < a.length→eqS (EU a j) s=false):VD a s=false:=by
 rw[z2];intro k;rw[Kj,Xg] at k;obtain ⟨j,b,e⟩:=k;have:=h j b;rw[(Gc _ _).2 e] at this;cases this
theorem PE (a:List ByteArray)(k:Nat)(h:k < a.length):a.take (k+1)=a.take k ++ [EU a k]:=by
 rw[Cv a k h,zf h]
theorem CX {w:World}{a e n:Nat}{v:Value}{b:List Value}(h:w.ownsRow a e 1 v n b):∃ x c,v= .slice x n c:=by
 rcases h.2 with ⟨rfl,rfl⟩ | ⟨g,cap,d,rfl,_⟩
 ·exact ⟨_,_,rfl⟩
 ·exact ⟨_,_,rfl⟩
def Sv (x:Int):ByteArray:=ByteArray.empty.push (UInt8.ofNat x.toNat)
theorem Jq (x:Int):(Sv x).size=1:=rfl
theorem Ad3 (W:World)(x:Int):(convert 127 9 (.slice (some ⟨W.heap.size,0,none⟩) 1 1)).run Tryz.prog (W.alloc (.cells #[.int .u8 x] 5))= .ok (.string (Sv x)) (W.alloc (.cells #[.int .u8 x] 5)):=by
 rw[run_convert_bytes_string _ _ _ _ _ _ _ Tryz.underlying127 Tryz.underlying5 Tryz.underlying9];rw[run_bytesToString _ _ _ _ [x]]
 ·rfl
 ·have h:(W.alloc (.cells #[.int .u8 x] 5)).cell? ⟨W.heap.size,0,none⟩=some (.int .u8 x):=by simp
  simp[loadCells,h,go_sem]
theorem M5 (a b:ByteArray):(a ++b).size=a.size+b.size:=ByteArray.size_append
set_option maxHeartbeats 800000
theorem Oi (a f:Option Addr)(n c g:Nat)(j:List ByteArray)(w:World)(h:Bg w a n c j)(m:Bg w f n g j):
  Calls Tryz.prog 65 #[.slice a n c,.slice f n g] w fun e w'=>e= .returned (.bool true)∧Below w.heap.size w w':=by
 have q:n≤9223372036854775807:=by have:=h.cap;have:=h.small;unfold maxLen at this;omega
 go_enter Tryz.func65,Tryz.ntmps65
 go_wp2
 go_loopw [5] (fun i wr=>∃ k:Nat,k≤n∧i= .int .i64 k∧Below w.heap.size w wr) (fun i _=>n - (intOf i).toNat)
 case atStart=>exact ⟨0,zF _,rfl,BRN⟩
 case round=>
  obtain ⟨k,hk,rfl,d⟩:=hrel;by_cases l:k < n
  ·obtain ⟨b,r,o,_,hc⟩:=(h.below d NLN).cells k l;obtain ⟨s,t,p,_,u⟩:=(m.below d NLN).cells k l;subst o;subst p;have v:(k:Int) < (n:Int):=by omega
   go_wp2
   go_quiet (fail)
   go_wp2
   go_roundw
   case rel=>exact ⟨k+1,by omega,by go_num,below_drewN d _⟩
   case measure=>simp[intOf];omega
  ·go_wp2
   go_ret
   exact ⟨rfl,d⟩
end Go.Proofs.YtchakjeegneeoaaGreatDoor

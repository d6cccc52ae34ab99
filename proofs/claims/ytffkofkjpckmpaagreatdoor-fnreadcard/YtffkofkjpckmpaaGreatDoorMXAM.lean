/-
  PickP, Mem, Byte1, LawsE. Own work.
-/
import Derived.Test.YtffkofkjpckmpaaGreatDoorMXAD
import Derived.WalkSpells
import Derived.WalkLawsBesides
import Derived.Test.YtffkofkjpckmpaaGreatDoorMXAA
import Derived.Laws.BytesString
import Derived.Deep.RegionHeld3
namespace Go.Proofs.YtffkofkjpckmpaaGreatDoor
open Go.RowKit
def eqS (a b:ByteArray):Bool:=a.toList== b.toList
theorem FG (a b:ByteArray):eqS a b=true↔a=b:=by
 rw[eqS,zI,zZ,zZ];exact ⟨Ij,fun h=>by rw[h]⟩
def Uq (ss:List ByteArray) (s:ByteArray):Bool:=ss.any fun x=>eqS x s
theorem JL (a:List ByteArray)(s:ByteArray):Uq a s=true↔s∈a:=by
 rw[Uq,List.any_eq_true];constructor
 ·rintro ⟨x,hx,he⟩;rw[FG] at he;subst he;exact hx
 ·intro h;exact ⟨s,h,(FG _ _).2 rfl⟩
theorem V8 (a:List ByteArray)(s:ByteArray):s∈a↔∃ j,j < a.length∧D0 a j=s:=by
 constructor
 ·intro h;obtain ⟨j,b,rfl⟩:=yE h;exact ⟨j,b,Cw a j b⟩
 ·rintro ⟨j,b,rfl⟩;rw[Cw a j b];exact zP b
theorem AaZ (a:List ByteArray)(s:ByteArray)(j:Nat)(b:j < a.length)(h:eqS (D0 a j) s=true):Uq a s=true:=by
 rw[JL,V8];exact ⟨j,b,(FG _ _).1 h⟩
theorem Xs (a:List ByteArray)(s:ByteArray)(h:∀ j,j < a.length→eqS (D0 a j) s=false):Uq a s=false:=by
 rw[Z2];intro k;rw[JL,V8] at k;obtain ⟨j,b,e⟩:=k;have:=h j b;rw[(FG _ _).2 e] at this;cases this
theorem Oj (a:List ByteArray)(k:Nat)(h:k < a.length):a.take (k+1)=a.take k ++ [D0 a k]:=by
 rw[Cw a k h,zx h]
theorem DH {w:World}{a e n:Nat}{v:Value}{b:List Value}(h:w.ownsRow a e 1 v n b):∃ x c,v= .slice x n c:=by
 rcases h.2 with ⟨rfl,rfl⟩ | ⟨g,cap,d,rfl,_⟩
 ·exact ⟨_,_,rfl⟩
 ·exact ⟨_,_,rfl⟩
def Lk (x:Int):ByteArray:=ByteArray.empty.push (UInt8.ofNat x.toNat)
theorem Ec (x:Int):(Lk x).size=1:=rfl
theorem OD (a:World)(x:Int):(convert 22 9 (.slice (some ⟨a.heap.size,0,none⟩) 1 1)).run Tryz.prog (a.alloc (.cells #[.int .u8 x] 5))= .ok (.string (Lk x)) (a.alloc (.cells #[.int .u8 x] 5)):=by
 rw[run_convert_bytes_string _ _ _ _ _ _ _ Tryz.underlying22 Tryz.underlying5 Tryz.underlying9];rw[run_bytesToString _ _ _ _ [x]]
 ·rfl
 ·have h:(a.alloc (.cells #[.int .u8 x] 5)).cell? ⟨a.heap.size,0,none⟩=some (.int .u8 x):=by simp
  simp[loadCells,h,go_sem]
theorem Ar (a b:ByteArray):(a ++b).size=a.size+b.size:=zD
end Go.Proofs.YtffkofkjpckmpaaGreatDoor

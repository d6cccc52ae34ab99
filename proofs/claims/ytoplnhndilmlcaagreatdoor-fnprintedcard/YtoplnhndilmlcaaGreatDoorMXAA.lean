/-
  Hid, Plain, TL, DgI. Own work.
-/
import Derived.Test.YtoplnhndilmlcaaGreatDoorRows
import Derived.Below
import Derived.WalkKit
import Derived.WalkSpells
import Derived.WalkLawsBesides
namespace Go.Proofs.YtoplnhndilmlcaaGreatDoor
open Go.RowKit
theorem Ab {p:Prop}(h:p):Hid p:=h
theorem Aa {p:Prop}(h:Hid p):p:=h
theorem NLN {n:Nat}:n≤n:=Nat.le_refl n
theorem BRN {B:Nat}{w:World}:Below B w w:=Below.refl B w
theorem Ag {a b:Bool}(h:a=b):Ending.returned (.bool a)= .returned (.bool b):=by rw[h]
def WA (c:Int):Bool:=decide (97≤c∧c≤122∨48≤c∧c≤57∨c=46∨c=95∨c=45∨c=58)
def dgI (c:Int):Bool:=decide (48≤c∧c≤57)
def Ic (l:List UInt8):Bool:=l.all fun c=>WA (c.toNat:Int)
def vnB (s:ByteArray):Bool:=decide (1≤s.size∧s.size≤32) && Ic s.data.toList
theorem JK (s:ByteArray)(k:Nat)(h:k < s.size):s.data.toList.take (k+1)=s.data.toList.take k ++ [s[k]]:=by
 rw[List.take_succ_eq_append_getElem (by simpa using h)];rfl
theorem Ma (l:List UInt8)(c:UInt8):Ic (l ++ [c])=(Ic l && WA (c.toNat:Int)):=by
 simp[Ic,List.all_append]
theorem Ki (s:ByteArray)(k:Nat)(h:k < s.size)(a:WA ((s[k]).toNat:Int)=false):Ic s.data.toList=false:=by
 rw[← List.take_append_drop (k+1) s.data.toList,Ic,List.all_append,JK s k h,List.all_append];simp[a]
def Bg (l:List UInt8):ByteArray:=⟨l.toArray⟩
def Al (s:ByteArray):List UInt8:=s.data.toList
theorem Cv (s:ByteArray):Bg (Al s)=s:=by cases s;simp[Bg,Al]
theorem Fb (l:List UInt8):Al (Bg l)=l:=by simp[Bg,Al]
theorem Av (s:ByteArray):(Al s).length=s.size:=by simp[Al]
def FA (c:UInt8):Bool:=dgI (c.toNat:Int)
def Ie (d:List UInt8):Int:=d.foldl (fun n x=>n * 10+((x.toNat:Int) - 48)) 0
theorem WC (d:List UInt8)(x:UInt8):Ie (d ++ [x])=Ie d * 10+((x.toNat:Int) - 48):=by simp[Ie,List.foldl_append]
theorem Fz {s:ByteArray}(h:s.size=0):s=ByteArray.empty:=by
 cases s with | mk d=>cases d with | mk l=>simp[ByteArray.size] at h;subst h;rfl
theorem FN {s:ByteArray}(h:s.size≠0):s.toList.isEmpty=false:=by
 rw[ByteArray.toList_eq];cases s with | mk d=>cases d with | mk l=>simp[ByteArray.size] at h ⊢;exact h
theorem US (c:UInt8):FA c=true↔48≤(c.toNat:Int)∧(c.toNat:Int)≤57:=by simp[FA,dgI]
set_option maxHeartbeats 400000
theorem BL (c:Int)(w:World):
  Calls Tryz.prog 106 #[.int .u8 c] w fun e w'=>e= .returned (.bool (dgI c))∧w'=w:=by
 go_enter Tryz.func106,Tryz.ntmps106
 go_wp2
 all_goals
  go_ret
  refine ⟨Ag ?_,rfl⟩;rw[Bool.eq_iff_iff]
  simp_all[dgI]
  try omega
end Go.Proofs.YtoplnhndilmlcaaGreatDoor

/-
  Hid, Plain, TL, DgI. Own work.
-/
import Derived.Test.YtcpdodmoheebaaaGreatDoorRows
import Derived.Below
import Derived.WalkKit
import Derived.WalkSpells
import Derived.WalkLawsBesides
namespace Go.Proofs.YtcpdodmoheebaaaGreatDoor
open Go.RowKit
theorem Ab {p:Prop}(h:p):Hid p:=h
theorem Aa {p:Prop}(h:Hid p):p:=h
theorem Ak {a b:Bool}(h:a=b):Ending.returned (.bool a)= .returned (.bool b):=by rw [h]
def IP (c:Int):Bool:=decide (97≤c∧c≤122∨48≤c∧c≤57∨c=46∨c=95∨c=45∨c=58)
def dgI (c:Int):Bool:=decide (48≤c∧c≤57)
def EA (l:List UInt8):Bool:=l.all fun c=>IP (c.toNat:Int)
def vnB (s:ByteArray):Bool:=decide (1≤s.size∧s.size≤32) && EA s.data.toList
theorem Bv (s:ByteArray)(k:Nat)(h:k < s.size):s.data.toList.take (k+1)=s.data.toList.take k ++ [s[k]]:=by
 rw [List.take_succ_eq_append_getElem (by simpa using h)];rfl
theorem IQ (l:List UInt8)(c:UInt8):EA (l ++ [c])=(EA l && IP (c.toNat:Int)):=by
 simp [EA,List.all_append]
theorem Hj (s:ByteArray)(k:Nat)(h:k < s.size)(a:IP ((s[k]).toNat:Int)=false):EA s.data.toList=false:=by
 rw [← List.take_append_drop (k+1) s.data.toList,EA,List.all_append,Bv s k h,List.all_append]
 simp [a]
def Bo (l:List UInt8):ByteArray:=⟨l.toArray⟩
def Ad (s:ByteArray):List UInt8:=s.data.toList
theorem Bt (s:ByteArray):Bo (Ad s)=s:=by cases s;simp [Bo,Ad]
theorem DF (l:List UInt8):Ad (Bo l)=l:=by simp [Bo,Ad]
theorem Ag (s:ByteArray):(Ad s).length=s.size:=by simp [Ad]
def AU (c:UInt8):Bool:=dgI (c.toNat:Int)
def Bg (d:List UInt8):Int:=d.foldl (fun n x=>n * 10+((x.toNat:Int) - 48)) 0
theorem Ci (d:List UInt8)(x:UInt8):Bg (d ++ [x])=Bg d * 10+((x.toNat:Int) - 48):=by simp [Bg,List.foldl_append]
theorem Ca:∀ (k:Nat) (d:List UInt8),d.length=k→d.all AU=true→0≤Bg d∧Bg d < 10 ^ k
 | 0,d,h,_=>by
  have:d= []:=List.eq_nil_of_length_eq_zero h
  subst this;simp [Bg]
 | k+1,d,h,hd=>by
  have a:d≠ []:=fun e=>by subst e;simp at h
  have e:=List.dropLast_concat_getLast a
  rw [← e] at hd ⊢
  rw [List.all_append,Bool.and_eq_true] at hd
  obtain ⟨b,c⟩:=Ca k d.dropLast (by simp;omega) hd.1
  have hx:=hd.2
  simp only [List.all_cons,List.all_nil,Bool.and_true,AU,dgI,decide_eq_true_eq] at hx
  rw [Ci,Int.pow_succ]
  omega
theorem Dg {s:ByteArray}(h:s.size=0):s=ByteArray.empty:=by
 cases s with | mk d=>cases d with | mk l=>simp [ByteArray.size] at h;subst h;rfl
theorem CA {s:ByteArray}(h:s.size≠0):s.toList.isEmpty=false:=by
 rw [ByteArray.toList_eq]
 cases s with | mk d=>cases d with | mk l=>simp [ByteArray.size] at h ⊢;exact h
theorem Cp (c:UInt8):AU c=true↔48≤(c.toNat:Int)∧(c.toNat:Int)≤57:=by simp [AU,dgI]
set_option maxHeartbeats 400000
theorem AW (c:Int)(w:World):
  Calls Tryz.prog 38 #[.int .u8 c] w fun e w'=>e= .returned (.bool (dgI c))∧w'=w:=by
 go_enter Tryz.func38,Tryz.ntmps38
 go_wp2
 all_goals
  go_ret
  refine ⟨Ak ?_,rfl⟩
  rw [Bool.eq_iff_iff]
  simp_all [dgI]
  try omega
end Go.Proofs.YtcpdodmoheebaaaGreatDoor

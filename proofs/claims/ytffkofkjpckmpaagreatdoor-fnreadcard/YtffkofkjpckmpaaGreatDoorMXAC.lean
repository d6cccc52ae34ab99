/-
  Hid, Plain, TL. Own work.
-/
import Derived.Test.YtffkofkjpckmpaaGreatDoorRows
import Derived.Below
import Derived.WalkKit
namespace Go.Proofs.YtffkofkjpckmpaaGreatDoor
open Go.RowKit
theorem Ab {p:Prop}(h:p):Hid p:=h
theorem Aa {p:Prop}(h:Hid p):p:=h
theorem NLN {n:Nat}:n≤n:=Nat.le_refl n
theorem BRN {B:Nat}{w:World}:Below B w w:=Below.refl B w
theorem zA:type_of% @beq_eq_false_iff_ne:=@beq_eq_false_iff_ne
theorem zB:type_of% @List.length_append:=@List.length_append
theorem zC:type_of% @List.append_assoc:=@List.append_assoc
theorem zD:type_of% @ByteArray.size_append:=@ByteArray.size_append
theorem zE:type_of% @Bool.and_eq_true:=@Bool.and_eq_true
theorem zF:type_of% @decide_eq_true_eq:=@decide_eq_true_eq
theorem zG:type_of% @List.mem_cons:=@List.mem_cons
theorem zH:type_of% @List.mem_append:=@List.mem_append
theorem zI:type_of% @beq_iff_eq:=@beq_iff_eq
theorem zJ:type_of% @List.mem_singleton:=@List.mem_singleton
theorem zK:type_of% @decide_eq_false:=@decide_eq_false
theorem zL:type_of% @Nat.le_trans:=@Nat.le_trans
theorem zM:type_of% @List.getElem?_eq_getElem:=@List.getElem?_eq_getElem
theorem zN:type_of% @Nat.zero_le:=@Nat.zero_le
theorem zO:type_of% @Bool.eq_iff_iff:=@Bool.eq_iff_iff
theorem zP:type_of% @List.getElem_mem:=@List.getElem_mem
theorem zQ:type_of% @List.mem_cons_self:=@List.mem_cons_self
theorem zR:type_of% @decide_eq_true:=@decide_eq_true
theorem zS:type_of% @List.mem_cons_of_mem:=@List.mem_cons_of_mem
theorem zT:type_of% @ByteArray.append_assoc:=@ByteArray.append_assoc
theorem zU:type_of% @Int.natCast_add:=@Int.natCast_add
theorem zV:type_of% @List.mem_append_right:=@List.mem_append_right
theorem zW:type_of% @Nat.zero_add:=@Nat.zero_add
theorem zX:type_of% @List.getElem?_eq_some_iff:=@List.getElem?_eq_some_iff
theorem zY:type_of% @Nat.lt_of_lt_of_le:=@Nat.lt_of_lt_of_le
theorem zZ:type_of% @ByteArray.toList_eq:=@ByteArray.toList_eq
theorem za:type_of% @List.mem_append_left:=@List.mem_append_left
theorem zb:type_of% @List.mem_map:=@List.mem_map
theorem zc:type_of% @List.getElem?_cons_succ:=@List.getElem?_cons_succ
theorem zd:type_of% @List.getElem?_map:=@List.getElem?_map
theorem ze:type_of% @Bool.eq_false_or_eq_true:=@Bool.eq_false_or_eq_true
theorem zf:type_of% @List.mem_nil_iff:=@List.mem_nil_iff
theorem zg:type_of% @List.length_take:=@List.length_take
theorem zh:type_of% @List.getElem?_cons_zero:=@List.getElem?_cons_zero
theorem zi:type_of% @List.flatMap_cons:=@List.flatMap_cons
theorem zj:type_of% @List.length_drop:=@List.length_drop
theorem zk:type_of% @List.take_of_length_le:=@List.take_of_length_le
theorem zl:type_of% @List.map_append:=@List.map_append
theorem zm:type_of% @List.drop_zero:=@List.drop_zero
theorem zn:type_of% @List.getElem?_toArray:=@List.getElem?_toArray
theorem zo:type_of% @List.foldl_append:=@List.foldl_append
theorem zp:type_of% @List.append_nil:=@List.append_nil
theorem zq:type_of% @List.drop_eq_getElem_cons:=@List.drop_eq_getElem_cons
theorem zr:type_of% @Nat.add_zero:=@Nat.add_zero
theorem zt:type_of% @ByteArray.size_extract:=@ByteArray.size_extract
theorem zu:type_of% @List.getElem_append_left:=@List.getElem_append_left
theorem zv:type_of% @List.length_map:=@List.length_map
theorem zw:type_of% @bne_iff_ne:=@bne_iff_ne
theorem zx:type_of% @List.take_succ_eq_append_getElem:=@List.take_succ_eq_append_getElem
theorem zy:type_of% @List.foldl_nil:=@List.foldl_nil
theorem zz:type_of% @List.isEmpty_iff:=@List.isEmpty_iff
theorem z0:type_of% @Int.toNat_natCast:=@Int.toNat_natCast
theorem z1:type_of% @List.all_eq_true:=@List.all_eq_true
theorem z2:type_of% @Bool.true_and:=@Bool.true_and
theorem z3:type_of% @List.setIfInBounds_toArray:=@List.setIfInBounds_toArray
theorem z4:type_of% @List.set_cons_zero:=@List.set_cons_zero
theorem z5:type_of% @Nat.le_succ:=@Nat.le_succ
theorem z6:type_of% @List.set_cons_succ:=@List.set_cons_succ
theorem z7:type_of% @List.eq_nil_of_length_eq_zero:=@List.eq_nil_of_length_eq_zero
theorem z8:type_of% @List.all_cons:=@List.all_cons
theorem z9:type_of% @List.length_singleton:=@List.length_singleton
theorem Z1:type_of% @List.map_nil:=@List.map_nil
theorem Z2:type_of% @Bool.eq_false_iff:=@Bool.eq_false_iff
theorem Z7:type_of% @List.mem_of_getElem?:=@List.mem_of_getElem?
theorem yA:type_of% @Array.getD_eq_getD_getElem?:=@Array.getD_eq_getD_getElem?
theorem yB:type_of% @List.contains_iff_mem:=@List.contains_iff_mem
theorem yC:type_of% @List.getElem?_append_right:=@List.getElem?_append_right
theorem yD:type_of% @Array.getElem?_eq_some_iff:=@Array.getElem?_eq_some_iff
theorem yE:type_of% @List.getElem_of_mem:=@List.getElem_of_mem
theorem yF:type_of% @List.mem_of_mem_take:=@List.mem_of_mem_take
theorem yG:type_of% @List.take_append_drop:=@List.take_append_drop
theorem yH:type_of% @decide_eq_false_iff_not:=@decide_eq_false_iff_not
theorem yI:type_of% @List.getD_eq_getElem?_getD:=@List.getD_eq_getElem?_getD
theorem yJ:type_of% @List.getElem?_append_left:=@List.getElem?_append_left
theorem Ah {a b:Bool}(h:a=b):Ending.returned (.bool a)= .returned (.bool b):=by rw[h]
def TG (c:Int):Bool:=decide (97≤c∧c≤122∨48≤c∧c≤57∨c=46∨c=95∨c=45∨c=58)
def dgI (c:Int):Bool:=decide (48≤c∧c≤57)
def I1 (l:List UInt8):Bool:=l.all fun c=>TG (c.toNat:Int)
def vnB (s:ByteArray):Bool:=decide (1≤s.size∧s.size≤32) && I1 s.data.toList
theorem Iz (s:ByteArray)(k:Nat)(h:k < s.size):s.data.toList.take (k+1)=s.data.toList.take k ++ [s[k]]:=by
 rw[zx (by simpa using h)];rfl
theorem MX (l:List UInt8)(c:UInt8):I1 (l ++ [c])=(I1 l && TG (c.toNat:Int)):=by
 simp[I1,List.all_append]
theorem Lx (s:ByteArray)(k:Nat)(h:k < s.size)(a:TG ((s[k]).toNat:Int)=false):I1 s.data.toList=false:=by
 rw[← yG (k+1) s.data.toList,I1,List.all_append,Iz s k h,List.all_append];simp[a]
def AB (l:List UInt8):ByteArray:=⟨l.toArray⟩
def Aj (s:ByteArray):List UInt8:=s.data.toList
theorem Bn (s:ByteArray):AB (Aj s)=s:=by cases s;simp[AB,Aj]
theorem Dg (l:List UInt8):Aj (AB l)=l:=by simp[AB,Aj]
theorem At (s:ByteArray):(Aj s).length=s.size:=by simp[Aj]
def CK (c:UInt8):Bool:=dgI (c.toNat:Int)
def DZ (d:List UInt8):Int:=d.foldl (fun n x=>n * 10+((x.toNat:Int) - 48)) 0
theorem Md (d:List UInt8)(x:UInt8):DZ (d ++ [x])=DZ d * 10+((x.toNat:Int) - 48):=by simp[DZ,List.foldl_append]
theorem Ef:∀ (k:Nat) (d:List UInt8),d.length=k→d.all CK=true→0≤DZ d∧DZ d < 10 ^ k
 | 0,d,h,_=>by
  have:d= []:=z7 h;subst this;simp[DZ]
 |k+1,d,h,hd=>by
  have a:d≠ []:=fun e=>by subst e;simp at h
  have e:=List.dropLast_concat_getLast a;rw[← e] at hd ⊢;rw[List.all_append,zE] at hd;obtain ⟨b,c⟩:=Ef k d.dropLast (by simp;omega) hd.1;have hx:=hd.2;simp only[z8,List.all_nil,Bool.and_true,CK,dgI,zF] at hx;rw[Md,Int.pow_succ];omega
theorem F7 {s:ByteArray}(h:s.size=0):s=ByteArray.empty:=by
 cases s with | mk d=>cases d with | mk l=>simp[ByteArray.size] at h;subst h;rfl
theorem El {s:ByteArray}(h:s.size≠0):s.toList.isEmpty=false:=by
 rw[zZ];cases s with | mk d=>cases d with | mk l=>simp[ByteArray.size] at h ⊢;exact h
theorem QM (c:UInt8):CK c=true↔48≤(c.toNat:Int)∧(c.toNat:Int)≤57:=by simp[CK,dgI]
end Go.Proofs.YtffkofkjpckmpaaGreatDoor

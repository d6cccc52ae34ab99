/-
  Hid, Plain, TL. Own work.
-/
import Derived.Test.YtchakjeegneeoaaGreatDoorRows
import Derived.Below
import Derived.WalkKit
namespace Go.Proofs.YtchakjeegneeoaaGreatDoor
open Go.RowKit
theorem Ab {p:Prop}(h:p):Hid p:=h
theorem Aa {p:Prop}(h:Hid p):p:=h
theorem NLN {n:Nat}:n≤n:=Nat.le_refl n
theorem BRN {B:Nat}{w:World}:Below B w w:=Below.refl B w
theorem zA:type_of% @List.length_append:=@List.length_append
theorem zB:type_of% @beq_eq_false_iff_ne:=@beq_eq_false_iff_ne
theorem zC:type_of% @List.append_assoc:=@List.append_assoc
theorem zD:type_of% @Nat.le_trans:=@Nat.le_trans
theorem zE:type_of% @List.mem_cons:=@List.mem_cons
theorem zF:type_of% @Nat.zero_le:=@Nat.zero_le
theorem zG:type_of% @decide_eq_true_eq:=@decide_eq_true_eq
theorem zH:type_of% @List.getElem?_eq_getElem:=@List.getElem?_eq_getElem
theorem zI:type_of% @Bool.and_eq_true:=@Bool.and_eq_true
theorem zJ:type_of% @Nat.le_succ:=@Nat.le_succ
theorem zK:type_of% @List.mem_append:=@List.mem_append
theorem zL:type_of% @List.mem_singleton:=@List.mem_singleton
theorem zM:type_of% @Nat.lt_of_lt_of_le:=@Nat.lt_of_lt_of_le
theorem zN:type_of% @beq_iff_eq:=@beq_iff_eq
theorem zO:type_of% @List.getElem_mem:=@List.getElem_mem
theorem zP:type_of% @Bool.eq_iff_iff:=@Bool.eq_iff_iff
theorem zQ:type_of% @List.mem_map:=@List.mem_map
theorem zR:type_of% @decide_eq_false:=@decide_eq_false
theorem zS:type_of% @bne_iff_ne:=@bne_iff_ne
theorem zT:type_of% @List.mem_cons_self:=@List.mem_cons_self
theorem zU:type_of% @List.map_append:=@List.map_append
theorem zV:type_of% @List.length_map:=@List.length_map
theorem zW:type_of% @decide_eq_true:=@decide_eq_true
theorem zX:type_of% @Nat.zero_add:=@Nat.zero_add
theorem zY:type_of% @List.mem_cons_of_mem:=@List.mem_cons_of_mem
theorem zZ:type_of% @Nat.add_zero:=@Nat.add_zero
theorem za:type_of% @ByteArray.toList_eq:=@ByteArray.toList_eq
theorem zb:type_of% @List.length_take:=@List.length_take
theorem zc:type_of% @List.getElem?_cons_succ:=@List.getElem?_cons_succ
theorem zd:type_of% @Int.natCast_add:=@Int.natCast_add
theorem ze:type_of% @List.getElem?_eq_some_iff:=@List.getElem?_eq_some_iff
theorem zf:type_of% @List.take_succ_eq_append_getElem:=@List.take_succ_eq_append_getElem
theorem zg:type_of% @List.drop_eq_getElem_cons:=@List.drop_eq_getElem_cons
theorem zh:type_of% @List.getElem?_map:=@List.getElem?_map
theorem zi:type_of% @List.getElem?_cons_zero:=@List.getElem?_cons_zero
theorem zj:type_of% @Int.toNat_natCast:=@Int.toNat_natCast
theorem zk:type_of% @Bool.eq_false_or_eq_true:=@Bool.eq_false_or_eq_true
theorem zl:type_of% @List.mem_append_left:=@List.mem_append_left
theorem zm:type_of% @List.mem_append_right:=@List.mem_append_right
theorem zn:type_of% @List.flatMap_cons:=@List.flatMap_cons
theorem zo:type_of% @List.mem_nil_iff:=@List.mem_nil_iff
theorem zp:type_of% @List.length_drop:=@List.length_drop
theorem zq:type_of% @List.take_of_length_le:=@List.take_of_length_le
theorem zr:type_of% @List.append_nil:=@List.append_nil
theorem zs:type_of% @List.drop_zero:=@List.drop_zero
theorem zt:type_of% @List.foldl_append:=@List.foldl_append
theorem zu:type_of% @List.getElem?_toArray:=@List.getElem?_toArray
theorem zv:type_of% @List.getElem?_set_ne:=@List.getElem?_set_ne
theorem zw:type_of% @List.set_cons_zero:=@List.set_cons_zero
theorem zx:type_of% @List.getElem_append_left:=@List.getElem_append_left
theorem zy:type_of% @List.eq_nil_of_length_eq_zero:=@List.eq_nil_of_length_eq_zero
theorem zz:type_of% @List.isEmpty_iff:=@List.isEmpty_iff
theorem z0:type_of% @List.set_cons_succ:=@List.set_cons_succ
theorem z1:type_of% @List.take_append_drop:=@List.take_append_drop
theorem z2:type_of% @Bool.eq_false_iff:=@Bool.eq_false_iff
theorem z3:type_of% @List.take_length:=@List.take_length
theorem z4:type_of% @List.setIfInBounds_toArray:=@List.setIfInBounds_toArray
theorem z5:type_of% @List.mem_of_getElem?:=@List.mem_of_getElem?
theorem z6:type_of% @List.all_eq_true:=@List.all_eq_true
theorem z7:type_of% @List.length_singleton:=@List.length_singleton
theorem z8:type_of% @List.map_nil:=@List.map_nil
theorem z9:type_of% @List.foldl_nil:=@List.foldl_nil
theorem Z0:type_of% @Bool.true_and:=@Bool.true_and
theorem Z1:type_of% @List.getElem_of_mem:=@List.getElem_of_mem
theorem Z2:type_of% @List.contains_iff_mem:=@List.contains_iff_mem
theorem Z3:type_of% @Nat.lt_succ_self:=@Nat.lt_succ_self
theorem Z4:type_of% @Array.getD_eq_getD_getElem?:=@Array.getD_eq_getD_getElem?
theorem Z5:type_of% @List.drop_of_length_le:=@List.drop_of_length_le
theorem Z6:type_of% @List.drop_length:=@List.drop_length
theorem Z7:type_of% @List.getElem?_append_right:=@List.getElem?_append_right
theorem yA:type_of% @Int.eq_ofNat_of_zero_le:=@Int.eq_ofNat_of_zero_le
theorem yB:type_of% @List.getElem?_eq_none:=@List.getElem?_eq_none
theorem yC:type_of% @Array.getElem?_eq_some_iff:=@Array.getElem?_eq_some_iff
theorem yD:type_of% @List.set_append_right:=@List.set_append_right
theorem yE:type_of% @List.range'_append_1:=@List.range'_append_1
theorem yF:type_of% @List.getElem_cons_zero:=@List.getElem_cons_zero
theorem yG:type_of% @List.getD_eq_getElem?_getD:=@List.getD_eq_getElem?_getD
theorem Ag {a b:Bool}(h:a=b):Ending.returned (.bool a)= .returned (.bool b):=by rw[h]
def US (c:Int):Bool:=decide (97≤c∧c≤122∨48≤c∧c≤57∨c=46∨c=95∨c=45∨c=58)
def dgI (c:Int):Bool:=decide (48≤c∧c≤57)
def Jn (l:List UInt8):Bool:=l.all fun c=>US (c.toNat:Int)
def vnB (s:ByteArray):Bool:=decide (1≤s.size∧s.size≤32) && Jn s.data.toList
theorem I7 (s:ByteArray)(k:Nat)(h:k < s.size):s.data.toList.take (k+1)=s.data.toList.take k ++ [s[k]]:=by
 rw[zf (by simpa using h)];rfl
theorem Oj (l:List UInt8)(c:UInt8):Jn (l ++ [c])=(Jn l && US (c.toNat:Int)):=by
 simp[Jn,List.all_append]
theorem Md (s:ByteArray)(k:Nat)(h:k < s.size)(a:US ((s[k]).toNat:Int)=false):Jn s.data.toList=false:=by
 rw[← z1 (k+1) s.data.toList,Jn,List.all_append,I7 s k h,List.all_append];simp[a]
def AB (l:List UInt8):ByteArray:=⟨l.toArray⟩
def Ap (s:ByteArray):List UInt8:=s.data.toList
theorem Bs (s:ByteArray):AB (Ap s)=s:=by cases s;simp[AB,Ap]
theorem DT (l:List UInt8):Ap (AB l)=l:=by simp[AB,Ap]
theorem Av (s:ByteArray):(Ap s).length=s.size:=by simp[Ap]
def DJ (c:UInt8):Bool:=dgI (c.toNat:Int)
def E6 (d:List UInt8):Int:=d.foldl (fun n x=>n * 10+((x.toNat:Int) - 48)) 0
theorem Ux (d:List UInt8)(x:UInt8):E6 (d ++ [x])=E6 d * 10+((x.toNat:Int) - 48):=by simp[E6,List.foldl_append]
theorem EB:∀ (k:Nat) (d:List UInt8),d.length=k→d.all DJ=true→0≤E6 d∧E6 d < 10 ^ k
 | 0,d,h,_=>by
  have:d= []:=zy h;subst this;simp[E6]
 |k+1,d,h,hd=>by
  have a:d≠ []:=fun e=>by subst e;simp at h
  have e:=List.dropLast_concat_getLast a;rw[← e] at hd ⊢;rw[List.all_append,zI] at hd;obtain ⟨b,c⟩:=EB k d.dropLast (by simp;omega) hd.1;have hx:=hd.2;simp only[List.all_cons,List.all_nil,Bool.and_true,DJ,dgI,zG] at hx;rw[Ux,Int.pow_succ];omega
theorem Gn {s:ByteArray}(h:s.size=0):s=ByteArray.empty:=by
 cases s with | mk d=>cases d with | mk l=>simp[ByteArray.size] at h;subst h;rfl
theorem GK {s:ByteArray}(h:s.size≠0):s.toList.isEmpty=false:=by
 rw[za];cases s with | mk d=>cases d with | mk l=>simp[ByteArray.size] at h ⊢;exact h
theorem Sd (c:UInt8):DJ c=true↔48≤(c.toNat:Int)∧(c.toNat:Int)≤57:=by simp[DJ,dgI]
end Go.Proofs.YtchakjeegneeoaaGreatDoor

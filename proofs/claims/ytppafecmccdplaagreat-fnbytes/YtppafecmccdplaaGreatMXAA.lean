import Derived.Test.YtppafecmccdplaaGreatRows
import Derived.WalkSpells
import Derived.WalkLawsBesides
open Go.Proofs.Tryz
open Go.Value renaming int->U,slice->X,string->Q
open Go.Proofs.Tryz renaming prog->jL
namespace Go.Proofs.YtppafecmccdplaaGreat
open Go.RowKit
variable {s:ByteArray}{n:Nat}{p:Prop}
theorem Ab (h:p):Hid p:=h
theorem Aa (h:Hid p):p:=h
abbrev An (w v:World):Prop:=Below w.heap.size w v
theorem AN (w:World)(o:Obj):Below w.heap.size w (w.alloc o):=(Below.refl w.heap.size w).alloc (Nat.le_refl w.heap.size) o
theorem Brw (w:World):Below w.heap.size w w:=Below.refl w.heap.size w
abbrev Bs (a b:Int) (c:ByteArray) (d:Option Addr) (e f:Nat) (g:Option Addr) (h i:Nat):Obj:= .cells #[U .i64 a,U .i64 b,Q c,X d e f,X g h i] 101
abbrev EV (a b:Int) (c:ByteArray) (d:Option Addr) (e f:Nat) (g:Option Addr) (h i:Nat):Obj:= .cells #[U .i64 a,U .i64 b,Q c,X d e f,X g h i] 134
abbrev Nr (a:Option Addr) (b c:Nat) (d:Option Addr) (e f:Nat) (g:Option Addr) (h i:Nat):Obj:= .cells #[X a b c,X d e f,X g h i] 69
abbrev Xz (a:Int) (b:ByteArray) (c d:Int):Obj:= .cells #[U .i64 a,Q b,U .i64 c,U .i64 d] 93
theorem NLN :n<=n:=Nat.le_refl n
theorem BRN {B:Nat}{w:World}:Below B w w:=Below.refl B w
theorem zA:type_of% @beq_eq_false_iff_ne:=@beq_eq_false_iff_ne
theorem zB:type_of% @List.length_append:=@List.length_append
theorem zC:type_of% @Nat.le_trans:=@Nat.le_trans
theorem zD:type_of% @Bool.and_eq_true:=@Bool.and_eq_true
theorem zE:type_of% @Nat.zero_le:=@Nat.zero_le
theorem zF:type_of% @beq_iff_eq:=@beq_iff_eq
theorem zG:type_of% @decide_eq_true_eq:=@decide_eq_true_eq
theorem zH:type_of% @List.getElem_mem:=@List.getElem_mem
theorem zI:type_of% @decide_eq_false:=@decide_eq_false
theorem zJ:type_of% @List.append_assoc:=@List.append_assoc
theorem zL:type_of% @List.getElem?_eq_getElem:=@List.getElem?_eq_getElem
theorem zM:type_of% @List.mem_append:=@List.mem_append
theorem zN:type_of% @decide_eq_true:=@decide_eq_true
theorem zO:type_of% @List.mem_singleton:=@List.mem_singleton
theorem zP:type_of% @Nat.zero_add:=@Nat.zero_add
theorem zQ:type_of% @List.set_cons_succ:=@List.set_cons_succ
theorem zR:type_of% @Nat.lt_of_lt_of_le:=@Nat.lt_of_lt_of_le
theorem zS:type_of% @List.mem_cons_self:=@List.mem_cons_self
theorem zT:type_of% @List.mem_cons:=@List.mem_cons
theorem zU:type_of% @List.length_map:=@List.length_map
theorem zV:type_of% @List.setIfInBounds_toArray:=@List.setIfInBounds_toArray
theorem zX:type_of% @List.set_cons_zero:=@List.set_cons_zero
theorem zY:type_of% @Bool.eq_iff_iff:=@Bool.eq_iff_iff
theorem zZ:type_of% @List.getElem?_eq_some_iff:=@List.getElem?_eq_some_iff
theorem za:type_of% @List.mem_cons_of_mem:=@List.mem_cons_of_mem
theorem zb:type_of% @Int.toNat_natCast:=@Int.toNat_natCast
theorem zc:type_of% @List.take_succ_eq_append_getElem:=@List.take_succ_eq_append_getElem
theorem zd:type_of% @List.append_nil:=@List.append_nil
theorem ze:type_of% @Nat.add_zero:=@Nat.add_zero
theorem zf:type_of% @List.take_of_length_le:=@List.take_of_length_le
theorem zg:type_of% @List.length_singleton:=@List.length_singleton
theorem zh:type_of% @Nat.le_succ:=@Nat.le_succ
theorem zi:type_of% @List.getElem_append_left:=@List.getElem_append_left
theorem zj:type_of% @List.eq_nil_of_length_eq_zero:=@List.eq_nil_of_length_eq_zero
theorem zk:type_of% @List.getElem?_map:=@List.getElem?_map
theorem zl:type_of% @List.map_append:=@List.map_append
theorem zm:type_of% @List.flatMap_cons:=@List.flatMap_cons
theorem zn:type_of% @List.mem_map:=@List.mem_map
theorem zo:type_of% @List.getD_eq_getElem?_getD:=@List.getD_eq_getElem?_getD
theorem zp:type_of% @bne_iff_ne:=@bne_iff_ne
theorem zq:type_of% @Int.le_refl:=@Int.le_refl
theorem zr:type_of% @Bool.true_and:=@Bool.true_and
theorem zt:type_of% @List.all_eq_true:=@List.all_eq_true
theorem zu:type_of% @List.mem_of_getElem?:=@List.mem_of_getElem?
theorem zv:type_of% @List.length_take:=@List.length_take
theorem zw:type_of% @Nat.zero_mul:=@Nat.zero_mul
theorem zx:type_of% @Nat.le_of_eq:=@Nat.le_of_eq
theorem zy:type_of% @ByteArray.toList_eq:=@ByteArray.toList_eq
theorem z0:type_of% @Nat.le_refl:=@Nat.le_refl
theorem z1:type_of% @List.getElem?_cons_succ:=@List.getElem?_cons_succ
theorem z2:type_of% @List.getElem?_append_left:=@List.getElem?_append_left
theorem z3:type_of% @List.getElem_cons_zero:=@List.getElem_cons_zero
theorem z4:type_of% @List.getElem?_cons_zero:=@List.getElem?_cons_zero
theorem z5:type_of% @Nat.lt_succ_self:=@Nat.lt_succ_self
theorem z6:type_of% @List.length_set:=@List.length_set
theorem z7:type_of% @List.map_map:=@List.map_map
theorem z8:type_of% @List.getElem?_append_right:=@List.getElem?_append_right
theorem z9:type_of% @List.getElem_of_mem:=@List.getElem_of_mem
theorem Z0:type_of% @Bool.eq_false_iff:=@Bool.eq_false_iff
theorem Z1:type_of% @Nat.add_assoc:=@Nat.add_assoc
theorem Z2:type_of% @List.mem_flatMap:=@List.mem_flatMap
theorem Z3:type_of% @List.flatMap_append:=@List.flatMap_append
theorem Z4:type_of% @List.drop_eq_getElem_cons:=@List.drop_eq_getElem_cons
theorem Z5:type_of% @Int.eq_ofNat_of_zero_le:=@Int.eq_ofNat_of_zero_le
theorem Z6:type_of% @List.isEmpty_iff:=@List.isEmpty_iff
theorem Z7:type_of% @Option.bind_some:=@Option.bind_some
theorem Z8:type_of% @List.mem_append_left:=@List.mem_append_left
theorem Z9:type_of% @List.take_append_drop:=@List.take_append_drop
theorem yA:type_of% @List.take_length:=@List.take_length
theorem yB:type_of% @List.getElem?_eq_none:=@List.getElem?_eq_none
theorem yC:type_of% @Int.natCast_add:=@Int.natCast_add
theorem yD:type_of% @Nat.pos_of_ne_zero:=@Nat.pos_of_ne_zero
theorem yE:type_of% @List.getElem_append_right:=@List.getElem_append_right
theorem yF:type_of% @List.getElem_cons_succ:=@List.getElem_cons_succ
theorem yG:type_of% @List.drop_of_length_le:=@List.drop_of_length_le
theorem yH:type_of% @Array.getD_eq_getD_getElem?:=@Array.getD_eq_getD_getElem?
theorem yI:type_of% @Int.tdiv_eq_ediv_of_nonneg:=@Int.tdiv_eq_ediv_of_nonneg
theorem yJ:type_of% @Int.tmod_eq_emod_of_nonneg:=@Int.tmod_eq_emod_of_nonneg
theorem Ag {a b:Bool}(h:a=b):Ending.returned (.bool a)= .returned (.bool b):=by rw[h]
def nmI (c:Int):Bool:=decide (97<=c/\c<=122\/48<=c/\c<=57\/c=46\/c=95\/c=45\/c=58)
def dgI (c:Int):Bool:=decide (48<=c/\c<=57)
def IJ (l:List UInt8):Bool:=l.all fun c=>nmI (c.toNat:Int)
def vnB (s:ByteArray):Bool:=decide (1<=s.size/\s.size<=32)&&IJ s.data.toList
theorem NP (s:ByteArray)(k:Nat)(h:k<s.size):s.data.toList.take (k+1)=s.data.toList.take k++[s[k]]:=by
 rw[zc (by simpa using h)];rfl
theorem Re (l:List UInt8)(c:UInt8):IJ (l++[c])=(IJ l&&nmI (c.toNat:Int)):=by
 simp[IJ,List.all_append]
theorem Pg (s:ByteArray)(k:Nat)(h:k<s.size)(a:nmI ((s[k]).toNat:Int)=false):IJ s.data.toList=false:=by
 rw[<-Z9 (k+1) s.data.toList,IJ,List.all_append,NP s k h,List.all_append];simp[a]
def ofL (l:List UInt8):ByteArray:=⟨l.toArray⟩
def LY (s:ByteArray):List UInt8:=s.data.toList
theorem MX (s:ByteArray):(LY s).length=s.size:=by simp[LY]
theorem Lp (h:s.size=0):s=ByteArray.empty:=by
 cases s with|mk d=>cases d with|mk l=>simp[ByteArray.size]at h;subst h;rfl
theorem CS (h:s.size≠0):s.toList.isEmpty=false:=by
 rw[zy];cases s with|mk d=>cases d with|mk l=>simp[ByteArray.size]at h|-;exact h
set_option maxHeartbeats 400000
theorem VG (c:Int)(w:World):
  Calls jL 108 #[U .u8 c] w fun e w'=>e= .returned (.bool (dgI c))/\w'=w:=by
 go_enter func108,ntmps108
 go_wp2
 all_goals
  go_ret
  refine⟨Ag ?_,rfl⟩;rw[zY]
  simp_all[dgI]
  try omega
end Go.Proofs.YtppafecmccdplaaGreat

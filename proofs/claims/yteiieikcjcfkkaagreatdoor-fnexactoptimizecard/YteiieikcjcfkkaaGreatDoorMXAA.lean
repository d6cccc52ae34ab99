import Derived.Test.YteiieikcjcfkkaaGreatDoorRows
import Derived.WalkSpells
import Derived.WalkLawsBesides
import Derived.BigQuiet
open Go.Proofs.Tryz
open Option renaming none->T,some->X
open Go.Value renaming int->U,slice->Y,string->Q
open Go renaming World->Z,Value->R,Addr->jD,Calls->jE,TypeId->jJ,maxLen->jM
open Bool renaming true->jA,false->jC
open Go.Ending renaming returned->jH
open ByteArray renaming empty->jU
open Go.Op renaming bytesLess->ju
open Go.Proofs.Tryz renaming prog->j4
namespace Go.Proofs.YteiieikcjcfkkaaGreatDoor
open Go.RowKit
variable {cs:Array R}{s:ByteArray}{ss:List ByteArray}{B b c:Nat}{a:Option jD}{t:jJ}{p:UInt8->Bool}{w w':Z}
theorem Ab {p:Prop}(h:p):Hid p:=h
theorem Aa {p:Prop}(h:Hid p):p:=h
abbrev Ah (w v:Z):Prop:=Below w.heap.size w v
theorem Av (w:Z)(o:Obj):Below w.heap.size w (w.alloc o):=(Below.refl w.heap.size w).alloc (Nat.le_refl w.heap.size) o
theorem Ji (w:Z):Below w.heap.size w w:=Below.refl w.heap.size w
abbrev BV (a b:Int) (c:ByteArray) (d:Option jD) (e f:Nat) (g:Option jD) (h i:Nat):Obj:= .cells #[U .i64 a,U .i64 b,Q c,Y d e f,Y g h i] 48
abbrev Dw (a b:Int) (c:ByteArray) (d:Option jD) (e f:Nat) (g:Option jD) (h i:Nat):Obj:= .cells #[U .i64 a,U .i64 b,Q c,Y d e f,Y g h i] 85
abbrev Fo (a:Option jD) (b c:Nat) (d:Option jD) (e f:Nat) (g:Option jD) (h i:Nat):Obj:= .cells #[Y a b c,Y d e f,Y g h i] 31
abbrev PN (a:Int) (b:ByteArray) (c d:Int):Obj:= .cells #[U .i64 a,Q b,U .i64 c,U .i64 d] 53
theorem NLN {n:Nat}:n<=n:=Nat.le_refl n
theorem BRN :Below B w w:=Below.refl B w
theorem zA:type_of% @beq_eq_false_iff_ne:=@beq_eq_false_iff_ne
theorem zB:type_of% @Nat.le_trans:=@Nat.le_trans
theorem zC:type_of% @List.length_append:=@List.length_append
theorem zD:type_of% @Nat.zero_le:=@Nat.zero_le
theorem zE:type_of% @Nat.lt_of_lt_of_le:=@Nat.lt_of_lt_of_le
theorem zF:type_of% @Bool.and_eq_true:=@Bool.and_eq_true
theorem zG:type_of% @List.getElem?_eq_getElem:=@List.getElem?_eq_getElem
theorem zH:type_of% @List.getElem_mem:=@List.getElem_mem
theorem zI:type_of% @decide_eq_true_eq:=@decide_eq_true_eq
theorem zJ:type_of% @decide_eq_false:=@decide_eq_false
theorem zL:type_of% @decide_eq_true:=@decide_eq_true
theorem zM:type_of% @beq_iff_eq:=@beq_iff_eq
theorem zN:type_of% @List.mem_append:=@List.mem_append
theorem zO:type_of% @Bool.eq_iff_iff:=@Bool.eq_iff_iff
theorem zP:type_of% @List.mem_cons:=@List.mem_cons
theorem zQ:type_of% @List.take_succ_eq_append_getElem:=@List.take_succ_eq_append_getElem
theorem zR:type_of% @List.map_append:=@List.map_append
theorem zS:type_of% @List.mem_singleton:=@List.mem_singleton
theorem zT:type_of% @List.append_assoc:=@List.append_assoc
theorem zU:type_of% @Nat.zero_add:=@Nat.zero_add
theorem zV:type_of% @Int.toNat_natCast:=@Int.toNat_natCast
theorem zX:type_of% @Nat.add_zero:=@Nat.add_zero
theorem zY:type_of% @List.take_of_length_le:=@List.take_of_length_le
theorem zZ:type_of% @List.getElem?_map:=@List.getElem?_map
theorem za:type_of% @List.mem_cons_self:=@List.mem_cons_self
theorem zc:type_of% @bne_iff_ne:=@bne_iff_ne
theorem zd:type_of% @List.getElem?_eq_some_iff:=@List.getElem?_eq_some_iff
theorem ze:type_of% @List.length_map:=@List.length_map
theorem zf:type_of% @List.mem_cons_of_mem:=@List.mem_cons_of_mem
theorem zg:type_of% @List.mem_map:=@List.mem_map
theorem zh:type_of% @List.set_cons_zero:=@List.set_cons_zero
theorem zi:type_of% @List.flatMap_cons:=@List.flatMap_cons
theorem zj:type_of% @Nat.le_succ:=@Nat.le_succ
theorem zk:type_of% @List.set_cons_succ:=@List.set_cons_succ
theorem zm:type_of% @Option.bind_some:=@Option.bind_some
theorem zn:type_of% @List.setIfInBounds_toArray:=@List.setIfInBounds_toArray
theorem zo:type_of% @List.getElem_append_left:=@List.getElem_append_left
theorem zp:type_of% @List.mem_of_getElem?:=@List.mem_of_getElem?
theorem zq:type_of% @Array.getElem?_setIfInBounds_ne:=@Array.getElem?_setIfInBounds_ne
theorem zr:type_of% @List.length_take:=@List.length_take
theorem zt:type_of% @List.getElem_cons_zero:=@List.getElem_cons_zero
theorem zu:type_of% @List.findSome?_cons:=@List.findSome?_cons
theorem zv:type_of% @Bool.eq_false_iff:=@Bool.eq_false_iff
theorem zw:type_of% @ByteArray.toList_eq:=@ByteArray.toList_eq
theorem zx:type_of% @List.getElem?_set_ne:=@List.getElem?_set_ne
theorem zy:type_of% @List.getElem_of_mem:=@List.getElem_of_mem
theorem z0:type_of% @Nat.zero_mul:=@Nat.zero_mul
theorem z1:type_of% @List.all_eq_true:=@List.all_eq_true
theorem z2:type_of% @Bool.eq_false_or_eq_true:=@Bool.eq_false_or_eq_true
theorem z3:type_of% @List.isEmpty_iff:=@List.isEmpty_iff
theorem z4:type_of% @Array.getElem?_eq_some_iff:=@Array.getElem?_eq_some_iff
theorem z5:type_of% @List.drop_eq_getElem_cons:=@List.drop_eq_getElem_cons
theorem z6:type_of% @List.getElem?_cons_succ:=@List.getElem?_cons_succ
theorem z7:type_of% @List.map_map:=@List.map_map
theorem z8:type_of% @List.getElem_cons_succ:=@List.getElem_cons_succ
theorem z9:type_of% @List.eq_nil_of_length_eq_zero:=@List.eq_nil_of_length_eq_zero
theorem Z0:type_of% @Bool.true_and:=@Bool.true_and
theorem Z2:type_of% @List.take_length:=@List.take_length
theorem Z3:type_of% @List.append_nil:=@List.append_nil
theorem Z4:type_of% @Nat.add_assoc:=@Nat.add_assoc
theorem Z5:type_of% @List.getElem?_append_left:=@List.getElem?_append_left
theorem Z6:type_of% @Int.le_refl:=@Int.le_refl
theorem Z7:type_of% @List.mem_append_left:=@List.mem_append_left
theorem yA:type_of% @List.getElem?_eq_none:=@List.getElem?_eq_none
theorem yB:type_of% @Nat.lt_succ_self:=@Nat.lt_succ_self
theorem yC:type_of% @List.getD_eq_getElem?_getD:=@List.getD_eq_getElem?_getD
theorem yD:type_of% @List.ext_getElem:=@List.ext_getElem
theorem yE:type_of% @List.flatMap_append:=@List.flatMap_append
theorem yF:type_of% @List.length_singleton:=@List.length_singleton
theorem yG:type_of% @List.getElem?_cons_zero:=@List.getElem?_cons_zero
theorem yH:type_of% @List.getElem_append_right:=@List.getElem_append_right
theorem yI:type_of% @List.findSome?_nil:=@List.findSome?_nil
theorem yJ:type_of% @Int.eq_ofNat_of_zero_le:=@Int.eq_ofNat_of_zero_le
theorem yK:type_of% @Array.getElem?_toList:=@Array.getElem?_toList
theorem yL:type_of% @List.getElem?_append_right:=@List.getElem?_append_right
theorem yM:type_of% @Array.getElem?_eq_none:=@Array.getElem?_eq_none
theorem yN:type_of% @List.take_append_drop:=@List.take_append_drop
theorem Ad {a b:Bool}(h:a=b):jH (.bool a)=jH (.bool b):=by rw[h]
def nmI (c:Int):Bool:=decide (97<=c/\c<=122\/48<=c/\c<=57\/c=46\/c=95\/c=45\/c=58)
def dgI (c:Int):Bool:=decide (48<=c/\c<=57)
def Ku (l:List UInt8):Bool:=l.all fun c=>nmI (c.toNat:Int)
def vnB (s:ByteArray):Bool:=decide (1<=s.size/\s.size<=32)&&Ku s.data.toList
theorem Ng (s:ByteArray)(k:Nat)(h:k<s.size):s.data.toList.take (k+1)=s.data.toList.take k++[s[k]]:=by
 rw[zQ (by simpa using h)];rfl
theorem Qh (l:List UInt8)(c:UInt8):Ku (l++[c])=(Ku l&&nmI (c.toNat:Int)):=by
 simp[Ku,List.all_append]
theorem Oh (s:ByteArray)(k:Nat)(h:k<s.size)(a:nmI ((s[k]).toNat:Int)=jC):Ku s.data.toList=jC:=by
 rw[<-yN (k+1) s.data.toList,Ku,List.all_append,Ng s k h,List.all_append];simp[a]
def ofL (l:List UInt8):ByteArray:=⟨l.toArray⟩
def GK (s:ByteArray):List UInt8:=s.data.toList
theorem ME (s:ByteArray):(GK s).length=s.size:=by simp[GK]
def dgB (c:UInt8):Bool:=dgI (c.toNat:Int)
theorem GM (h:s.size=0):s=jU:=by
 cases s with|mk d=>cases d with|mk l=>simp[ByteArray.size]at h;subst h;rfl
theorem Ik (h:s.size≠0):s.toList.isEmpty=jC:=by
 rw[zw];cases s with|mk d=>cases d with|mk l=>simp[ByteArray.size]at h|-;exact h
def Yq (c:Int):Bool:=decide (97<=c/\c<=122)
def ltB (c:UInt8):Bool:=Yq (c.toNat:Int)
def wdI (c:Int):Bool:=Yq c||dgI c||decide (c=95)
def OA (c:UInt8):Bool:=wdI (c.toNat:Int)
def nmB (c:UInt8):Bool:=nmI (c.toNat:Int)
def JN (p:UInt8->Bool) (s:ByteArray) (j:Nat):Nat:=j+(((GK s).drop j).takeWhile p).length
theorem NK (s:ByteArray)(j:Nat)(h:j<s.size):(GK s).drop j=s[j] ::(GK s).drop (j+1):=by
 have a:j<(GK s).length:=by rw[ME];exact h
 rw[z5 a];rfl
theorem NJ {j:Nat}(h:j<s.size)(hp:p s[j]=jA):JN p s j=JN p s (j+1):=by
 rw[JN,JN,NK s j h,List.takeWhile_cons,if_pos hp];simp;omega
theorem NI {j:Nat}(h:j<s.size)(hp:p s[j]=jC):JN p s j=j:=by
 rw[JN,NK s j h,List.takeWhile_cons,if_neg (by simp[hp])];rfl
theorem Ru {j:Nat}(h:s.size<=j):JN p s j=j:=by
 rw[JN,List.drop_of_length_le (by rw[ME];exact h)];rfl
def JM (p:UInt8->Bool) (r:List UInt8):Nat:=(r.takeWhile p).length
theorem AcE (p:UInt8->Bool)(s:ByteArray)(j:Nat):JN p s j=j+JM p ((GK s).drop j):=rfl
theorem NH (p:UInt8->Bool)(s:ByteArray):JN p s 0=JM p (GK s):=by simp[AcE]
def GL:List (List UInt8):= [[108,101,116],[119,104,101,110],[101,108,115,101],[100,101,110,121],[103,114,97,110,116],[105,102],[116,104,101,110],[110,111,116],[97,110,100],[111,114],[105,110],[119,105,116,104,105,110],[115,105,122,101],[116,114,117,101],[102,97,108,115,101]]
def NM (l:List UInt8):Bool:=GL.contains l
inductive One where
 |bad (code:Int)
 |tok (kind num:Int) (text:List UInt8) (w:Nat)
def Aw (ss:List ByteArray) (k:Nat):ByteArray:=ss.getD k jU
theorem Bv (ss:List ByteArray)(k:Nat)(h:k<ss.length):Aw ss k=ss[k]:=by
 simp[Aw,List.getD,h]
structure Ap (w:Z) (a:Option jD) (n c:Nat) (ss:List ByteArray):Prop where
 len:n=ss.length
 cap:n<=c
 small:c<=jM
 sizes:∀j,j<n->(Aw ss j).size<=jM
 cells:∀j,j<n->∃b off,a=X ⟨b,off,T⟩/\b<w.heap.size/\w.cell? ⟨b,off+j,T⟩=X (Q (Aw ss j))
theorem Ap.below {n:Nat}(h:Ap w a n c ss)(d:Below B w w')(hB:w.heap.size<=B):Ap w' a n c ss:=
 ⟨h.len,h.cap,h.small,h.sizes,fun j i=>by
  obtain⟨b,f,k,g,hc⟩:=h.cells j i;exact⟨b,f,k,zE g d.size,by rw[<-hc];exact d.cell (p:=⟨b,f+j,T⟩) (zE g hB)⟩⟩
theorem Ap.at {n c:Nat}(h:Ap w a n c ss)(i: 0<n):
  ∃b d,a=X ⟨b,d,T⟩/\b<w.heap.size/\∀j,j<n->w.cell? ⟨b,d+j,T⟩=X (Q (Aw ss j)):=by
 obtain⟨b,d,g,k,_⟩:=h.cells 0 i;refine⟨b,d,g,k,fun j l=>?_⟩;obtain⟨o,p,f,_,m⟩:=h.cells j l;rw[g]at f;simp only[Option.some.injEq,Addr.mk.injEq,and_true]at f;obtain⟨rfl,rfl⟩:=f;exact m
def sl (a b:ByteArray):Bool:=ju a.toList b.toList
theorem MA:∀(x y:List UInt8),ju x y=decide (x<y)
 |[],[]=>by simp[ju]
 |_ ::_,[]=>by simp[ju]
 |[],_ ::_=>by simp[ju]
 |a ::x,b ::y=>by
  rw[ju,MA x y];simp only[List.cons_lt_cons_iff];by_cases h1:a<b<;>by_cases h2:a=b<;>by_cases h3:x<y<;>simp[h1,h2,h3]
theorem ZH (a b:ByteArray):sl a b=jA↔a.data.toList<b.data.toList:=by
 rw[sl,MA,zw,zw];simp
theorem Ju {a b c:ByteArray}(h:sl a b=jA)(k:sl b c=jA):sl a c=jA:=by
 rw[ZH]at*;exact List.lt_trans h k
theorem Dx (a:ByteArray):sl a a=jC:=by
 rw[zv];intro h;rw[ZH]at h;exact List.lt_irrefl _ h
theorem TV {a b:ByteArray}(h:a.data.toList=b.data.toList):a=b:=by
 cases a with|mk x=>cases b with|mk y=>cases x;cases y;simp at h;subst h;rfl
theorem Uy (a b:ByteArray)(h1:sl a b=jC)(h2:sl b a=jC):a=b:=by
 apply TV;rw[zv]at h1 h2;rw[Ne,ZH]at h1 h2;exact List.le_antisymm (List.not_lt.1 h2) (List.not_lt.1 h1)
theorem XL {a b:ByteArray}(h:sl a b=jA):sl b a=jC:=by
 rw[zv];intro k;have:=Ju h k;rw[Dx]at this;cases this
def By (ss:List ByteArray):Bool:=decide (ss.Pairwise fun a b=>sl a b=jA)
def Ja (ss:List ByteArray):Bool:=ss.all vnB
def AC (ss:List ByteArray):Bool:=decide (ss.length<=64)&&(Ja ss&&By ss)
theorem XM (ss:List ByteArray):Ja ss=jA↔∀j,j<ss.length->vnB (Aw ss j)=jA:=by
 rw[Ja,z1];constructor
 ·intro h j a;rw[Bv ss j a];exact h _ (zH a)
 ·intro h x hx;obtain⟨j,a,rfl⟩:=zy hx;rw[<-Bv ss j a];exact h j a
theorem Abh (ss:List ByteArray)(h:∀j,j<ss.length->vnB (Aw ss j)=jA):Ja ss=jA:=(XM ss).2 h
theorem XN (ss:List ByteArray)(j:Nat)(a:j<ss.length)(h:vnB (Aw ss j)=jC):Ja ss=jC:=by
 rw[zv];intro k;rw[(XM ss).1 k j a]at h;cases h
theorem Fg (ss:List ByteArray):By ss=jA↔∀i j,i<j->j<ss.length->sl (Aw ss i) (Aw ss j)=jA:=by
 rw[By,zI,List.pairwise_iff_getElem];constructor
 ·intro h i j b a;rw[Bv ss i (by omega),Bv ss j a];exact h i j (by omega) a b
 ·intro h i j hi a b;rw[<-Bv ss i hi,<-Bv ss j a];exact h i j b a
theorem XO (ss:List ByteArray)(i j:Nat)(a:i<j)(b:j<ss.length)(h:sl (Aw ss i) (Aw ss j)=jC):By ss=jC:=by
 rw[zv];intro k;rw[(Fg ss).1 k i j a b]at h;cases h
theorem Afs (ss:List ByteArray)(n:Nat)(h:∀i,0<i->i<n->sl (Aw ss (i-1)) (Aw ss i)=jA):∀d i,i+d+1<n->sl (Aw ss i) (Aw ss (i+d+1))=jA:=by
 intro d
 induction d with
 |zero=>intro i hi;have:=h (i+1) (by omega) hi;simpa using this
 |succ d a=>
  intro i hi;have h1:=a i (by omega);have h2:=h (i+(d+1)+1) (by omega) hi;rw[show i+(d+1)+1-1=i+d+1 from by omega]at h2;exact Ju h1 h2
theorem UY (ss:List ByteArray)(h:∀i,0<i->i<ss.length->sl (Aw ss (i-1)) (Aw ss i)=jA):By ss=jA:=by
 rw[Fg];intro i j a b;have:=Afs ss ss.length h (j-i-1) i (by omega);rw[show i+(j-i-1)+1=j from by omega]at this;exact this
theorem TY (ss:List ByteArray)(h: 64<ss.length):AC ss=jC:=by
 have: ¬ ss.length<=64:=by omega
 simp[AC,this]
theorem Rp (ss:List ByteArray)(h:ss.length<=64):AC ss=(Ja ss&&By ss):=by
 simp[AC,h]
theorem Aft (p:UInt8->Bool)(a:List UInt8):(a.take (JM p a)).all p=jA:=by
 have:a.take (JM p a)=a.takeWhile p:=by
  obtain⟨t,b⟩:=List.takeWhile_prefix p (l:=a);rw[JM];have e:(a.takeWhile p++t).take (a.takeWhile p).length=a.takeWhile p:=by simp
  rw[b]at e;exact e
 rw[this,List.all_takeWhile]
set_option maxHeartbeats 400000
theorem Ff (c:Int)(w:Z):
  jE j4 181 #[U .u8 c] w fun e w'=>e=jH (.bool (dgI c))/\w'=w:=by
 go_enter func181,ntmps181
 go_wp2
 all_goals
  go_ret
  refine⟨Ad ?_,rfl⟩;rw[zO]
  simp_all[dgI]
  try omega
set_option maxHeartbeats 800000
theorem Jv (c:Int)(w:Z):
  jE j4 174 #[U .u8 c] w fun e w'=>e=jH (.bool (nmI c))/\w'=w:=by
 go_enter func174,ntmps174
 go_wp2
 all_goals
  go_ret
  refine⟨Ad ?_,rfl⟩;rw[zO]
  simp_all[nmI]
  try omega
theorem L8 (c:Int)(w:Z):
  jE j4 160 #[U .u8 c] w fun e w'=>e=jH (.bool (nmI c))/\w'=w:=by
 go_enter func160,ntmps160
 go_wp2_with (go_at_call 181;refine(Ff _ _).mono ?_;rintro e w' ⟨rfl,rfl⟩)
 all_goals
  go_ret
  refine⟨Ad ?_,rfl⟩;rw[zO]
  simp_all[nmI,dgI]
  try omega
theorem GE (s:ByteArray)(w:Z)(hs:s.size<=jM):
  jE j4 131 #[Q s] w fun e w'=>e=jH (.bool (decide (s.size<=32)&&Ku s.data.toList))/\w'=w:=by
 unfold jM at hs;by_cases g:s.size<=32
 ·go_enter func131,ntmps131
  go_wp2
  go_loop [3,9] (fun _ i=>∃k:Nat,k<=s.size/\i=U .i64 k/\Ku (s.data.toList.take k)=jA) (fun _ i=>s.size-(intOf i).toNat)
  case atStart=>exact⟨0,zD _,rfl,rfl⟩
  case round=>
   obtain⟨k,j,rfl,c⟩:=hrel;have d:=Ab c;clear c;by_cases f:k<s.size
   ·cases a:nmI ((s[k]).toNat:Int)
    ·have h:=Ab (Oh s k f a);have b:=Ab a;clear a;go_wp2_with (go_at_call 160;refine(L8 _ _).mono ?_;rintro e w' ⟨rfl,rfl⟩;rw[Aa b])
     go_ret
     exact⟨Ad (by rw[Aa h];simp),rfl⟩
    ·have b:=Ab a;clear a;go_wp2_with (go_at_call 160;refine(L8 _ _).mono ?_;rintro e w' ⟨rfl,rfl⟩;rw[Aa b])
     go_round
     case rel=>exact⟨k+1,by omega,by go_num,by rw[Ng s k f,Qh,Aa d,Aa b];rfl⟩
     case measure=>simp[intOf];omega
   ·go_wp2
    go_ret
    refine⟨Ad ?_,rfl⟩;have:=Aa d;rw[zY (by simp;omega)]at this;simp[this]
 ·go_enter func131,ntmps131
  go_wp2
  go_ret
  exact⟨Ad (by simp[g]),rfl⟩
theorem Gb (s:ByteArray)(w:Z)(hs:s.size<=jM):
  jE j4 149 #[Q s] w fun e w'=>e=jH (.bool (vnB s))/\w'=w:=by
 unfold jM at hs;by_cases h1:s.size<1
 ·have h:s.size=0:=by omega
  go_enter func149,ntmps149
  go_wp2
  go_ret
  exact⟨Ad (by simp[vnB,h]),rfl⟩
 ·by_cases c:s.size<=32
  ·have j: ¬ ((s.size:Int)<1):=by omega
   have l: ¬ ((32 :Int)<(s.size:Int)):=by omega
   go_enter func149,ntmps149
   go_wp2
   go_loop [3] (fun i=>∃k:Nat,k<=s.size/\i=U .i64 k/\Ku (s.data.toList.take k)=jA) (fun i=>s.size-(intOf i).toNat)
   case atStart=>exact⟨0,zD _,rfl,rfl⟩
   case round=>
    obtain⟨k,n,rfl,d⟩:=hrel;have f:=Ab d;clear d;by_cases g:k<s.size
    ·cases a:nmI ((s[k]).toNat:Int)
     ·have m:=Ab (Oh s k g a);have b:=Ab a;clear a;go_wp2_with (go_at_call 174;refine(Jv _ _).mono ?_;rintro e w' ⟨rfl,rfl⟩;rw[Aa b])
      go_ret
      exact⟨Ad (by rw[vnB,Aa m];simp),rfl⟩
     ·have b:=Ab a;clear a;go_wp2_with (go_at_call 174;refine(Jv _ _).mono ?_;rintro e w' ⟨rfl,rfl⟩;rw[Aa b])
      go_round
      case rel=>exact⟨k+1,by omega,by go_num,by rw[Ng s k g,Qh,Aa f,Aa b];rfl⟩
      case measure=>simp[intOf];omega
    ·go_wp2
     go_ret
     refine⟨Ad ?_,rfl⟩;have:=Aa f;rw[zY (by simp;omega)]at this;simp[vnB,this,c];omega
  ·have j: ¬ ((s.size:Int)<1):=by omega
   have l:((32 :Int)<(s.size:Int)):=by omega
   go_enter func149,ntmps149
   go_wp2
   go_ret
   exact⟨Ad (by simp[vnB,c]),rfl⟩
theorem Jw (s:ByteArray)(w:Z)(hs:s.size<=jM):
  jE j4 182 #[Q s] w fun e w'=>e=jH (.bool (vnB s))/\w'=w:=by
 by_cases h1:s.size=0
 ·have he:s=jU:=by
   cases s with|mk d=>cases d with|mk l=>simp[ByteArray.size]at h1;subst h1;rfl
  subst he;go_enter func182,ntmps182
  go_wp2
  go_ret
  exact⟨rfl,rfl⟩
 ·have a:s.toList.isEmpty=jC:=by
   rw[zw];cases s with|mk d=>cases d with|mk l=>simp[ByteArray.size]at h1|-;exact h1
  go_enter func182,ntmps182
  go_wp2_with (go_at_call 131;refine(GE _ _ hs).mono ?_;rintro e w' ⟨rfl,rfl⟩)
  go_ret
  refine⟨Ad ?_,rfl⟩;rw[vnB]
  congr 1
  rw[decide_eq_decide];omega
theorem AhD {a c:Z}(d:Below a.heap.size a c):(∀b o,b<a.heap.size->c.cell? ⟨b,o,T⟩=a.cell? ⟨b,o,T⟩)/\(∀b o,b<a.heap.size->c.frozen? ⟨b,o,T⟩=a.frozen? ⟨b,o,T⟩):=
 ⟨fun b o h=>d.cell (p:=⟨b,o,T⟩) h,fun b o h=>d.frozen (p:=⟨b,o,T⟩) h⟩
structure Ag (w:Z) (b:Nat) (cs:Array R) (t:jJ):Prop where
 out:w.heap[b]? =X (.cells cs t (0,0))
theorem Ag.lt {b:Nat}(h:Ag w b cs t):b<w.heap.size:=(Array.getElem?_eq_some_iff.1 h.out).1
theorem Ag.below (h:Ag w b cs t)(a:Below B w w')(hB:b<B):Ag w' b cs t:=⟨(a.block b hB).trans h.out⟩
theorem Ag.after (h:Ag w b cs t)(a:Below B w w')(hB:w.heap.size<=B):Ag w' b cs t:=h.below a (Nat.lt_of_lt_of_le h.lt hB)
theorem Ag.alloc {w:Z}{b:Nat}{cs:Array R}{t:jJ}(h:Ag w b cs t)(o:Obj):Ag (w.alloc o) b cs t:=⟨(Below.heap_alloc w o b h.lt).trans h.out⟩
theorem Ag.new (w:Z)(cs:Array R)(t:jJ):Ag (w.alloc (.cells cs t)) w.heap.size cs t:=⟨heap_alloc_new w _⟩
theorem Ag.set {b:Nat}(h:Ag w b cs t)(j:Nat)(u:R):Ag (w.setCell ⟨b,j,T⟩ u) b (cs.setIfInBounds j u) t:=⟨heap_setCell_same w b j cs t u h.out⟩
theorem Ag.setFar {b:Nat}(h:Ag w b cs t){p:jD}(hp:b≠p.block)(u:R):Ag (w.setCell p u) b cs t:=⟨(heap_setCell_other w p b u hp).trans h.out⟩
theorem Ag.cell {w:Z}{b:Nat}{cs:Array R}{t:jJ}(h:Ag w b cs t)(j:Nat):w.cell? ⟨b,j,T⟩=cs[j]? :=by
 have:=cell_of_row w b j cs t (0,0) h.out;simpa using this
theorem Ag.frozen {w:Z}{b:Nat}{cs:Array R}{t:jJ}(h:Ag w b cs t)(j:Nat):w.frozen? ⟨b,j,T⟩=jC:=frozen_of_row w b j cs t h.out
def tot (ss:List ByteArray):Nat:=(ss.map ByteArray.size).sum
theorem Sk (ss:List ByteArray)(k:Nat)(h:k<ss.length):tot (ss.take (k+1))=tot (ss.take k)+(Aw ss k).size:=by
 rw[Bv ss k h,tot,tot,zQ h,zR,List.sum_append];rfl
theorem Iz {k:IntKind}{a b:Int}(h:a=b):jH (.int k a)=jH (.int k b):=by rw[h]
theorem Ap.of_owns {f e:Nat}{n c:Nat}(h:w.ownsRow f e 1 (Y a n c) n (ss.map Q))(hs:∀j,j<n->(Aw ss j).size<=jM):
  Ap w a n c ss:=by
 have b:ss.length=n:=by simpa using h.1
 have i:=h;rcases h.2 with⟨hv,h0⟩|⟨g,cap,m,hv,o,hg,k,l,p,q⟩
 ·simp only[Value.slice.injEq]at hv;obtain⟨rfl,rfl,rfl⟩:=hv;exact⟨b.symm,NLN,zD _,hs,fun j d=>by omega⟩
 ·simp only[Value.slice.injEq,true_and]at hv;obtain⟨rfl,rfl⟩:=hv;refine⟨b.symm,k,l,hs,fun j d=>⟨g,0,rfl,?_,?_⟩⟩
  ·exact(z4.1 hg).1
  ·have:=i.cellAt j (by omega);rw[zU,this,Bv ss j (by omega)];simp[b,d]
def LT (ss:List ByteArray) (n k:Nat):List ByteArray:=(List.range n).map fun j=>if j<k then Aw ss j else jU
theorem AbO (ss:List ByteArray)(n:Nat):LT ss n 0=List.replicate n jU:=by
 apply yD
 ·simp[LT]
 ·intro i h1 h2;simp[LT]
theorem AbP (ss:List ByteArray)(n:Nat)(h:n=ss.length):LT ss n n=ss:=by
 apply yD
 ·simp[LT,h]
 ·intro i h1 h2;have:i<n:=by omega
  simp[LT,this,Bv ss i h2]
theorem AdN (ss:List ByteArray)(n k:Nat):((LT ss n k).map Q).set k (Q (Aw ss k))=(LT ss n (k+1)).map Q:=by
 apply yD
 ·simp[LT]
 ·intro i h1 h2;rw[List.getElem_set];simp only[LT,List.getElem_map,List.getElem_range];by_cases e:k=i
  ·subst e;simp
  ·rw[if_neg e];by_cases h:i<k
   ·rw[if_pos h,if_pos (by omega)]
   ·rw[if_neg h,if_neg (by omega)]
theorem Agm (ss:List ByteArray)(n k:Nat)(h:k<n):((LT ss n k).map Q)[k]? =X (Q jU):=by
 simp[LT,h]
theorem Jc:(j4.info? 9).map (fun i=>(i.zero,i.size,i.bytes))=X (X (Q jU),1,16):=by kernel_rfl
end Go.Proofs.YteiieikcjcfkkaaGreatDoor

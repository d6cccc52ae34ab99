import Derived.Test.YtnjpihpohilnjaaGreatDoorRows
import Derived.WalkSpells
import Derived.WalkLawsBesides
import Derived.BigQuiet
import Derived.Stop.Asserts
import Derived.Deep.RegionHeld3
import Derived.SevenTiedAt
import Derived.ProofKit
import Derived.OpenShut
import Derived.OpenVars
import Derived.ShutString
import Derived.LaidMore
import Derived.Deep.AppendLies
import Derived.Stop.LaidErr
open List renaming length->T,length->ja
open Option renaming none->U,some->Q
open Array renaming size->R,size->jh
open Go renaming World->jB,Value->jF,Addr->jG,TypeId->jV
open Bool renaming true->jD,false->jE
open ByteArray renaming empty->jW
namespace Go.Proofs.YtnjpihpohilnjaaGreatDoor
open Proofs.Tryz
open Value renaming int->V,slice->Y,string->jC,pointer->jP,tuple->jQ,iface->jU,nilIface->jX
open IntKind renaming i64->X
open World renaming heap->Z,cell?->jI,setCell->jJ,alloc->jK,ownsRow->jO,frozen?->jY
open Addr renaming mk->jA,block->jT
open Obj renaming cells->jH
open Ending renaming returned->jN
open Proofs.Tryz renaming prog->jZ
set_option linter.unusedVariables false
set_option maxRecDepth 100000
theorem Oa{p:Prop}(h:p:=by omega):p:=h
theorem Ob{p:Prop}[Decidable p](h:p:=by decide):p:=h
theorem Ox{p:Prop}(h:p:=by simp):p:=h
theorem Oy{p:Prop}(h:p:=by kernel_rfl):p:=h
theorem O0{p:Prop}(h:p:=by simp;omega):p:=h
theorem O1{p:Prop}(h:p:=by go_num):p:=h
theorem O2{p:Prop}(h:p:=by unfold maxLen;omega):p:=h
theorem O3{p:Prop}(h:p:=by (try simp only[zC,zN,List.length_cons,List.length_nil]);omega):p:=h
theorem O4{p:Prop}(h:p:=by simp[results,results13,go_sem,E,F,G]):p:=h
theorem O5{p:Prop}(h:p:=by cases e):p:=h
theorem O6{p:Prop}(h:p:=by rw[Jh rfl (by simp[FC,Ef])];exact JJ rfl (Jg o _ p h (h.leaf rfl)<|by rw[h.op];simp[FC,Ef])):p:=h
theorem O7{p:Prop}(h:p:=by rw[zC];simp only[List.length_cons,List.length_nil];omega):p:=h
theorem O8{p:Prop}(h:p:=by simpa[jL]using hq):p:=h
theorem O9{p:Prop}(h:p:=by rw[hq,e]):p:=h
theorem P1{p:Prop}(h:p:=by simp[results,results37,go_sem]):p:=h
theorem P2{p:Prop}(h:p:=by dsimp only;omega):p:=h
theorem P3{p:Prop}(h:p:=by simp[results,results130,go_sem]):p:=h
theorem P4{p:Prop}(h:p:=by show R (Z w)+1≠R (Z w)+1+1;omega):p:=h
theorem P5{p:Prop}(h:p:=by rw[zQ,Z1,decide_eq_true_iff];exact CM text):p:=h
theorem P7{p:Prop}(h:p:=by show R (Z w)<=R (Z w)+1+1;omega):p:=h
theorem P8{p:Prop}(h:p:=by show R (Z w)+1+1≠R (Z w)+1;omega):p:=h
theorem P9{p:Prop}(h:p:=by simp[results,results5,go_sem]):p:=h
theorem Qx{p:Prop}(h:p:=by by_cases e:j=0<;>simp[Addr.add,e]):p:=h
theorem Qy{p:Prop}(h:p:=by cases h):p:=h
theorem Q0{p:Prop}(h:p:=by simp[results,results62,go_sem,g0,g1]):p:=h
theorem Q1{p:Prop}(h:p:=by have:=h.cap;have:=h.aJ;unfold maxLen at this;omega):p:=h
theorem Q2{p:Prop}(h:p:=by have:=h.len;omega):p:=h
theorem Q3{p:Prop}(h:p:=by rw[zQ];simp):p:=h
theorem Q4{p:Prop}(h:p:=by assumption):p:=h
theorem Q5{p:Prop}(h:p:=by rw[h.op];simp[FC,Ef]):p:=h
theorem Q6{p:Prop}(h:p:=by simpa using h):p:=h
theorem Q7{p:Prop}(h:p:=by have:=Aa l;omega):p:=h
theorem Q8{p:Prop}(h:p:=by rw[Aa ae];exact⟨_,rfl,(Aa o).2.2,(Aa o).1⟩):p:=h
theorem Q9{p:Prop}(h:p:=by cases hx):p:=h
theorem S1{p:Prop}(h:p:=by show R (Z w0)<=mb;omega):p:=h
theorem S3{p:Prop}(h:p:=by rw[Aa g,Qa];simp only[Aa b];simp):p:=h
theorem S4{p:Prop}(h:p:=by grind):p:=h
theorem S6{p:Prop}(h:p:=by have:=Aa b;omega):p:=h
theorem S7{p:Prop}(h:p:=by simp[results,results112,go_sem]):p:=h
theorem S8{p:Prop}(h:p:=by simp[results,results152,go_sem]):p:=h
theorem S9{p:Prop}(h:p:=by simp[results,results137,go_sem]):p:=h
theorem Df{p:Prop}(h:p:=by simp[results,results136,go_sem]):p:=h
theorem Dn{p:Prop}(h:p:=by simp[usE,hm]):p:=h
theorem Do{p:Prop}(h:p:=by show a<a+1;omega):p:=h
theorem D0{p:Prop}(h:p:=by show ¬ (jh (Z w)<jh (Z w));omega):p:=h
theorem D2{p:Prop}(h:p:=by show d<B;omega):p:=h
theorem D3{p:Prop}(h:p:=by simp[results,results6,go_sem]):p:=h
theorem D4{p:Prop}(h:p:=by rw[zR.1 hx]at ho;cases ho):p:=h
theorem D5{p:Prop}(h:p:=by simp[results,results174,go_sem]):p:=h
theorem D6{p:Prop}(h:p:=by rw[h.op];simp[usE,FC,Ef]):p:=h
theorem D7{p:Prop}(h:p:=by rw[e];rfl):p:=h
theorem D8{p:Prop}(h:p:=by cases f;exact(Aa a).2.2):p:=h
theorem D9{p:Prop}(h:p:=by show R (Z w)<=R (Z w)+1;omega):p:=h
theorem Hb{p:Prop}(h:p:=by rw[<-e];exact hq):p:=h
theorem Hc{p:Prop}(h:p:=by have:=Aa n;omega):p:=h
theorem Hd{p:Prop}(h:p:=by rw[h.len];exact f):p:=h
theorem He{p:Prop}(h:p:=by intro u hu;simp at hu;subst hu;rfl):p:=h
theorem Hf{p:Prop}(h:p:=by simp[b]):p:=h
theorem Hg{p:Prop}(h:p:=by simpa[Ex.aD]using g):p:=h
theorem Hj{p:Prop}(h:p:=by cases hq):p:=h
theorem Hk{p:Prop}(h:p:=by rw[e];simp):p:=h
theorem Hl{p:Prop}(h:p:=by unfold Addr.add;split<;>simp_all):p:=h
theorem Hm{p:Prop}(h:p:=by cases k;omega):p:=h
theorem Hn{p:Prop}(h:p:=by simp_all[IJ,BP]):p:=h
theorem Ho{p:Prop}(h:p:=by have:=d.size;omega):p:=h
theorem Hp{p:Prop}(h:p:=by show R (Z wr)<=g;omega):p:=h
theorem Hq{p:Prop}(h:p:=by show R (Z w0)<=d;omega):p:=h
theorem Hr{p:Prop}(h:p:=by simp at h):p:=h
theorem Hs{p:Prop}(h:p:=by simp[Am,Ex.aL]):p:=h
theorem Ht{p:Prop}(h:p:=by have:=Aa aj;omega):p:=h
theorem Hv{p:Prop}(h:p:=by have:=Aa aN;omega):p:=h
theorem Hw{p:Prop}(h:p:=by have:=Aa K;omega):p:=h
theorem Hx{p:Prop}(h:p:=by have:=Aa D;omega):p:=h
theorem Hy{p:Prop}(h:p:=by simpa using R.cell 1):p:=h
theorem Hz{p:Prop}(h:p:=by simpa using R.cell 0):p:=h
theorem H2{q p:Prop}(a:q)(h:q->p:=by intro;omega):p:=h a
theorem H3{w:Go.World}{b:Nat}{e:Go.TypeId}{s:Nat}:w.ownsRow b e s (.slice .none 0 0) 0 []:=Go.World.ownsRow_nil w b e s
theorem H5{w:Go.World}{a:Go.Addr}{k:Nat}{v:Go.Value}(h:k≠a.block):(w.setCell a v).heap[k]? =w.heap[k]? :=heap_setCell_other w a k v h
theorem H7{c:Prop}{_:Decidable c}(k:¬c){α:Sort _}{t e:α}:ite c t e=e:=if_neg k
theorem H8{c:Prop}{_:Decidable c}(k:c){α:Sort _}{t e:α}:ite c t e=t:=if_pos k
theorem H9{a b:Prop}(h:a)(k:¬a):b:=absurd h k
theorem G0:type_of% @World.size_alloc:=@World.size_alloc
theorem G1:type_of% @World.ownsRow.alloc:=@World.ownsRow.alloc
theorem G2:type_of% @bodyPost_ret:=@bodyPost_ret
theorem G4:type_of% @World.news_of_block:=@World.news_of_block
theorem G6:type_of% @wpList_append_lies:=@wpList_append_lies
theorem G7:type_of% @wpList_append_own:=@wpList_append_own
theorem G8:type_of% @heap_alloc_new:=@heap_alloc_new
theorem G9:type_of% @World.cell?_of_block:=@World.cell?_of_block
theorem K0:type_of% @heap_setCell_other:=@heap_setCell_other
theorem K1:type_of% @World.size_setCell:=@World.size_setCell
theorem K3:type_of% @run_underlying:=@run_underlying
theorem K4:type_of% @cell_one_new:=@cell_one_new
theorem K6:type_of% @And.intro:=@And.intro
theorem K7:type_of% @Option.some.inj:=@Option.some.inj
theorem K8:type_of% @of_decide_eq_true:=@of_decide_eq_true
abbrev K9:=ByteArray
abbrev L0:=@Option
abbrev L2:=List Int
abbrev L3:=L0 Go.Addr
abbrev L4:=List K9
abbrev L7:=List Go.Value
abbrev N4:=List UInt8
abbrev N6:=List Nat
abbrev N7:=L0 Int
abbrev N8:=L0 Nat
variable{h:Array jF}{o:Bool}{s:K9}{K:List L2}{L:List N4}{c f:List (Nat×Nat)}{ss:L4}{l:L2}{q:List MemPlace}{x:N4}{a b n:Nat}{t u:jV}{p:UInt8->Bool}{w w':jB}{P:jB->Prop}
section
open Go.RowKit
theorem Ab {p:Prop}(h:p):Hid p:=h
theorem Aa {p:Prop}(h:Hid p):p:=h
abbrev Ai (w v:jB):Prop:=Below (R<|Z w) w v
theorem AE (w:jB)(o:Obj):Below (R<|Z w) w<|jK w o:=(Below.refl (R<|Z w) w).alloc (Nat.le_refl<|R<|Z w) o
theorem SH (w:jB):Below (R<|Z w) w w:=Below.refl (R<|Z w) w
abbrev Bu (a b:Int) (c:K9) (d:L3) (e f:Nat) (g:L3) (h i:Nat):Obj:= jH #[V X a,V X b,jC c,Y d e f,Y g h i] 121
abbrev EQ (a b:Int) (c:K9) (d:L3) (e f:Nat) (g:L3) (h i:Nat):Obj:= jH #[V X a,V X b,jC c,Y d e f,Y g h i] 170
abbrev Nx (a:L3) (b c:Nat) (d:L3) (e f:Nat) (g:L3) (h i:Nat):Obj:= jH #[Y a b c,Y d e f,Y g h i] 70
abbrev Yu (a:Int) (b:K9) (c d:Int):Obj:= jH #[V X a,jC b,V X c,V X d] 113
theorem NLN {n:Nat}:n<=n:=Nat.le_refl n
theorem BRN {B:Nat}:Below B w w:=Below.refl B w
theorem zA:type_of% @beq_eq_false_iff_ne:=@beq_eq_false_iff_ne
theorem zB:type_of% @Nat.le_trans:=@Nat.le_trans
theorem zC:type_of% @List.length_append:=@List.length_append
theorem zD:type_of% @beq_iff_eq:=@beq_iff_eq
theorem zE:type_of% @Nat.zero_le:=@Nat.zero_le
theorem zF:type_of% @Bool.and_eq_true:=@Bool.and_eq_true
theorem zG:type_of% @decide_eq_true_eq:=@decide_eq_true_eq
theorem zH:type_of% @decide_eq_false:=@decide_eq_false
theorem zI:type_of% @List.getElem_mem:=@List.getElem_mem
theorem zJ:type_of% @decide_eq_true:=@decide_eq_true
theorem zL:type_of% @Nat.lt_of_lt_of_le:=@Nat.lt_of_lt_of_le
theorem zM:type_of% @List.getElem?_eq_getElem:=@List.getElem?_eq_getElem
theorem zN:type_of% @List.length_map:=@List.length_map
theorem zO:type_of% @List.mem_append:=@List.mem_append
theorem zP:type_of% @List.getElem?_eq_some_iff:=@List.getElem?_eq_some_iff
theorem zQ:type_of% @Bool.eq_iff_iff:=@Bool.eq_iff_iff
theorem zR:type_of% @List.mem_singleton:=@List.mem_singleton
theorem zS:type_of% @Int.toNat_natCast:=@Int.toNat_natCast
theorem zT:type_of% @List.take_succ_eq_append_getElem:=@List.take_succ_eq_append_getElem
theorem zU:type_of% @Nat.le_succ:=@Nat.le_succ
theorem zV:type_of% @bne_iff_ne:=@bne_iff_ne
theorem zX:type_of% @Nat.add_zero:=@Nat.add_zero
theorem zY:type_of% @Nat.zero_add:=@Nat.zero_add
theorem zZ:type_of% @List.setIfInBounds_toArray:=@List.setIfInBounds_toArray
theorem za:type_of% @List.mem_cons_self:=@List.mem_cons_self
theorem zb:type_of% @List.set_cons_zero:=@List.set_cons_zero
theorem zc:type_of% @List.mem_map:=@List.mem_map
theorem zd:type_of% @List.eq_nil_of_length_eq_zero:=@List.eq_nil_of_length_eq_zero
theorem ze:type_of% @List.set_cons_succ:=@List.set_cons_succ
theorem zf:type_of% @List.take_of_length_le:=@List.take_of_length_le
theorem zg:type_of% @List.length_take:=@List.length_take
theorem zh:type_of% @List.mem_cons:=@List.mem_cons
theorem zi:type_of% @List.mem_cons_of_mem:=@List.mem_cons_of_mem
theorem zj:type_of% @List.getD_eq_getElem?_getD:=@List.getD_eq_getElem?_getD
theorem zk:type_of% @List.map_append:=@List.map_append
theorem zl:type_of% @List.append_assoc:=@List.append_assoc
theorem zm:type_of% @Bool.true_and:=@Bool.true_and
theorem zn:type_of% @List.mem_of_getElem?:=@List.mem_of_getElem?
theorem zo:type_of% @Int.eq_ofNat_of_zero_le:=@Int.eq_ofNat_of_zero_le
theorem zp:type_of% @Int.le_refl:=@Int.le_refl
theorem zq:type_of% @List.all_eq_true:=@List.all_eq_true
theorem zr:type_of% @List.getElem?_map:=@List.getElem?_map
theorem zt:type_of% @Nat.le_of_eq:=@Nat.le_of_eq
theorem zu:type_of% @Nat.zero_mul:=@Nat.zero_mul
theorem zv:type_of% @List.length_set:=@List.length_set
theorem zw:type_of% @List.getElem_of_mem:=@List.getElem_of_mem
theorem zx:type_of% @List.getElem_append_left:=@List.getElem_append_left
theorem zy:type_of% @Nat.le_refl:=@Nat.le_refl
theorem z0:type_of% @List.getElem_cons_zero:=@List.getElem_cons_zero
theorem z1:type_of% @List.length_singleton:=@List.length_singleton
theorem z2:type_of% @List.take_length:=@List.take_length
theorem z3:type_of% @List.map_map:=@List.map_map
theorem z4:type_of% @List.drop_eq_getElem_cons:=@List.drop_eq_getElem_cons
theorem z5:type_of% @List.getElem_append_right:=@List.getElem_append_right
theorem z6:type_of% @Option.bind_some:=@Option.bind_some
theorem z7:type_of% @ByteArray.toList_eq:=@ByteArray.toList_eq
theorem z8:type_of% @List.take_append_drop:=@List.take_append_drop
theorem z9:type_of% @Int.natCast_add:=@Int.natCast_add
theorem Z0:type_of% @List.mem_append_right:=@List.mem_append_right
theorem Z1:type_of% @List.isEmpty_iff:=@List.isEmpty_iff
theorem Z2:type_of% @List.getElem?_set_self:=@List.getElem?_set_self
theorem Z3:type_of% @List.getElem?_cons_zero:=@List.getElem?_cons_zero
theorem Z4:type_of% @List.getElem?_cons_succ:=@List.getElem?_cons_succ
theorem Z5:type_of% @List.mem_append_left:=@List.mem_append_left
theorem Z6:type_of% @List.getElem?_set_ne:=@List.getElem?_set_ne
theorem Z7:type_of% @Option.isSome_iff_exists:=@Option.isSome_iff_exists
theorem Z8:type_of% @List.getElem?_eq_none:=@List.getElem?_eq_none
theorem Z9:type_of% @List.mem_of_mem_take:=@List.mem_of_mem_take
theorem yA:type_of% @List.getElem?_append_left:=@List.getElem?_append_left
theorem Akb {a c:jB}(d:Below (R<|Z a) a c):(∀b o,b<R (Z a)->jI c (jA b o U)=jI a (jA b o U))/\(∀b o,b<R (Z a)->jY c (jA b o U)=jY a (jA b o U)):=by grind [Go.RowKit.Below.frozen,Go.RowKit.Below.cell]
structure Ag (w:jB) (b:Nat) (cs:Array jF) (t:jV):Prop where
 out:(Z w)[b]? =Q (jH cs t (0,0))
theorem Ag.lt {b:Nat}{a:Array jF}(h:Ag w b a t):b<R (Z w):=(Array.getElem?_eq_some_iff.1 h.out).1
theorem Ag.below {B:Nat}{a:Array jF}(h:Ag w b a t)(c:Below B w w')(d:b<B):Ag w' b a t:=⟨(c.block b d).trans h.out⟩
theorem Ag.aA {B:Nat}{a:Array jF}(h:Ag w b a t)(c:Below B w w')(d:R (Z w)<=B):Ag w' b a t:=h.below c<|Nat.lt_of_lt_of_le h.lt d
theorem Ag.alloc {w:jB}{b:Nat}{a:Array jF}{t:jV}(h:Ag w b a t)(o:Obj):Ag (jK w o) b a t:=⟨(Below.heap_alloc w o b h.lt).trans h.out⟩
theorem Ag.new (w:jB)(a:Array jF)(t:jV):Ag (jK w<|jH a t) (R<|Z w) a t:=⟨G8 w _⟩
theorem Ag.set {b:Nat}{a:Array jF}(h:Ag w b a t)(j:Nat)(u:jF):Ag (jJ w (jA b j U) u) b (a.setIfInBounds j u) t:=⟨heap_setCell_same w b j a t u h.out⟩
theorem Ag.aF {b:Nat}{a:Array jF}(h:Ag w b a t){p:jG}(c:b≠jT p)(u:jF):Ag (jJ w p u) b a t:=⟨(K0 w p b u c).trans h.out⟩
theorem Ag.cell {w:jB}{b:Nat}{a:Array jF}{t:jV}(h:Ag w b a t)(j:Nat):jI w (jA b j U)=a[j]? :=by
 have:=cell_of_row w b j a t (0,0) h.out;omega
theorem Ag.frozen {w:jB}{b:Nat}{a:Array jF}{t:jV}(h:Ag w b a t)(j:Nat):jY w (jA b j U)=jE:=frozen_of_row w b j a t h.out
theorem Af {a b:Bool}(h:a=b):jN (.bool a)=jN (.bool b):=by rw[h]
def nmI (c:Int):Bool:=decide (97<=c/\c<=122\/48<=c/\c<=57\/c=46\/c=95\/c=45\/c=58)
def dgI (c:Int):Bool:=decide (48<=c/\c<=57)
def IY (l:N4):Bool:=l.all λc=>nmI (c.toNat:Int)
def vnB (s:K9):Bool:=decide (1<=s.size/\s.size<=32)&&IY s.data.toList
theorem NR (s:K9)(k:Nat)(h:k<s.size):s.data.toList.take (k+1)=s.data.toList.take k++[s[k]]:=by rw[zT Q6];rfl
theorem QZ (l:N4)(c:UInt8):IY (l++[c])=(IY l&&nmI (c.toNat:Int)):=by simp[IY,List.all_append]
theorem OQ (s:K9)(k:Nat)(h:k<s.size)(a:nmI ((s[k]).toNat:Int)=jE):IY s.data.toList=jE:=by
 rw[<-z8 (k+1) s.data.toList,IY,List.all_append,NR s k h,List.all_append];simp[a]
def AG (ss:L4) (k:Nat):K9:=ss.getD k jW
theorem Dd (ss:L4)(k:Nat)(h:k<T ss):AG ss k=ss[k]:=by simp[AG,List.getD,h]
structure Aq (w:jB) (a:L3) (n c:Nat) (ss:L4):Prop where
 len:n=T ss
 cap:n<=c
 aJ:c<=maxLen
 bC:∀j,j<n->(AG ss j).size<=maxLen
 cells:∀j,j<n->∃b off,a=Q (jA b off U)/\b<R (Z w)/\jI w ⟨b,off+j,U⟩=Q (jC<|AG ss j)
theorem Aq.below {B:Nat}{a:L3}{n c:Nat}(h:Aq w a n c ss)(d:Below B w w')(i:R (Z w)<=B):Aq w' a n c ss:=
 ⟨h.len,h.cap,h.aJ,h.bC,λj k=>by
  obtain⟨b,f,l,g,hc⟩:=h.cells j k;exact⟨b,f,l,zL g d.size,by rw[<-hc];exact d.cell (p:=⟨b,f+j,U⟩)<|zL g i⟩⟩
theorem Aq.at {a:L3}{n c:Nat}(h:Aq w a n c ss)(f: 0<n):
  ∃b d,a=Q (jA b d U)/\b<R (Z w)/\∀j,j<n->jI w ⟨b,d+j,U⟩=Q (jC<|AG ss j):=by grind [Aq.cells]
def sl (a b:K9):Bool:=Op.bytesLess a.toList b.toList
theorem Nf:∀(x y:N4),Op.bytesLess x y=decide (x<y)
 |[],[]=>by simp[Op.bytesLess]
 |_ ::_,[]=>by simp[Op.bytesLess]
 |[],_ ::_=>by simp[Op.bytesLess]
 |a ::x,b ::y=>by
  rw[Op.bytesLess,Nf x y]
  grind [List.cons_lt_cons_iff]
theorem ZK (a b:K9):sl a b=jD↔a.data.toList<b.data.toList:=by grind [sl,Nf,Go.ByteArray.toList_eq]
theorem Jc {a b c:K9}(h:sl a b=jD)(k:sl b c=jD):sl a c=jD:=by grind [ZK]
theorem EN (a:K9):sl a a=jE:=by grind [ZK]
theorem Ja {a b:K9}(h:a.data.toList=b.data.toList):a=b:=by cases a with|mk x=>cases b with|mk y=>cases x;cases y;simp at h;subst h;rfl
theorem U5 (a b:K9)(c:sl a b=jE)(d:sl b a=jE):a=b:=by grind [ZK,Ja]
theorem XS {a b:K9}(h:sl a b=jD):sl b a=jE:=by grind [EN,Jc]
def BM (ss:L4):Bool:=decide (ss.Pairwise λa b=>sl a b=jD)
def JT (ss:L4):Bool:=ss.all vnB
def Ay (ss:L4):Bool:=decide (T ss<=64)&&(JT ss&&BM ss)
theorem Qt (ss:L4):JT ss=jD↔∀j,j<T ss->vnB (AG ss j)=jD:=by grind [JT,Dd,zI,zq,zw]
theorem Abo (ss:L4)(h:∀j,j<T ss->vnB (AG ss j)=jD):JT ss=jD:=by grind [Qt]
theorem XT (ss:L4)(j:Nat)(a:j<T ss)(h:vnB (AG ss j)=jE):JT ss=jE:=by grind [Qt]
theorem GU (ss:L4):BM ss=jD↔∀i j,i<j->j<T ss->sl (AG ss i) (AG ss j)=jD:=by grind [BM,List.pairwise_iff_getElem,Dd]
theorem XU (ss:L4)(i j:Nat)(a:i<j)(b:j<T ss)(h:sl (AG ss i) (AG ss j)=jE):BM ss=jE:=by grind [GU]
theorem AfF (ss:L4)(n:Nat)(h:∀i,0<i->i<n->sl (AG ss<|i-1) (AG ss i)=jD):∀d i,i+d+1<n->sl (AG ss i) (AG ss<|i+d+1)=jD:=by
 intro d
 induction d<;>grind [Jc]
theorem Vm (ss:L4)(h:∀i,0<i->i<T ss->sl (AG ss<|i-1) (AG ss i)=jD):BM ss=jD:=by
 rw[GU];intro i j a b;have:=AfF ss (T ss) h (j-i-1) i Oa
 grind
theorem NC (ss:L4)(h: 64<T ss):Ay ss=jE:=by grind [Ay]
theorem LJ (ss:L4)(h:T ss<=64):Ay ss=(JT ss&&BM ss):=by simp[Ay,h]
theorem U2 {k:IntKind}{a b:Int}(h:a=b):jN (.int k a)=jN (.int k b):=by rw[h]
theorem Aq.bG {base e:Nat}{a:L3}{c:Nat}(h:jO w base e 1 (Y a n c) n<|ss.map Value.string)(hs:∀j,j<n->(AG ss j).size<=maxLen):
  Aq w a n c ss:=by
 have b:T ss=n:=by simpa using h.1
 have d:=h;obtain⟨hv,h0⟩|⟨g,cap,l,hv,m,hg,f,i,o,p⟩:=h.2
 .simp only[Value.slice.injEq]at hv;obtain⟨rfl,rfl,rfl⟩:=hv;exact⟨b.symm,NLN,zE _,hs,λj k=>Oa⟩
 .simp only[Value.slice.injEq,true_and]at hv;obtain⟨rfl,rfl⟩:=hv;refine⟨b.symm,f,i,hs,λj k=>⟨g,0,rfl,?_,?_⟩⟩
  .grind
  .have:=d.cellAt j Oa
   grind [Dd]
theorem GB:(jZ.info? 9).map (λi=>(i.zero,i.size,i.bytes))=Q (Q<|jC jW,1,16):=Oy
def eqS (a b:K9):Bool:=a.toList==b.toList
theorem Il (a b:K9):eqS a b=jD↔a=b:=by grind [eqS,Ja,Go.ByteArray.toList_eq]
def Lg (ss:L4) (s:K9):Bool:=ss.any λx=>eqS x s
theorem RY (ss:L4)(s:K9):Lg ss s=jD↔s∈ss:=by grind [Lg,Il]
theorem MO (ss:L4)(s:K9):s∈ss↔∃j,j<T ss/\AG ss j=s:=by
 constructor
 .intro h;obtain⟨j,a,rfl⟩:=zw h;exact⟨j,a,Dd ss j a⟩
 grind [Dd]
theorem AaP (ss:L4)(s:K9)(j:Nat)(a:j<T ss)(h:eqS (AG ss j) s=jD):Lg ss s=jD:=by grind [RY,Il,MO]
theorem NQ (ss:L4)(s:K9)(h:∀j,j<T ss->eqS (AG ss j) s=jE):Lg ss s=jE:=by grind [RY,Il,MO]
def DU (ss tt:L4) (b:Bool):L4:=ss.filter λs=>Lg tt s==b
theorem Dw (ss:L4)(k:Nat)(h:k<T ss):ss.take (k+1)=ss.take k++[AG ss k]:=by grind [Dd,zT]
theorem QY (ss tt:L4)(b:Bool)(k:Nat)(h:k<T ss)(hv:(Lg tt (AG ss k)==b)=jD):DU (ss.take<|k+1) tt b=DU (ss.take k) tt b++[AG ss k]:=by grind [DU,Dw]
theorem U8 (ss tt:L4)(b:Bool)(k:Nat)(h:k<T ss)(hv:(Lg tt (AG ss k)==b)=jE):DU (ss.take<|k+1) tt b=DU (ss.take k) tt b:=by grind [DU,Dw]
theorem Jb (ss tt:L4)(b:Bool):T (DU ss tt b)<=T ss:=List.length_filter_le _ _
theorem AA {base e:Nat}{v:jF}{a:L7}(h:jO w base e 1 v n a):∃x c,v=Y x n c:=by
 obtain⟨rfl,rfl⟩|⟨g,cap,b,rfl,_⟩:=h.2
 all_goals grind
theorem QX (ss tt:L4)(b:Bool)(h:∀j,j<T ss->(AG ss j).size<=maxLen):∀j,j<T (DU ss tt b)->(AG (DU ss tt b) j).size<=maxLen:=by grind [DU,Dd,AG,zI,MO]
def ofL (l:N4):K9:=⟨l.toArray⟩
def Pe (s:K9):N4:=s.data.toList
theorem Nh (s:K9):T (Pe s)=s.size:=by simp[Pe]
theorem Lx (h:s.size=0):s=jW:=by simp_all
theorem CH (h:s.size≠0):s.toList.isEmpty=jE:=by
 rw[z7];cases s with|mk d=>cases d with|mk l=>simp[ByteArray.size]at h|-;exact h
set_option maxHeartbeats 400000
theorem Ws (c:Int)(w:jB):
  Calls jZ 133 #[V .u8 c] w λe w'=>e=jN (.bool<|dgI c)/\w'=w:=by
 go_enter func133,ntmps133
 go_wp2
 all_goals
  go_ret
  refine⟨Af ?_,rfl⟩;rw[zQ]
  simp_all[dgI]
  try omega
set_option maxHeartbeats 800000
theorem Ko (c:Int)(w:jB):
  Calls jZ 53 #[V .u8 c] w λe w'=>e=jN (.bool<|nmI c)/\w'=w:=by
 go_enter func53,ntmps53
 go_wp2
 all_goals
  go_ret
  refine⟨Af ?_,rfl⟩;rw[zQ]
  simp_all[nmI]
  try omega
theorem MQ (c:Int)(w:jB):
  Calls jZ 111 #[V .u8 c] w λe w'=>e=jN (.bool<|nmI c)/\w'=w:=by
 go_enter func111,ntmps111
 go_wp2_with (go_at_call 133;refine(Ws _ _).mono ?_;rintro e w' ⟨rfl,rfl⟩)
 all_goals
  go_ret
  refine⟨Af ?_,rfl⟩;rw[zQ]
  simp_all[nmI,dgI]
  try omega
theorem IG (s:K9)(w:jB)(hs:s.size<=maxLen):
  Calls jZ 71 #[jC s] w λe w'=>e=jN (.bool<|decide (s.size<=32)&&IY s.data.toList)/\w'=w:=by
 unfold maxLen at hs;by_cases f:s.size<=32
 .go_enter func71,ntmps71
  go_wp2
  go_loop [3,9] (λ_ i=>∃k:Nat,k<=s.size/\i=V X k/\IY (s.data.toList.take k)=jD) (λ_ i=>s.size-(intOf i).toNat)
  case atStart=>exact⟨0,zE _,rfl,rfl⟩
  case round=>
   obtain⟨k,j,rfl,g⟩:=hrel;have c:=Ab g;by_cases d:k<s.size
   .cases b:nmI ((s[k]).toNat:Int)
    .have h:=Ab<|OQ s k d b;have a:=Ab b;go_wp2_with (go_at_call 111;refine(MQ _ _).mono ?_;rintro e w' ⟨rfl,rfl⟩;rw[Aa a])
     go_ret
     exact⟨Af<|by rw[Aa h];simp,rfl⟩
    .have a:=Ab b;go_wp2_with (go_at_call 111;refine(MQ _ _).mono ?_;rintro e w' ⟨rfl,rfl⟩;rw[Aa a])
     go_round
     case rel=>exact⟨k+1,Oa,O1,by rw[NR s k d,QZ,Aa c,Aa a];rfl⟩
     case measure=>simp[intOf];omega
   .go_wp2
    go_ret
    refine⟨Af ?_,rfl⟩;have:=Aa c;rw[zf O0]at this;simp[this]
 .go_enter func71,ntmps71
  go_wp2
  go_ret
  exact⟨Af<|by simp[f],rfl⟩
theorem CL (s:K9)(w:jB)(hs:s.size<=maxLen):
  Calls jZ 22 #[jC s] w λe w'=>e=jN (.bool<|vnB s)/\w'=w:=by
 unfold maxLen at hs;by_cases n:s.size<1
 .have g:s.size=0:=Oa;go_enter func22,ntmps22
  go_wp2
  go_ret
  exact⟨Af<|by simp[vnB,g],rfl⟩
 .by_cases c:s.size<=32
  .have h: ¬ ((s.size:Int)<1):=Oa;have j: ¬ ((32 :Int)<(s.size:Int)):=Oa;go_enter func22,ntmps22
   go_wp2
   go_loop [3] (λi=>∃k:Nat,k<=s.size/\i=V X k/\IY (s.data.toList.take k)=jD) (λi=>s.size-(intOf i).toNat)
   case atStart=>exact⟨0,zE _,rfl,rfl⟩
   case round=>
    obtain⟨k,o,rfl,l⟩:=hrel;have d:=Ab l;by_cases f:k<s.size
    .cases b:nmI ((s[k]).toNat:Int)
     .have m:=Ab<|OQ s k f b;have a:=Ab b;go_wp2_with (go_at_call 53;refine(Ko _ _).mono ?_;rintro e w' ⟨rfl,rfl⟩;rw[Aa a])
      go_ret
      exact⟨Af<|by rw[vnB,Aa m];simp,rfl⟩
     .have a:=Ab b;go_wp2_with (go_at_call 53;refine(Ko _ _).mono ?_;rintro e w' ⟨rfl,rfl⟩;rw[Aa a])
      go_round
      case rel=>exact⟨k+1,Oa,O1,by rw[NR s k f,QZ,Aa d,Aa a];rfl⟩
      case measure=>simp[intOf];omega
    .go_wp2
     go_ret
     refine⟨Af ?_,rfl⟩;have:=Aa d;rw[zf O0]at this;simp[vnB,this,c];omega
  .have h: ¬ ((s.size:Int)<1):=Oa;have j:((32 :Int)<(s.size:Int)):=Oa;go_enter func22,ntmps22
   go_wp2
   go_ret
   exact⟨Af<|by simp[vnB,c],rfl⟩
theorem Fd (s:K9)(w:jB)(hs:s.size<=maxLen):
  Calls jZ 50 #[jC s] w λe w'=>e=jN (.bool<|vnB s)/\w'=w:=by
 by_cases a:s.size=0
 .have he:s=jW:=by
   cases s with|mk d=>cases d with|mk l=>simp[ByteArray.size]at a;subst a;rfl
  subst he;go_enter func50,ntmps50
  go_wp2
  go_ret
  exact⟨rfl,rfl⟩
 .have b:s.toList.isEmpty=jE:=by
   rw[z7];cases s with|mk d=>cases d with|mk l=>simp[ByteArray.size]at a|-;exact a
  go_enter func50,ntmps50
  go_wp2_with (go_at_call 71;refine(IG _ _ hs).mono ?_;rintro e w' ⟨rfl,rfl⟩)
  go_ret
  refine⟨Af ?_,rfl⟩;rw[vnB]
  congr 1
  rw[decide_eq_decide];omega
theorem Ng (a:L3)(n c:Nat)(ss:L4)(w:jB)(h:Aq w a n c ss):
  Calls jZ 24 #[Y a n c] w λe w'=>e=jN (.bool<|JT ss)/\w'=w:=by
 have q:n<=9223372036854775807:=Q1;go_enter func24,ntmps24
 go_wp2
 go_loop [4,7] (λ_ i=>∃k:Nat,k<=n/\i=V X k/\∀j,j<k->vnB (AG ss j)=jD) (λ_ i=>n-(intOf i).toNat)
 case atStart=>exact⟨0,zE _,rfl,λj f=>Oa⟩
 case round=>
  obtain⟨k,r,rfl,o⟩:=hrel;have g:=Ab o;by_cases l:k<n
  .obtain⟨b,s,p,_,hc⟩:=h.cells k l;have m:=h.bC k l;subst p;cases hv:vnB (AG ss k)
   .have d:=Ab hv;go_wp2_with (go_at_call 50;refine(Fd _ _ m).mono ?_;rintro e w' ⟨rfl,rfl⟩;rw[Aa d])
    go_ret
    exact⟨Af (Aa<|Ab<|XT ss k Q2 hv).symm,rfl⟩
   .have d:=Ab hv;go_wp2_with (go_at_call 50;refine(Fd _ _ m).mono ?_;rintro e w' ⟨rfl,rfl⟩;rw[Aa d])
    go_round
    case rel=>
     refine⟨k+1,Oa,O1,λj f=>?_⟩;by_cases e:j=k
     .subst e;exact Aa d
     .exact Aa g j Oa
    case measure=>simp[intOf];omega
  .go_wp2
   go_ret
   exact⟨Af (Abo ss λj f=>Aa g j Q2).symm,rfl⟩
set_option maxHeartbeats 1600000
theorem Mb (a:L3)(n c:Nat)(ss:L4)(w:jB)(h:Aq w a n c ss):
  Calls jZ 25 #[Y a n c] w λe w'=>e=jN (.bool<|BM ss)/\Ai w w':=by
 have r:n<=9223372036854775807:=Q1;go_enter func25,ntmps25
 go_wp2
 go_loopw [3] (λi wr=>∃k:Nat,0<k/\(k<=n\/k=1)/\i=V X k/\(∀j,0<j->j<k->sl (AG ss<|j-1) (AG ss j)=jD)/\Ai w wr) (λi _=>n+1-(intOf i).toNat)
 case atStart=>exact⟨1,Oa,.inr rfl,rfl,λj d g=>Oa,BRN⟩
 case round=>
  obtain⟨k,s,t,rfl,m,f⟩:=hrel;have l:=Ab m;by_cases o:k<n
  .obtain⟨b,u,p,v,hc⟩:=(h.below f NLN).at Oa;have x:=hc (k-1) Oa;have y:=hc k o;subst p;have z:(0 :Int)<=(k:Int)-1:=Oa;have i2:(k:Int)-1<(n:Int):=Oa;have A:(k:Int)<(n:Int):=Oa;have B:((k:Int)-1).toNat=k-1:=Oa;cases hs:Op.bytesLess (AG ss (k-1)).toList (AG ss k).toList
   .have q:=Ab<|XU ss (k-1) k Oa Q2 hs;go_wp2
    go_quiet (fail)
    go_wp2
    go_ret
    exact⟨Af (Aa q).symm,below_drewN f _⟩
   .go_wp2
    go_quiet (fail)
    go_wp2
    go_roundw
    case rel=>
     refine⟨k+1,Oa,.inl Oa,O1,λj d g=>?_,?_⟩
     .by_cases e:j=k
      .subst e;exact hs
      .exact Aa l j d Oa
     .exact below_drewN f _
    case measure=>simp[intOf];omega
  .go_wp2
   go_ret
   exact⟨Af (Vm ss λj d g=>Aa l j d Q2).symm,f⟩
theorem AD (a:L3)(n c:Nat)(ss:L4)(w:jB)(h:Aq w a n c ss):
  Calls jZ 10 #[Y a n c] w λe w'=>e=jN (.bool<|Ay ss)/\Ai w w':=by
 have i:=h.len;by_cases k:n<=64
 .have g:(n:Int)<=64:=Oa;have d:=Ab<|LJ ss Oa;clear i;cases f:JT ss
  .have b:=Ab f;clear f;go_enter func10,ntmps10
   go_wp2_with (go_at_call 24;refine(Ng _ _ _ _ _ h).mono ?_;rintro e w' ⟨rfl,rfl⟩;rw[Aa b])
   go_ret
   exact⟨Af<|by rw[Aa d,Aa b];rfl,BRN⟩
  .have b:=Ab f;clear f;go_enter func10,ntmps10
   go_wp2_with (first|(go_at_call 24;refine(Ng _ _ _ _ _ h).mono ?_;rintro e w' ⟨rfl,rfl⟩;rw[Aa b])|(go_at_call 25;refine(Mb _ _ _ _ _ h).mono ?_;rintro e w' ⟨rfl,j⟩))
   go_ret
   exact⟨Af<|by rw[Aa d,Aa b];rfl,j⟩
 .have g:(64 :Int)<(n:Int):=Oa;have d:=Ab<|NC ss Oa;clear i;go_enter func10,ntmps10
  go_wp2
  go_ret
  exact⟨Af (Aa d).symm,BRN⟩
theorem AC (a:L3)(n c:Nat)(ss:L4)(w:jB)(h:Aq w a n c ss):
  Calls jZ 23 #[Y a n c] w λe w'=>e=jN (.bool<|Ay ss)/\w'=w:=by
 have q:=h.len;by_cases F:n<=64
 .have g:(n:Int)<=64:=Oa;have f:=Ab<|LJ ss Oa;have l:=Ab q;clear q;go_enter func23,ntmps23
  go_wp2
  go_loop [2,3,4,5,11] (λ_ _ _ _ i=>∃k:Nat,k<=n/\i=V X k/\(∀j,j<k->vnB (AG ss j)=jD)/\(∀i j,i<k->i<j->j<n->sl (AG ss i) (AG ss j)=jD)) (λ_ _ _ _ i=>n-(intOf i).toNat)
  case atStart=>exact⟨0,zE _,rfl,λj d=>Oa,λi j hi=>Oa⟩
  case round=>
   obtain⟨k,G,rfl,s,t⟩:=hrel;have u:=Ab s;have v:=Ab t;clear s t;by_cases x:k<n
   .obtain⟨b,H,A,_,hc⟩:=h.at Oa;have I:=hc k x;have B:=Ab hc;clear hc;have y:=h.bC k x;subst A;cases hv:vnB (AG ss k)
    .have o:=Ab hv;have r:=Ab<|XT ss k Q7 hv;clear hv;go_wp2_with (go_at_call 22;refine(CL _ _ y).mono ?_;rintro e w' ⟨rfl,rfl⟩;rw[Aa o])
     go_ret
     exact⟨Af<|by rw[Aa f,Aa r];rfl,rfl⟩
    .have o:=Ab hv;clear hv;go_wp2_with (go_at_call 22;refine(CL _ _ y).mono ?_;rintro e w' ⟨rfl,rfl⟩;rw[Aa o])
     go_loop [5] (λi=>∃m:Nat,k<m/\m<=n/\i=V X m/\∀j,k<j->j<m->sl (AG ss k) (AG ss j)=jD) (λi=>n-(intOf i).toNat)
     case atStart=>exact⟨k+1,Oa,Oa,O1,λj d C=>Oa⟩
     case round=>
      obtain⟨m,D,hm,rfl,hq⟩:=hrel;have z:=Ab hq;clear hq;by_cases E:m<n
      .have J:=Aa B m E;cases hs:Op.bytesLess (AG ss k).toList (AG ss m).toList
       .have r:=Ab<|XU ss k m D Q7 hs;go_wp2
        go_ret
        exact⟨Af<|by rw[Aa f,Aa r,Bool.and_false],rfl⟩
       .go_wp2
        go_round
        case rel=>
         refine⟨m+1,Oa,Oa,O1,λj d C=>?_⟩;by_cases e:j=m
         .subst e;exact hs
         .exact Aa z j d Oa
        case measure=>simp[intOf];omega
      .go_wp2
       go_round
       case rel=>
        refine⟨k+1,Oa,O1,λj d=>?_,λi j hi p d=>?_⟩
        .by_cases e:j=k
         .subst e;exact Aa o
         .exact Aa u j Oa
        .by_cases e:i=k
         .subst e;exact Aa z j p Oa
         .exact Aa v i j Oa p d
       case measure=>simp[intOf];omega
   .go_wp2
    go_ret
    have e1:JT ss=jD:=Abo ss λj d=>Aa u j Q7;have e2:BM ss=jD:=(GU ss).2 λi j p d=>Aa v i j Q7 p Q7;exact⟨Af<|by rw[Aa f,e1,e2];rfl,rfl⟩
 .have g:(64 :Int)<(n:Int):=Oa;have f:=Ab<|NC ss Oa;clear q;go_enter func23,ntmps23
  go_wp2
  go_ret
  exact⟨Af (Aa f).symm,rfl⟩
set_option linter.unusedVariables false
def Cz:List (Nat×Nat)->Nat
 |[]=>0
 |p ::ps=>max p.2<|Cz ps
theorem AjJ {a:List (Nat×Nat)}{p:Nat×Nat}(h:p∈a):p.2<=Cz a:=by induction a<;>grind [Cz]
def Au (ks:List<|Nat×Nat):L2:=ks.map λp=>(p.1:Int)
inductive Av (K:List L2):Nat->List (Nat×Nat)->Nat->Prop
 |nil (a:Nat):Av K a [] a
 |cons {a t b:Nat} {ks fs:List (Nat×Nat)} (hk:Av K a ks t) (ht:K[t]? =Q (Au ks)) (hf:Av K (t+1) fs b):Av K a ((t,Cz ks+1) ::fs) b
theorem Av.le (h:Av K a c b):a<=b:=by induction h<;>grind
theorem Av.lt (h:Av K a c b):∀p∈c,a<=p.1/\p.1<b:=by
 induction h with
 |nil a=>grind
 |cons d ht f g i2=>
   intro p i;have j:=d.le
   grind [Av.le]
theorem Av.dG {c:Nat}{d:List (Nat×Nat)}(h:Av K a d b)(k:Av K b f c):Av K a (d++f) c:=by
 induction h with
 |nil a=>exact k
 |cons g ht i j i2=>exact .cons g ht<|i2 k
theorem Av.split {K:List L2} :∀{f d:List (Nat×Nat)} {a c:Nat},Av K a (f++d) c->∃b,Av K a f b/\Av K b d c
 |[],d,a,c,h=>⟨a,.nil a,h⟩
 |p ::f,d,a,c,h=>by
  cases h with
  |cons g ht i=>
    obtain⟨b,j,k⟩:=Av.split i;exact⟨b,.cons g ht j,k⟩
def Sj (S:List<|Nat×Nat) (i:Nat) (ks:L2):L0<|List<|Nat×Nat:=
 if T S<T ks then U
 else if Au (S.drop<|T S-T ks)≠ks then U
 else if Cz (S.drop<|T S-T ks)=64 then U
 else Q (S.take (T S-T ks)++[(i,Cz (S.drop<|T S-T ks)+1)])
def Fk (K:List L2):Nat->List (Nat×Nat)->Nat->L0 (List<|Nat×Nat)
 |0,S,_=>Q S
 |n+1,S,i=>match K[i]? with
  |none=>U
  |some ks=>match Sj S i ks with
   |none=>U
   |some S'=>Fk K n S'<|i+1
theorem Sk (K:List L2):∀(m n:Nat) (S:List<|Nat×Nat) (i:Nat),Fk K (m+n) S i=(Fk K m S i).bind λa=>Fk K n a (i+m)
 |0,n,S,i=>by simp[Fk]
 |m+1,n,S,i=>by
  rw[(Oa:m+1+n=(m+n)+1),Fk,Fk];cases K[i]? with
  |none=>rfl
  |some b=>
    dsimp only;cases Sj S i b with
    |none=>rfl
    |some a=>
      dsimp only;rw[Sk K m n a<|i+1,(Oa:i+1+m=i+(m+1))]
theorem AcP (a:List<|Nat×Nat):T (Au a)=T a:=by simp[Au]
theorem AcQ (S a:List<|Nat×Nat)(i:Nat)(h:Cz a+1<=64):Sj (S++a) i (Au a)=Q (S++[(i,Cz a+1)]):=by grind [List.take_left,List.drop_left,Sj,zC,AcP,Au]
theorem AfU {S a:List (Nat×Nat)}{i:Nat}{b:L2}(h:Sj S i b=Q a):∃A B,S=A++B/\Au B=b/\Cz B≠64/\a=A++[(i,Cz B+1)]:=by grind [Sj,z8]
theorem Pa (h:Av K a c b):∀(S:List<|Nat×Nat),(∀p∈c,p.2<=64)->Fk K (b-a) S a=Q (S++c):=by
 induction h with
 |nil a=>grind [Fk]
 |@cons a t b d c f ht g i i2=>
   intro S hd;have k:=f.le;have l:=g.le;have m:Cz d+1<=64:=hd _ (za ..);rw[(Oa:b-a=(t-a)+(1+(b-(t+1)))),Sk,i S λp j=>H2<|AjJ j,z6,(Oa:a+(t-a)=t),Sk]
   grind [Fk,Cz,AcQ]
theorem CZ {K:List L2} :∀(n:Nat) {S a:List (Nat×Nat)} {i:Nat},Av K 0 S i->(∀p∈S,p.2<=64)->Fk K n S i=Q a->Av K 0 a (i+n)/\∀p∈a,p.2<=64
 |0,S,a,i,h,hd,hr=>by grind [Fk]
 |n+1,S,a,i,h,hd,hr=>by
  rw[Fk]at hr;cases b:K[i]? with
  |none=>grind
  |some d=>
    rw[b]at hr;dsimp only at hr;cases hs:Sj S i d with
    |none=>grind
    |some k=>
      rw[hs]at hr;dsimp only at hr;obtain⟨A,B,rfl,f,l,rfl⟩:=AfU hs;obtain⟨m,f1,f2⟩:=h.split;have g:Av K 0 (A++[(i,Cz B+1)])<|i+1:=f1.dG<|.cons f2 (by rw[b,f])<|.nil _;have o:Cz B<=64:=by
       have:∀(L:List<|Nat×Nat),(∀p∈L,p.2<=64)->Cz L<=64:=by
        intro L
        induction L<;>grind [Cz]
       exact this B λp c=>hd p<|Z0 _ c
      have j:∀p∈A++[(i,Cz B+1)],p.2<=64:=λp c=>S4;have:=CZ n g j hr
      grind
def DZ (f:Int->L2->L2) (top:Int):L2->L2->L2
 |[],out=>out++[top]
 |k ::ks,out=>if top<=k then out++[-1]else DZ f top ks (f k out)
def Bc (K:List L2):Nat->Int->L2->L2
 |0=>λ_ out=>out++[-1]
 |n+1=>λtop out=>if top<0\/(T K:Int)<=top\/T K<T out then out++[-1]else DZ (Bc K n) top (K.getD top.toNat []) out
def FP (l:L2):Prop:=∀(i:Nat) (x:Int),l[i]? =Q x->x=i
theorem FP.pre {m:L2}(h:FP<|l++m):FP l:=λi x hx=>by
 have hi:i<T l:=(zP.1 hx).1;exact h i x (by rw[yA hi];exact hx)
theorem FP.bZ {x:Int}(h:FP<|l++[x]):x=T l:=h (T l) x Ox
theorem Ye (l:L2):FP l↔∀i,(h:i<T l)->l[i]=(i:Int):=by
 constructor
 .intro h i hi;exact h i _<|zM hi
 .intro h i x hx
  grind
theorem Ok {f:Int->L2->L2}(b:∀k out,∃l,f k out=out++l)(top:Int):∀(a out:L2),∃l,DZ f top a out=out++l
 |[],out=>⟨[top],rfl⟩
 |k ::a,out=>by
  rw[DZ];split
  .grind
  .obtain⟨l,e⟩:=b k out;obtain⟨m,e2⟩:=Ok b top a (f k out)
   grind
theorem Ol (K:List L2):∀(n:Nat) (top:Int) (out:L2),∃l,Bc K n top out=out++l
 |0,top,out=>⟨[-1],rfl⟩
 |n+1,top,out=>by
  rw[Bc];dsimp only;split
  .grind
  .exact Ok (Ol K n) top _ out
theorem Sl {K:List L2}{f:Int->L2->L2}(c:∀k out,∃l,f k out=out++l)
  (g:∀k out,FP (f k out)->∃d,Av K (T out) [(k.toNat,d)] (T<|f k out)/\0<=k)(top:Int):
  ∀(a out:L2),FP (DZ f top a out)->∃b,Au b=a/\∃t,Av K (T out) b t/\top=(t:Int)/\T (DZ f top a out)=t+1
 |[],out,h=>⟨[],rfl,T out,.nil _,by rw[DZ]at h;exact h.bZ,by simp[DZ]⟩
 |k ::a,out,h=>by
  rw[DZ]at h|-;split at h
  .have:=h.bZ;omega
  .rename_i i;rw[H7 i];obtain⟨l,e⟩:=Ok c top a<|f k out;have j:FP<|f k out:=by rw[e]at h;exact h.pre
   obtain⟨d,m,h3⟩:=g k out j;obtain⟨b,e1,t,n,h5,o⟩:=Sl c g top a (f k out) h;exact⟨(k.toNat,d) ::b,by simp only[Au,List.map_cons]at e1|-;rw[e1];congr 1;omega,t,m.dG n,h5,o⟩
theorem Sm (K:List L2):∀(n:Nat) (top:Int) (out:L2),FP (Bc K n top out)->∃d,Av K (T out) [(top.toNat,d)] (T<|Bc K n top out)/\0<=top
 |0,top,out,h=>by
  have:=FP.bZ (l:=out) h;omega
 |n+1,top,out,h=>by
  rw[Bc]at h|-;dsimp only at h|-;split at h
  .have:=h.bZ;omega
  .rename_i hc;rw[H7 hc];obtain⟨a,e1,t,b,h5,c⟩:=Sl (Ol K n) (Sm K n) top _ out h;have ht:top.toNat=t:=Oa;refine⟨Cz a+1,?_,Oa⟩;rw[c,ht];refine .cons b ?_ (.nil _)
   grind
def Ll (a b:Nat):L2:=(List.range' a<|b-a).map λ(i:Nat)=>(i:Int)
theorem AcR (a:Nat):Ll a a=[]:=by simp[Ll]
theorem Uo {c:Nat}(d:a<=b)(f:b<=c):Ll a b++Ll b c=Ll a c:=by rw[Ll,Ll,Ll,<-zk,(Oa:c-a=(b-a)+(c-b)),<-List.range'_append_1,(Oa:a+(b-a)=b)]
theorem AfV (a:Nat):Ll a (a+1)=[(a:Int)]:=by simp[Ll]
theorem Yf (a b:Nat):T (Ll a b)=b-a:=by simp[Ll]
theorem Vy {d:List (Nat×Nat)}(h:Av K a d b):
  ∀(n:Nat) (out:L2),(∀p∈d,p.1<n)->T out=a->b<=T K->(Au d).foldl (λo k=>Bc K n k o) out=out++Ll a b:=by
 induction h with
 |nil a=>grind [AcR,Au]
 |@cons a t b c d g ht l m i2=>
   intro n out i q r;have s:=g.le;have u:=l.le;have j:=g.lt;have w:t<n:=i _ (za ..);obtain⟨n',rfl⟩:∃n',n=n'+1:=⟨n-1,Oa⟩
   have v:Bc K (n'+1) (t:Int) out=out++Ll a (t+1):=by
    rw[Bc];dsimp only;rw[H7 Oa,zS,zj,ht,Option.getD_some];have hq:∀(c:List<|Nat×Nat) (o:L2),(∀p∈c,p.1<t)->DZ (Bc K n') (t:Int) (Au c) o=(Au c).foldl (λo k=>Bc K n' k o) o++[(t:Int)]:=by
     intro c
     induction c<;>grind [DZ,Au]
    rw[hq c out λp f=>(j p f).2,m n' out (λp f=>H2<|(j p f).2) q Oa,zl,<-AfV t,Uo s Oa]
   rw[show Au ((t,Cz c+1) ::d)=(t:Int) ::Au d from rfl,List.foldl_cons,v,i2 (n'+1) _ (λp f=>i p<|zi _ f) (by rw[zC,Yf];omega) r,zl,Uo Oa u]
theorem Md {K:List L2}{n:Nat} :∀(A:L2) (out:L2),FP (A.foldl (λo k=>Bc K n k o) out)->∃a,Au a=A/\Av K (T out) a (T<|A.foldl (λo k=>Bc K n k o) out)
 |[],out,_=>⟨[],rfl,.nil _⟩
 |k ::A,out,h=>by
  rw[List.foldl_cons]at h|-;have b:∃l,A.foldl (λo k=>Bc K n k o) (Bc K n k out)=Bc K n k out++l:=by
   have:∀(A:L2) (o:L2),∃l,A.foldl (λo k=>Bc K n k o) o=o++l:=by
    intro A
    induction A with
    |nil=>simp_all
    |cons x j c=>
      intro o;obtain⟨l,e⟩:=Ol K n x o;obtain⟨m,e2⟩:=c<|Bc K n x o
      grind
   exact this A _
  obtain⟨l,e⟩:=b;have f:FP<|Bc K n k out:=by rw[e]at h;exact h.pre
  obtain⟨d,g,h3⟩:=Sm K n k out f;obtain⟨a,e1,i⟩:=Md A (Bc K n k out) h;exact⟨(k.toNat,d) ::a,by simp only[Au,List.map_cons]at e1|-;rw[e1];congr 1;omega,g.dG i⟩
def Cn (K:List L2):Nat->Int->Nat
 |0=>λ_=>1
 |n+1=>λtop=>((K.getD top.toNat []).foldl (λd k=>max d<|Cn K n k) 0)+1
theorem AcS (g:Int->Nat):∀(a:L2) (d:Nat),a.foldl (λd k=>max d<|g k) d=max d (a.foldl (λd k=>max d<|g k) 0):=by intro a;induction a<;>intros<;>grind
theorem Ly (h:Av K a c b):∀(n:Nat),(∀p∈c,p.1<n)->(∀p∈c,Cn K n (p.1:Int)=p.2)/\(Au c).foldl (λd k=>max d<|Cn K n k) 0=Cz c:=by
 induction h with
 |nil a=>intro n _;exact⟨λp f=>(by cases f),rfl⟩
 |@cons a t b g c j ht q l i2=>
   intro n i;have r:t<n:=i _ (za ..);obtain⟨n',rfl⟩:∃n',n=n'+1:=⟨n-1,Oa⟩
   have m:=j.lt;have e1:Cn K (n'+1) (t:Int)=Cz g+1:=by
    rw[Cn];dsimp only;rw[zS,zj,ht,Option.getD_some,(l n' λp f=>H2<|(m p f).2).2]
   obtain⟨s,o⟩:=i2 (n'+1) λp f=>i p<|zi _ f;refine⟨λp f=>?_,?_⟩
   .grind
   .rw[show Au ((t,Cz g+1) ::c)=(t:Int) ::Au c from rfl,List.foldl_cons,AcS,o,e1,Cz];omega
theorem AcT (n:Nat):FP<|Ll 0 n:=λi x hx=>by
 rw[Ll,zr,Option.map_eq_some_iff]at hx;obtain⟨j,a,rfl⟩:=hx;obtain⟨c,b⟩:=zP.1 a;rw[List.getElem_range']at b;omega
theorem AcU (K:List L2)(A:L2):
  (T (A.foldl (λo k=>Bc K (T K) k o) [])=T K/\FP (A.foldl (λo k=>Bc K (T K) k o) [])/\∀r∈A,Cn K (T K) r<=64)↔∃S,Fk K (T K) [] 0=Q S/\Au S=A:=by
 constructor
 .rintro⟨d,f,h3⟩;obtain⟨g,rfl,hF⟩:=Md A [] f;rw[d]at hF;have hd:=(Ly hF (T K) λp a=>(hF.lt p a).2).1;have b:=Pa hF [] (λp a=>by
   rw[<-hd p a];exact h3 _<|zc.2 ⟨p,a,rfl⟩)
  grind
 .rintro⟨S,b,rfl⟩;obtain⟨hF,hd⟩:=CZ (T K) (.nil 0) (λp a=>by cases a) b;rw[zY]at hF;have c:=Vy hF (T K) [] (λp a=>(hF.lt p a).2) rfl NLN;rw[List.nil_append]at c;rw[c];refine⟨by rw[Yf];omega,AcT _,λr b=>?_⟩;obtain⟨p,a,rfl⟩:=zc.1 b;rw[(Ly hF (T K) λp a=>(hF.lt p a).2).1 p a]
  grind
def ltI (c:Int):Bool:=decide (97<=c/\c<=122)
def ltB (c:UInt8):Bool:=ltI (c.toNat:Int)
def wdI (c:Int):Bool:=ltI c||dgI c||decide (c=95)
def Yz (c:UInt8):Bool:=wdI (c.toNat:Int)
def nmB (c:UInt8):Bool:=nmI (c.toNat:Int)
def Pr (p:UInt8->Bool) (s:K9) (j:Nat):Nat:=j+T (((Pe s).drop j).takeWhile p)
theorem Lb (s:K9)(j:Nat)(h:j<s.size):(Pe s).drop j=s[j] ::(Pe s).drop (j+1):=by
 have a:j<T (Pe s):=by rw[Nh];exact h
 rw[z4 a];rfl
theorem AcB {j:Nat}(h:j<s.size)(a:p s[j]=jD):Pr p s j=Pr p s (j+1):=by grind [Pr,List.takeWhile_cons,Lb]
theorem AcC {j:Nat}(h:j<s.size)(a:p s[j]=jE):Pr p s j=j:=by grind [Pr,List.takeWhile_cons,Lb]
theorem AfG {j:Nat}(h:s.size<=j):Pr p s j=j:=by simp_all[Nh,Pr,List.drop_of_length_le]
def Ps (p:UInt8->Bool) (r:N4):Nat:=T<|r.takeWhile p
theorem AcD (p:UInt8->Bool)(s:K9)(j:Nat):Pr p s j=j+Ps p ((Pe s).drop j):=rfl
theorem AcE (p:UInt8->Bool)(s:K9):Pr p s 0=Ps p (Pe s):=by simp[AcD]
def Oi:List N4:= [[108,101,116],[119,104,101,110],[101,108,115,101],[100,101,110,121],[103,114,97,110,116],[105,102],[116,104,101,110],[110,111,116],[97,110,100],[111,114],[105,110],[119,105,116,104,105,110],[115,105,122,101],[116,114,117,101],[102,97,108,115,101]]
def ZL (l:N4):Bool:=Oi.contains l
inductive One where
 |bad (code:Int)
 |tok (kind num:Int) (text:N4) (w:Nat)
structure Nd where
 op:Int
 num:Int
 text:K9
 aB:L4
 aD:L2
abbrev L6:=List Nd
structure St where
 aC:Int
 name:K9
 cond:Int
 aG:Int
abbrev L9:=List St
def BY (op:Int):Int:=if 1<=op/\op<=7 then 0 else if 8<=op/\op<=10 then 1 else if 11<=op/\op<=26 then 2 else if op=27 then 3 else -1
def Ej (s:K9):Bool:=match Pe s with
 |[]=>jE
 |c ::r=>decide (T (c ::r)<=32)&&ltB c&&(c ::r).all Yz&& !ZL (c ::r)
def Co (s:K9):Bool:=decide (s.size<=32)&&(Pe s).all nmB
def Bq (x:Nd):Bool:=
 decide ((T x.aD:Int)=BY x.op)&&
 (if x.op=1 then decide (0<=x.num)&&decide (x.text.size=0)&&decide (T x.aB=0)
   else if x.op=2 then Co x.text&&decide (x.num=0)&&decide (T x.aB=0)
   else if x.op=3 then decide (x.num=0\/x.num=1)&&decide (x.text.size=0)&&decide (T x.aB=0)
   else if x.op=4 then Ay x.aB&&decide (x.num=0)&&decide (x.text.size=0)
   else if x.op=5 then Ej x.text&&decide (x.num=0)&&decide (T x.aB=0)
   else if x.op=6\/x.op=7 then jE
   else decide (x.num=0)&&decide (x.text.size=0)&&decide (T x.aB=0))
def CS (last:Bool) (s:St):Bool:=
 if s.aC=1 then !last&&Ej s.name&&decide (0<=s.cond)&&decide (s.aG= -1)
 else if s.aC=2 then !last&&decide (s.name.size=0)&&decide (0<=s.cond)&&decide (-1<=s.aG)
 else if s.aC=3 then last&&decide (s.name.size=0)&&decide (s.cond= -1)&&decide (-1<=s.aG)
 else jE
def Kh (s:St):Bool:=
 if s.aC=1 then Ej s.name&&decide (s.aG= -1)
 else if s.aC=2 then decide (s.name.size=0)
 else if s.aC=3 then decide (s.name.size=0)&&decide (s.cond= -1)
 else jE
def Ax (s:St):L2:=(if 0<=s.cond then [s.cond]else [])++(if 0<=s.aG then [s.aG]else [])
def Ao (s:St):L2:=(if s.aC≠3 then [s.cond]else [])++(if s.aG≠-1 then [s.aG]else [])
def H6:L9->Bool
 |[]=>jD
 |s ::r=>CS r.isEmpty s&&H6 r
def EG:L9->Bool
 |[]=>jD
 |s ::r=>Kh s&&(decide (s.aC=3)==r.isEmpty)&&EG r
theorem Me:∀(L:L9),(∀x∈L.flatMap Ao,0<=x)->(EG L=jD↔H6 L=jD)
 |[],_=>Iff.rfl
 |s ::r,h=>by
  have a:=Me r (λx hx=>h x<|by rw[List.flatMap_cons];exact Z0 _ hx);have hs:∀x∈Ao s,0<=x:=λx hx=>h x (by rw[List.flatMap_cons];exact Z5 _ hx);rw[EG,H6,zF,zF,zF,a];have e:(Kh s=jD/\(decide (s.aC=3)==r.isEmpty)=jD)↔CS r.isEmpty s=jD:=by
   have hc:s.aC≠3->0<=s.cond:=λk=>hs _ (by rw[Ao,H8 k];simp);have hg:s.aG≠-1->0<=s.aG:=λk=>hs _ (by rw[Ao,H8 k];simp)
   grind [Kh,CS]
  grind
theorem Yg:∀{a:Bool} {s:St},CS a s=jD->Ax s=Ao s/\∀x∈Ao s,0<=x:=by
 intro a s h;unfold CS at h;unfold Ax Ao
 grind
theorem Up:∀{L:L9},H6 L=jD->L.flatMap Ax=L.flatMap Ao/\∀x∈L.flatMap Ao,0<=x:=by intro L;induction L<;>intros<;>grind [H6,Yg]
def Kz (N:L6) (L:L9):Prop:=
 H6 L=jD/\T ((L.flatMap Ax).foldl (λo k=>Bc (N.map Nd.aD) (T N) k o) [])=T N/\FP ((L.flatMap Ax).foldl (λo k=>Bc (N.map Nd.aD) (T N) k o) [])/\∀r∈L.flatMap Ax,Cn (N.map Nd.aD) (T N) r<=64
def ZV (N:L6) (L:L9):Prop:=EG L=jD/\∃S,Fk (N.map Nd.aD) (T N) [] 0=Q S/\Au S=L.flatMap Ao
theorem Sn (N:L6)(L:L9):ZV N L↔Kz N L:=by
 have hs:=AcU (N.map Nd.aD)<|L.flatMap Ao;rw[zN]at hs;constructor
 .rintro⟨a,S,b,h3⟩;have h0:∀x∈L.flatMap Ao,0<=x:=by
   rw[<-h3];intro x hx;obtain⟨p,_,rfl⟩:=zc.1 hx;omega
  grind [Kz,Up,Me]
 .rintro⟨a,b⟩;obtain⟨e,h0⟩:=Up a;rw[e]at b;exact⟨(Me L h0).2 a,hs.1 b⟩
theorem AfH (p:UInt8->Bool)(r:N4):(r.take<|Ps p r).all p=jD:=by
 have:r.take (Ps p r)=r.takeWhile p:=by
  obtain⟨t,ht⟩:=List.takeWhile_prefix p (l:=r)
  grind [Ps]
 rw[this,List.all_takeWhile]
theorem Dp (c:Int)(w:jB):
  Calls jZ 140 #[V .u8 c] w λe w'=>e=jN (.bool<|ltI c)/\w'=w:=by
 go_enter func140,ntmps140
 go_wp2
 all_goals
  go_ret
  refine⟨Af ?_,rfl⟩;rw[zQ]
  simp_all[ltI]
  try omega
theorem Kx (c:Int)(w:jB):
  Calls jZ 154 #[V .u8 c] w λe w'=>e=jN (.bool<|dgI c)/\w'=w:=by
 go_enter func154,ntmps154
 go_wp2
 all_goals
  go_ret
  refine⟨Af ?_,rfl⟩;rw[zQ]
  simp_all[dgI]
  try omega
theorem AfI {c:UInt8}(h:Yz c=jD):ltI (c.toNat:Int)=jD\/(ltI (c.toNat:Int)=jE/\dgI (c.toNat:Int)=jD)\/(ltI (c.toNat:Int)=jE/\dgI (c.toNat:Int)=jE/\(c.toNat:Int)=95):=by grind [ltI,dgI,Yz,wdI]
theorem AcF {c:UInt8}(h:Yz c=jE):ltI (c.toNat:Int)=jE/\dgI (c.toNat:Int)=jE/\¬ (c.toNat:Int)=95:=by grind [Yz,wdI]
theorem Uj (s:K9)(j:Nat)(w:jB)(hs:s.size<=maxLen)(m:j<=s.size):
  Calls jZ 141 #[jC s,V X j] w λe w'=>e=jN (V X (Pr Yz s j:Nat))/\w'=w:=by
 unfold maxLen at hs;go_enter func141,ntmps141
 go_wp2
 go_loop [1] (λi=>∃k:Nat,j<=k/\k<=s.size/\i=V X k/\Pr Yz s j=Pr Yz s k) (λi=>s.size-(intOf i).toNat)
 case atStart=>exact⟨j,NLN,m,rfl,rfl⟩
 case round=>
  obtain⟨k,o,q,rfl,he⟩:=hrel;have f:=Ab he;clear he;by_cases l:k<s.size
  .have n:(k:Int)<(s.size:Int):=Oa;cases b:Yz s[k]
   .have c:=Ab<|AcC l b;obtain⟨a,d,h3⟩:=AcF b;have g:=Ab a;have h:=Ab d;clear b a d;go_wp2_with (first|(go_at_call 140;refine(Dp _ _).mono ?_;rintro e w' ⟨rfl,rfl⟩;rw[Aa g])|(go_at_call 154;refine(Kx _ _).mono ?_;rintro e w' ⟨rfl,rfl⟩;rw[Aa h]))
    go_ret
    exact⟨U2<|by rw[Aa f,Aa c],rfl⟩
   .have c:=Ab<|AcB l b;obtain a|⟨a,d⟩|⟨a,d,h3⟩:=AfI b
    .have g:=Ab a;clear b a;go_wp2_with (go_at_call 140;refine(Dp _ _).mono ?_;rintro e w' ⟨rfl,rfl⟩;rw[Aa g])
     go_round
     case rel=>exact⟨k+1,Oa,Oa,O1,by rw[Aa f,Aa c]⟩
     case measure=>simp[intOf];omega
    .have g:=Ab a;have h:=Ab d;clear b a d;go_wp2_with (first|(go_at_call 140;refine(Dp _ _).mono ?_;rintro e w' ⟨rfl,rfl⟩;rw[Aa g])|(go_at_call 154;refine(Kx _ _).mono ?_;rintro e w' ⟨rfl,rfl⟩;rw[Aa h]))
     go_round
     case rel=>exact⟨k+1,Oa,Oa,O1,by rw[Aa f,Aa c]⟩
     case measure=>simp[intOf];omega
    .clear b a d;go_wp2_with (first|(go_at_call 140;refine(Dp _ _).mono ?_;rintro e w' ⟨rfl,rfl⟩;rw[show ltI 95=jE from Ob])|(go_at_call 154;refine(Kx _ _).mono ?_;rintro e w' ⟨rfl,rfl⟩;rw[show dgI 95=jE from Ob]))
     go_round
     case rel=>exact⟨k+1,Oa,Oa,O1,by rw[Aa f,Aa c]⟩
     case measure=>simp[intOf];omega
  .have c:=Ab<|AfG (p:=Yz) (s:=s) (j:=k) Oa;have n: ¬ ((k:Int)<(s.size:Int)):=Oa;go_wp2
   go_ret
   exact⟨U2<|by rw[Aa f,Aa c],rfl⟩
def Vp (L:List N4):Array jF:=(L.map λl=>Value.string<|ofL l).toArray
theorem AcG {k:Nat}(h:L[k]? =Q x):(Vp L)[k]? =Q (jC<|ofL x):=by simp[Vp,h]
theorem Vq (h:(s.toList==(ofL x).toList)=jD):Pe s=x:=by
 rw[zD,z7,z7]at h;exact h
theorem Td (h:(s.toList==(ofL x).toList)=jE):Pe s≠x:=by
 rw[zA,z7,z7]at h;exact h
def Mc (L:List N4) (k:Nat) (l:N4):Prop:=∀i,i<k->L[i]? ≠Q l
theorem Mc.next {k:Nat}{l x:N4}(h:Mc L k l)(hx:L[k]? =Q x)(a:l≠x):Mc L (k+1) l:=λi hi e=>by
 by_cases b:i=k
 .subst b;rw[hx]at e;exact a (K7 e).symm
 .exact h i Oa e
theorem Mc.all {l:N4}(h:Mc L (T L) l):L.contains l=jE:=by
 rw[<-Bool.not_eq_true,List.contains_iff_mem];intro hm;obtain⟨i,hi,e⟩:=zw hm;exact h i hi (by rw[zM hi,e])
theorem AcH {k:Nat}(h:L[k]? =Q x):L.contains x=jD:=S4
theorem ZM (s:K9)(w:jB):
  Calls jZ 142 #[jC s] w λe w'=>e=jN (.bool<|ZL<|Pe s)/\Ai w w':=by
 have R:Ag (jK w<|jH #[jC ⟨#[108,101,116]⟩,jC ⟨#[119,104,101,110]⟩,jC ⟨#[101,108,115,101]⟩,jC ⟨#[100,101,110,121]⟩,jC ⟨#[103,114,97,110,116]⟩,jC ⟨#[105,102]⟩,jC ⟨#[116,104,101,110]⟩,jC ⟨#[110,111,116]⟩,jC ⟨#[97,110,100]⟩,jC ⟨#[111,114]⟩,jC ⟨#[105,110]⟩,jC ⟨#[119,105,116,104,105,110]⟩,jC ⟨#[115,105,122,101]⟩,jC ⟨#[116,114,117,101]⟩,jC ⟨#[102,97,108,115,101]⟩] 9) (jh<|Z w) (Vp Oi) 9:=Ag.new w (Vp Oi) 9;have a:=AE w<|jH #[jC ⟨#[108,101,116]⟩,jC ⟨#[119,104,101,110]⟩,jC ⟨#[101,108,115,101]⟩,jC ⟨#[100,101,110,121]⟩,jC ⟨#[103,114,97,110,116]⟩,jC ⟨#[105,102]⟩,jC ⟨#[116,104,101,110]⟩,jC ⟨#[110,111,116]⟩,jC ⟨#[97,110,100]⟩,jC ⟨#[111,114]⟩,jC ⟨#[105,110]⟩,jC ⟨#[119,105,116,104,105,110]⟩,jC ⟨#[115,105,122,101]⟩,jC ⟨#[116,114,117,101]⟩,jC ⟨#[102,97,108,115,101]⟩] 9;go_enter func142,ntmps142
 go_wp2
 generalize jK w (jH #[jC ⟨#[108,101,116]⟩,jC ⟨#[119,104,101,110]⟩,jC ⟨#[101,108,115,101]⟩,jC ⟨#[100,101,110,121]⟩,jC ⟨#[103,114,97,110,116]⟩,jC ⟨#[105,102]⟩,jC ⟨#[116,104,101,110]⟩,jC ⟨#[110,111,116]⟩,jC ⟨#[97,110,100]⟩,jC ⟨#[111,114]⟩,jC ⟨#[105,110]⟩,jC ⟨#[119,105,116,104,105,110]⟩,jC ⟨#[115,105,122,101]⟩,jC ⟨#[116,114,117,101]⟩,jC ⟨#[102,97,108,115,101]⟩] 9)=f at R a|-;go_loop [7] (λi=>∃k:Nat,k<=15/\i=V X k/\Mc Oi k (Pe s)) (λi=>15-(intOf i).toNat)
 case atStart=>exact⟨0,Oa,rfl,λi hi=>Oa⟩
 case round=>
  obtain⟨k,g,rfl,c⟩:=hrel;by_cases d:k<15
  .have j:(k:Int)<15:=Oa;obtain⟨x,hx⟩:∃x,Oi[k]? =Q x:=⟨Oi[k]'d,zM d⟩
   have hc:=(R.cell k).trans<|AcG hx;obtain h|h:=Bool.eq_false_or_eq_true<|s.toList==(ofL x).toList
   .have b:=Ab (show ZL (Pe s)=jD by rw[Vq h];exact AcH hx);go_wp2
    go_ret
    exact⟨Af (Aa b).symm,a⟩
   .have b:=Ab<|c.next hx<|Td h;go_wp2
    go_round
    case rel=>exact⟨k+1,Oa,O1,Aa b⟩
    case measure=>simp[intOf];omega
  .have e:k=15:=Oa;subst e;go_wp2
   go_ret
   exact⟨Af (Aa<|Ab<|show ZL (Pe s)=jE from Mc.all c).symm,a⟩
theorem AcL (p:UInt8->Bool)(r:N4):Ps p r=T r↔r.all p=jD:=by
 constructor
 .grind [AfH]
 .intro h;have e:r.takeWhile p=r:=by induction r<;>simp_all[List.all_cons]
  rw[Ps,e]
theorem AcM (h0: 0<s.size):Ej s=(decide (s.size<=32)&&ltI (s[0].toNat:Int)&&decide (Ps Yz (Pe s)=s.size)&& !ZL (Pe s)):=by
 have h:=Lb s 0 h0
 grind [Ps,AcL,Nh,ltI,Ej,Yz,Lb,ltB,ZL,Pe]
theorem Yd (h0:s.size=0):Ej s=jE:=by grind [Nh,Ej,Pe]
theorem EP (s:K9)(w:jB)(hs:s.size<=1048576):
  Calls jZ 123 #[jC s] w λe w'=>e=jN (.bool<|Ej s)/\Ai w w':=by
 by_cases h0:s.size=0
 .have n: ¬ ((0 :Int)<(s.size:Int)):=Oa;rw[Yd h0];go_enter func123,ntmps123
  go_wp2
  go_ret
  exact⟨rfl,BRN⟩
 have k: 0<s.size:=Oa;have c:=Ab<|AcM k;by_cases f:s.size<=32
 case neg=>
  have l: ¬ ((s.size:Int)<=32):=Oa;go_enter func123,ntmps123
  go_wp2
  go_ret
  exact⟨Af<|by rw[Aa c];simp[f],BRN⟩
 have l:(s.size:Int)<=32:=Oa;cases g:ltI (s[0].toNat:Int)
 .have b:=Ab g;go_enter func123,ntmps123
  go_wp2_with (go_at_call 140;refine(Dp _ _).mono ?_;rintro e w' ⟨rfl,a⟩;rw[Aa b,a];clear a)
  go_ret
  exact⟨Af<|by rw[Aa c,Aa b];simp,BRN⟩
 have b:=Ab g;have h:=Ab<|AcE Yz s;by_cases i:Ps Yz (Pe s)=s.size
 .have m:(((Ps Yz (Pe s):Nat):Int)==(s.size:Int))=jD:=zD.2 Oa;go_enter func123,ntmps123
  go_wp2_with (first|(go_at_call 140;refine(Dp _ _).mono ?_;rintro e w' ⟨rfl,a⟩;rw[Aa b,a];clear a)|(go_at_call 141;refine(Uj s 0 _ O2 Oa).mono ?_;rintro e w' ⟨rfl,a⟩;rw[Aa h,a];clear a))
  refine(ZM s _).mono ?_;rintro e o ⟨rfl,j⟩;cases a:ZL (Pe s)
  .have d:=Ab a;go_wp2
   go_ret
   exact⟨Af<|by rw[Aa c,Aa b,Aa d];simp[f,i],j⟩
  .have d:=Ab a;go_wp2
   go_ret
   exact⟨Af<|by rw[Aa c,Aa d];simp,j⟩
 .have m:(((Ps Yz (Pe s):Nat):Int)==(s.size:Int))=jE:=zA.2 Oa;go_enter func123,ntmps123
  go_wp2_with (first|(go_at_call 140;refine(Dp _ _).mono ?_;rintro e w' ⟨rfl,a⟩;rw[Aa b,a];clear a)|(go_at_call 141;refine(Uj s 0 _ O2 Oa).mono ?_;rintro e w' ⟨rfl,a⟩;rw[Aa h,a];clear a))
  go_ret
  exact⟨Af<|by rw[Aa c];simp[i],BRN⟩
theorem ZQ (s:K9):Co s=(decide (s.size<=32)&&IY s.data.toList):=rfl
theorem ZR (s:K9):Co s=(decide (s.size=0)||vnB s):=by
 rw[ZQ,vnB];by_cases h:s.size=0
 .have e:=Lx h;subst e;rfl
 grind
theorem Nj (s:K9)(w:jB)(hs:s.size<=1048576):
  Calls jZ 68 #[jC s] w λe w'=>e=jN (.bool<|Co s)/\w'=w:=by
 by_cases h0:s.size=0
 .have e:=Lx h0;subst e;go_enter func68,ntmps68
  go_wp2
  go_ret
  exact⟨rfl,rfl⟩
 .have c:=CH h0;have b:=Ab (show Co s=vnB s by rw[ZR,zH h0,Bool.false_or]);go_enter func68,ntmps68
  go_wp2_with (go_at_call 22;refine(CL _ _ O2).mono ?_;rintro e w' ⟨rfl,a⟩;rw[a];clear a)
  go_ret
  exact⟨Af (Aa b).symm,rfl⟩
theorem Sh (op:Int)(w:jB):
  Calls jZ 139 #[V X op] w λe w'=>e=jN (V X<|BY op)/\w'=w:=by
 go_enter func139,ntmps139
 go_wp2
 all_goals
  go_ret
  refine⟨U2 ?_,rfl⟩;unfold BY
  simp_all
  try omega
theorem Gd {a:Array jF}(h:∀b:jB,Below (R<|Z w) w b->Ag b (R<|Z w) a t->P b):P<|jK w<|jH a t:=by grind [Go.RowKit.Below.refl,Go.RowKit.Below.alloc,Ag.new]
theorem To {a b:Array jF}(h:∀c:jB,Below (jh<|Z w) w c->Ag c (jh<|Z w) a t->Ag c (jh (Z w)+1) b u->P c):P<|jK (jK w<|jH a t)<|jH b u:=
 Gd (P:=P) λc B R=>by
  have e:jh (Z<|jK w<|jH a t)=jh (Z w)+1:=Ox;exact h c (((Below.refl (jh<|Z w) w).alloc NLN _).trans<|B.mono Ox) ((Ag.new w _ _).aA B NLN) (by rw[<-e];exact R)
theorem Mm {a b c:Array jF}{v:jV}(h:∀d:jB,Below (jh<|Z w) w d->Ag d (jh<|Z w) a t->Ag d (jh (Z w)+1) b u->Ag d (jh (Z w)+1+1) c v->P d):P<|jK (jK (jK w<|jH a t)<|jH b u)<|jH c v:=
 To (P:=P) λd B R S=>by
  have e:jh (Z<|jK w<|jH a t)=jh (Z w)+1:=Ox;rw[e]at R S;exact h d (((Below.refl (jh<|Z w) w).alloc NLN _).trans<|B.mono Ox) ((Ag.new w _ _).aA B NLN) R S
end
section
open Go.RowKit Go.Extern.Stop Go.Stop Go.Extern
theorem WS (v:jF)(w:jB):(Extern.ReflectliteType.typeOf #[jU 273 v]).run jZ w= .ok (jU 221<|.agg #[jP<|Q ⟨8,273,U⟩]) w:=Oy
def Ael:jV->Sem jF:=λt=>do Go.Extern.Rtype.noPackHeld "Comparable" t;pure (.bool (<-typeInfo t).comparable)
theorem MF (w:jB):((Extern.ReflectliteType.method Ael) #[.agg #[jP<|Q ⟨8,273,U⟩]]).run jZ w= .ok (.bool jD) w:=Oy
theorem GT (v:jF)(w:jB):(Go.method 414 221 v "Comparable").run jZ w= .ok (204,v) w:=Oy
theorem Aem:(jZ.info? 273).map (·.comparable)=Q jD:=Oy
theorem Aen:(jZ.info? 302).map (·.size)=Q 1:=Oy
theorem Aki (v:jF)(a:jV)(w:jB):(Instr.typeAssert (jU 273 v) a 223 jD).run jZ w= .ok (jQ #[jX,.bool jE]) w:=run_typeAssert_lacksB underlying223 Oy Oy v a w
theorem Ab8 (v:jF)(a:jV)(w:jB):(Instr.typeAssert (jU 273 v) a 226 jD).run jZ w= .ok (jQ #[jX,.bool jE]) w:=run_typeAssert_lacksB underlying226 Oy Oy v a w
theorem Zn (v:jF)(a:jV)(w:jB):(Instr.typeAssert (jU 273 v) a 228 jD).run jZ w= .ok (jQ #[jX,.bool jE]) w:=run_typeAssert_lacksB underlying228 Oy Oy v a w
theorem UV (a:jG)(w:jB):
  Calls jZ 88 #[jU 273<|jP<|Q a,jU 273<|jP<|Q a] w λe w'=>e=jN (.bool jD)/\w'=w:=by
 obtain⟨i,hi,b⟩:=Option.map_eq_some_iff.1 Aem;obtain⟨j,c,d⟩:=Option.map_eq_some_iff.1 Aen;have f:=@run_callFunc_extern jZ 117 _ Extern.ReflectliteType.typeOf func117 Oy Oy Oy Oy;have g:=@run_callFunc_extern jZ 204 _ (Extern.ReflectliteType.method Ael) func204 Oy Oy Oy Oy;have h:=WS;have k:=MF;have l:=GT;have m:=run_eql_iface_ptr_same (P:=jZ) w a underlying101 underlying273 hi b c;go_enter func88,ntmps88
 go_wp2
 refine wp_loop_rounds 1 ?_;rw[rounds_succ];go_wp2
 go_ret
 exact⟨rfl,rfl⟩
theorem Aek (a b:jG)(ca c:Array jF)(d f:jV)(w:jB)(g:a≠b)(h:(Z w)[jT a]? =Q (jH ca d (0,0)))(k:(Z w)[jT b]? =Q (jH c f (0,0))):
  Calls jZ 88 #[jU 273<|jP<|Q a,jU 273<|jP<|Q b] w λe w'=>e=jN (.bool jE)/\w'=w:=by
 obtain⟨i,hi,l⟩:=Option.map_eq_some_iff.1 Aem;obtain⟨j,m,n⟩:=Option.map_eq_some_iff.1 Aen;have o:=@run_callFunc_extern jZ 117 _ Extern.ReflectliteType.typeOf func117 Oy Oy Oy Oy;have p:=@run_callFunc_extern jZ 204 _ (Extern.ReflectliteType.method Ael) func204 Oy Oy Oy Oy;have q:=WS;have r:=MF;have s:=GT;have t:=Aki;have u:=Ab8;have v:=Zn;have x:=run_eql_iface_ptr_other (P:=jZ) w underlying101 underlying273 hi l m (by rw[n];decide) g h k;go_enter func88,ntmps88
 go_wp2
 refine wp_loop_rounds 1 ?_;rw[rounds_succ];go_wp2
 go_ret
 exact⟨rfl,rfl⟩
end
section
open Go.RowKit
def Blk (w:jB) (a:jG):Prop:=∃c t,(Z w)[jT a]? =Q (jH c t (0,0))
end
section
open Go.ChangeShapes Go.WideShapes Go.ChangeAt Go.RowKit
theorem Aeq: jZ.cellsOf 3 =1:=Oy
theorem WY: jZ.cellsOf 9 =1:=Oy
theorem TO {P:Program}{a:jB}{n:String}{g:Nat}{b:Array jF}(hg:P.globalNamed n=Q g)(h:a.var? P n=Q b):g<R (Z a):=by
 obtain k|k:=Nat.lt_or_ge g<|R<|Z a
 .exact k
 .unfold World.var? at h;rw[hg]at h;simp[Array.getElem?_eq_none k]at h
theorem Akk:∀u,jZ.typeName? 3 u=Q "*errors.errorString" ->u= 273:=
 typeName_ptr_named (nm:= "errors.errorString") Oy Oy Ob
theorem Ag5: jZ.cellsOf 302 =1:=Oy
theorem Aer {n:String}{text:N4}{g:Nat}{f:Nat}{p:List MemPlace}{i:List MemPlace}(hg: jZ.globalNamed n=Q g)(hv:w.var? jZ n=Q h)
  (hd:DataW.trod (λ_=>()) jZ w 0 (λ_=>jD) jE f 101 h.toList=Q (.iface "*errors.errorString" (.ptr<|.agg [.lit<|.string text]),p))
  (j:∀x∈MemPlace.row (jA g 0 U) h.size++p,x∈i)(k:∀b m,MemPlace.cell b m∈i->(∃c t,(Z w)[b]? =Q (.cells c t (0,0)))/\∀u v,jI w (jA b m U)=Q (.iface u v)->Value.okWide jZ w .any 0 u v):
  ∃a,h= #[.iface 273<|.pointer<|Q a]/\p=MemPlace.row a 1/\(∃c t,(Z w)[jT a]? =Q (.cells c t (0,0)))/\jI w (jA g 0 U)=Q (.iface 273<|.pointer<|Q a):=by
 obtain⟨l⟩:=h;have ok:∀u v,l=[.iface u v]->Value.okWide jZ w .any 0 u v:=λu v e=>by
  subst e;exact(k g 0<|j _<|by simp[MemPlace.row]).2 u v (by simpa using World.var?_cell hg hv 0)
 obtain⟨a,s,rfl,hc,_,_,rfl⟩:=errorString_of_trod underlying101 Akk underlying273 underlying302 rfl rfl underlying9 Ag5 WY hd ok;exact⟨a,rfl,rfl,(k (jT a) a.off<|j _<|by simp[MemPlace.row]).1,by simpa using World.var?_cell hg hv 0⟩
def Akl (x:String×N4×Nat):String×DataW Unit:=(x.1,.iface "*errors.errorString" (.ptr<|.agg [.lit<|.string x.2.1]))
theorem TP {d:jB}{m:List MemPlace}(n:∀b k,MemPlace.cell b k∈m->(∃c t,(Z d)[b]? =Q (.cells c t (0,0)))/\∀u v,jI d (jA b k U)=Q (.iface u v)->Value.okWide jZ d .any 0 u v):∀(S:List<|String×N4×Nat) (l:List<|String×DataW Unit) (g:List MemPlace),(∀x∈S,jZ.globalNamed x.1=Q x.2.2/\(jZ.globals[x.2.2]?).map (·.type)=Q 101)->(∀x∈g,x∈m)->DataW.LaidVars jZ d (S.map Akl++l) g->g.Nodup->
  ∃ (f:Nat->jG) (q:List MemPlace),(∀i x,S[i]? =Q x->d.var? jZ x.1=Q #[.iface 273<|.pointer<|Q<|f i]/\jI d (jA x.2.2 0 U)=Q (.iface 273<|.pointer<|Q<|f i)/\Blk d (f i)/\MemPlace.cell (jT<|f i) (f i).off∈g)/\(∀i j,i<T S->j<T S->f i=f j->i=j)/\DataW.LaidVars jZ d l q/\(∀x∈q,x∈g)/\q.Nodup
 |[],l,g,_,_,h,hn=>⟨λ_=>(jA 0 0 U),g,λi x hx=>by simp at hx,λi j hi=>H9 hi Ox,h,λ_ h=>h,hn⟩
 |x ::S,l,g,hg,hp,h,hn=>by
  obtain⟨G,t,H,I,p,q,o,r,h3,s,h5,rfl⟩:=h;obtain⟨g1,g2⟩:=hg x za;obtain rfl:=K7<|g1.symm.trans o;obtain rfl:=K7<|g2.symm.trans r;obtain⟨a,rfl,rfl,w,ca⟩:=Aer g1 h3 s (λy hy=>hp y<|Z5 _ hy) n;obtain⟨n1,n2,z⟩:=List.nodup_append.1 hn;obtain⟨f,A,B,J,C,D,E⟩:=TP n S l q (λy hy=>hg y<|zi _ hy) (λy hy=>hp y<|Z0 _ hy) h5 n2;have K:∀i,i<T S->a≠f i:=λi hi e=>by
   have:=(B i _<|zM hi).2.2.2;rw[<-e]at this;exact z _ (Z0 _<|by simp[MemPlace.row]) _ this rfl
  refine⟨λ|0=>a|i+1=>f i,A,λi y hy=>?_,λi j hi F e=>?_,C,λy hy=>Z0 _<|D y hy,E⟩
  .cases i with
   |zero=>cases hy;exact⟨h3,ca,w,Z5 _<|Z0 _<|by simp[MemPlace.row]⟩
   |succ i=>grind [Z0]
  .simp at hi F;cases i<;>grind
def AiT {H:Type} :DataW H->L0 jF
 |.lit (.int .i64 x)=>Q<|.int .i64 x
 |.lit (.string s)=>Q<|.string ⟨s.toArray⟩
 |_=>U
def UY {H:Type} :DataW H->List (L0 jF)
 |.agg ds=>ds.map AiT
 |_=> []
def Ain {H:Type} :DataW H->List (L0 jF)
 |.agg Rr=>Rr.flatMap UY
 |_=> []
theorem Akm {d j l:Type}(c:Nat)(g:d->List j)(f:l->j):∀(a:List d) (b:List l),T b=T a*c->(∀i (h:i<T a),((b.drop<|i*c).take c).map f=g a[i])->b.map f=a.flatMap g
 |[],b,h,_=>by grind [List.length_eq_zero_iff]
 |x ::a,b,h,k=>by
  rw[List.length_cons,Nat.succ_mul]at h;have m:=Akm c g f a (b.drop c) (by rw[List.length_drop];omega) λi hi=>by
   have:=k (i+1) (by simpa using hi)
   grind [List.drop_drop]
  have h0:=k 0 Ox
  grind [z8]
theorem Aes {g:Type}{enc:jV×jF->g}{m:Nat->Bool}{fuel:Nat}{T:jV}{b:Array Field}{l:L7}{d:DataW g}{p:List MemPlace}(hu: jZ.underlying T=Q (.struct b))(hc: jZ.cellsOf T=b.size)(q:∀(i:Nat) (f:Field),b[i]? =Q f->f.offset=i/\(f.type= 3\/f.type= 9))
  (h:DataW.trod enc jZ w 0 m o fuel T l=Q (d,p)):l.map Q=UY d:=by
 obtain⟨c,n,_,hd,s,u,hx⟩:=DataW.trod_struct hu h;cases hd;rw[hc]at s;refine List.ext_getElem? λi=>?_;simp only[UY,zr];by_cases hi:i<b.size
 .have j:i<ja l:=Oa;obtain⟨t,ht⟩:=q i b[i]<|Array.getElem?_eq_getElem hi;have e:=hx i b[i]<|Array.getElem?_eq_getElem hi;have s1:(l.drop i).take 1=[l[i]]:=by rw[z4 j];rfl
  have hy:=zM (l:=c) (Oa:i<ja c);generalize c[i]' Oa=y at hy;rw[t,hy]at e;rw[zM j,hy];obtain ht|ht:=ht
  .rw[ht,Aeq,s1]at e;obtain⟨a,k,r,_⟩:=DataW.trod_int underlying3 e
   grind [List.cons.injEq,AiT]
  .rw[ht,WY,s1]at e;obtain⟨a,k,r,_⟩:=DataW.trod_string underlying9 e;simp only[List.cons.injEq,and_true]at k;rw[k];simp[r,AiT]
 grind [Z8]
theorem UZ {b:jB}{n:String}{d:DataW Unit}{l:List (String×DataW Unit)}{g k:Nat}{A T:jV}{a:Array Field}{V:Array jF}(h:DataW.LaidVars jZ b ((n,d) ::l) q)(hg: jZ.globalNamed n=Q g)(ht:(jZ.globals[g]?).map (·.type)=Q A)(o: jZ.underlying A=Q (.array k T))(hu: jZ.underlying T=Q (.struct a))(hc: jZ.cellsOf T=a.size)(r: jZ.cellsOf A=k*a.size)(B:∀(i:Nat) (f:Field),a[i]? =Q f->f.offset=i/\(f.type= 3\/f.type= 9))(C:Ain d=V.toList.map Q):g<R (Z b)/\∀j,jI b (jA g j U)=V[j]? :=by
 obtain⟨D,E,c,fuel,p,q,s,t,h3,u,_,_⟩:=h;obtain rfl:=K7<|hg.symm.trans s;obtain rfl:=K7<|ht.symm.trans t;obtain⟨v,m,_,hx,w,y,z⟩:=DataW.trod_array o u;cases hx;rw[hc]at z;have e:=Akm a.size (λx:DataW Unit×List MemPlace=>UY x.1) Q v c.toList (by rw[w,r,y]) λi hi=>by grind [Aes,zM]
 have e2:c=V:=by grind [Ain,List.flatMap_map,List.map_inj_right,Array.toList_inj]
 subst e2;refine⟨TO hg h3,λj=>?_⟩
 grind [Go.World.var?_cell]
theorem AiU {a:Array Field}(h:((List.range a.size).all λi=>match a[i]? with|some f=>(f.offset==i)&&(f.type== 3 ||f.type== 9)|none=>jD)=jD):∀(i:Nat) (f:Field),a[i]? =Q f->f.offset=i/\(f.type= 3\/f.type= 9):=λi f b=>by
 have:=zq.1 h i<|List.mem_range.2 (Array.getElem?_eq_some_iff.1 b).1;rw[b]at this;simpa using this
end
end Go.Proofs.YtnjpihpohilnjaaGreatDoor

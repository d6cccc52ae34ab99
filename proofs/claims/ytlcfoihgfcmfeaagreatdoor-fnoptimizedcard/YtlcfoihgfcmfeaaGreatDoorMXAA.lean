import Derived.Test.YtlcfoihgfcmfeaaGreatDoorRows
import Derived.WalkSpells
import Derived.WalkLawsBesides
import Derived.Deep.AppendLies
import Derived.BigQuiet
open Option renaming none->V,some->Z
open List renaming length->Y
open Array renaming size->R,size->jh
open Go renaming World->jD,Value->jF,Addr->jH,TypeId->jR
open Bool renaming true->jG,false->jI
open ByteArray renaming empty->jX
namespace Go.Proofs.YtlcfoihgfcmfeaaGreatDoor
open Proofs.Tryz
open Value renaming int->T,slice->X,string->jA,ownBlock->jO
open World renaming heap->Q,cell?->jE,alloc->jK,setCell->jM,ownsRow->jP,frozen?->jY
open Addr renaming mk->jB,block->jW
open Obj renaming cells->jC
open Ending renaming returned->jN
open Proofs.Tryz renaming prog->jZ
open Go.RowKit
theorem Oa{p:Prop}(h:p:=by omega):p:=h
theorem Ob{p:Prop}[Decidable p](h:p:=by decide):p:=h
theorem Od{p:Prop}(h:p:=by simp;omega):p:=h
theorem Ok{p:Prop}(h:p:=by kernel_rfl):p:=h
theorem Oz{p:Prop}(h:p:=by simp):p:=h
theorem O0{p:Prop}(h:p:=by go_num):p:=h
theorem O1{p:Prop}(h:p:=by simp[results,results81,go_sem]):p:=h
theorem O2{p:Prop}(h:p:=by have h1:=Aa i;have h2:=Aa l;unfold Uw at h1;omega):p:=h
theorem O3{p:Prop}(h:p:=by unfold maxLen;omega):p:=h
theorem O4{p:Prop}(h:p:=by simp[Ex.aC]):p:=h
theorem O5{p:Prop}(h:p:=by rw[zM,zy,decide_eq_true_iff];exact Ds text):p:=h
theorem O6{p:Prop}(h:p:=by cases h):p:=h
theorem O7{p:Prop}(h:p:=by simp[results,results28,go_sem,S,W,aa]):p:=h
theorem O8{p:Prop}(h:p:=by simp[results,results77,go_sem]):p:=h
theorem O9{p:Prop}(h:p:=by rw[zC];simp only[List.length_cons,List.length_nil];omega):p:=h
theorem P0{p:Prop}(h:p:=by assumption):p:=h
theorem P1{p:Prop}(h:p:=by simpa[jO]using hq):p:=h
theorem P2{p:Prop}(h:p:=by simp[results,results109,go_sem]):p:=h
theorem P3{p:Prop}(h:p:=by simp[results,results158,go_sem]):p:=h
theorem P4{p:Prop}(h:p:=by simpa using h):p:=h
theorem P5{p:Prop}(h:p:=by have:=h.cap;have:=h.aH;unfold maxLen at this;omega):p:=h
theorem P7{p:Prop}(h:p:=by rw[zM];simp):p:=h
theorem P9{p:Prop}(h:p:=by simp[results,results122,go_sem]):p:=h
theorem Q1{p:Prop}(h:p:=by show R (Q w)+1+1≠R (Q w)+1;omega):p:=h
theorem Q2{p:Prop}(h:p:=by rw[hq,e]):p:=h
theorem Q3{p:Prop}(h:p:=by simp[results,results21,go_sem,g0,g1]):p:=h
theorem Q4{p:Prop}(h:p:=by cases hx):p:=h
theorem Q5{p:Prop}(h:p:=by have:=h.len;omega):p:=h
theorem S1{p:Prop}(h:p:=by show R (Q w)+1≠R (Q w)+1+1;omega):p:=h
theorem S2{p:Prop}(h:p:=by have:=z.aP;have:=z.M.row.lt;omega):p:=h
theorem S3{p:Prop}(h:p:=by show R (Q w)<=R (Q w)+1+1;omega):p:=h
theorem S4{p:Prop}(h:p:=by rw[<-bm];exact Q9 (Aa a1) (Aa a2) (Aa aT) (Aa a3) o<|by have:=Aa F;omega):p:=h
theorem S6{p:Prop}(h:p:=by simp[usE,hm]):p:=h
theorem S7{p:Prop}(h:p:=by simp[results,results130,go_sem,A,B,C,D]):p:=h
theorem S8{p:Prop}(h:p:=by (try dsimp only at l);go_simp):p:=h
theorem S9{p:Prop}(h:p:=by show q≠jh (Q f);omega):p:=h
theorem Da{p:Prop}(h:p:=by have:=Aa b;omega):p:=h
theorem Db{p:Prop}(h:p:=by have:=h.C.aP;have:=h.C.row.lt;omega):p:=h
theorem Dz{p:Prop}(h:p:=by simp only[GG,show AO d=_ from Aa ab,show AO f=_ from Aa ac]):p:=h
theorem D0{p:Prop}(h:p:=by rw[Cw];all_goals (intros;simp_all)):p:=h
theorem D4{p:Prop}(h:p:=by simp[results,results71,go_sem]):p:=h
theorem D5{p:Prop}(h:p:=by show jh (Q w)+1≠jh (Q d);omega):p:=h
theorem D6{p:Prop}(h:p:=by rw[Aa f,To];simp only[Aa b];simp):p:=h
theorem D7{p:Prop}(h:p:=by cases c:a[n]?<;>simp[Ns,usE,c]):p:=h
theorem D8{p:Prop}(h:p:=by have:=Aa O;omega):p:=h
theorem D9{p:Prop}(h:p:=by simp[results,results180,go_sem]):p:=h
theorem Hb{p:Prop}(h:p:=by simp[results,results184,go_sem]):p:=h
theorem Hc{p:Prop}(h:p:=by simp[results,results161,go_sem]):p:=h
theorem Hd{p:Prop}(h:p:=by simp[results,results159,go_sem]):p:=h
theorem He{p:Prop}(h:p:=by simp[results,results8,go_sem,K,M,O]):p:=h
theorem Hf{p:Prop}(h:p:=by unfold Gr;simp[Aa F]):p:=h
theorem Hg{p:Prop}(h:p:=by cases e<;>rfl):p:=h
theorem Hi{p:Prop}(h:p:=by show x.aF≠1;omega):p:=h
theorem Hj{p:Prop}(h:p:=by have:=Aa F;omega):p:=h
theorem Hk{p:Prop}(h:p:=by simp[results,results63,go_sem]):p:=h
theorem Hl{p:Prop}(h:p:=by simp[results,results189,go_sem]):p:=h
theorem Hm{p:Prop}(h:p:=by rw[a];simp):p:=h
theorem Hn{p:Prop}(h:p:=by show jh (Q w)<=jh (Q d);omega):p:=h
theorem Ho{p:Prop}(h:p:=by dsimp only;omega):p:=h
theorem Hq{p:Prop}(h:p:=by intro s;simp):p:=h
theorem Hs{p:Prop}(h:p:=by rw[zj]):p:=h
theorem Ht{p:Prop}(h:p:=by rw[Aa aO];exact KT (Aa A).1<|Aa aw):p:=h
theorem Hv{p:Prop}(h:p:=by simpa using h2):p:=h
theorem H4{p:Prop}(h:p:=by unfold LG;simp[Aa O]):p:=h
theorem H5{p:Prop}(h:p:=by intro u hu;simp at hu;subst hu;rfl):p:=h
theorem H6{p:Prop}(h:p:=by rw[e1,CL,if_neg<|by omega,zP,e2]):p:=h
theorem H8{p:Prop}(h:p:=by have:=A.aP;have:=A.M.row.lt;omega):p:=h
theorem Ga{p:Prop}(h:p:=by by_cases e:j=0<;>simp[Addr.add,e]):p:=h
theorem Gb{p:Prop}(h:p:=by simpa[Ex.aC]using j):p:=h
theorem Gc{p:Prop}(h:p:=by rw[Aa c,Aa b]):p:=h
theorem Gs{p:Prop}(h:p:=by cases k;omega):p:=h
theorem G0{p:Prop}(h:p:=by simp_all[Ij,Cw]):p:=h
theorem G1{p:Prop}(h:p:=by rw[e];rfl):p:=h
theorem G2{p:Prop}(h:p:=by rw[zC];simp;omega):p:=h
theorem G3{p:Prop}(h:p:=by rw[Aa v,Aa p];rfl):p:=h
theorem G4{p:Prop}(h:p:=by have:=Aa aD;simpa using this):p:=h
theorem G5{p:Prop}(h:p:=by unfold AM;rfl):p:=h
theorem G6{p:Prop}(h:p:=by simpa using b):p:=h
theorem G7{q p:Prop}(a:q)(h:q->p:=by intro;omega):p:=h a
theorem G8{w:Go.World}{b:Nat}{e:Go.TypeId}{s:Nat}:w.ownsRow b e s (.slice .none 0 0) 0 []:=Go.World.ownsRow_nil w b e s
theorem G9{w:Go.World}{a:Go.Addr}{k:Nat}{v:Go.Value}(h:k≠a.block):(w.setCell a v).heap[k]?=w.heap[k]?:=heap_setCell_other w a k v h
theorem K0{c:Prop}{_:Decidable c}(k:¬c){α:Sort _}{t e:α}:ite c t e=e:=if_neg k
theorem K1{c:Prop}{_:Decidable c}(k:c){α:Sort _}{t e:α}:ite c t e=t:=if_pos k
theorem K4{a b:Prop}(h:a)(k:¬a):b:=absurd h k
theorem K6:type_of%@World.size_alloc:=@World.size_alloc
theorem K7:type_of%@World.ownsRow.alloc:=@World.ownsRow.alloc
theorem K8:type_of%@bodyPost_ret:=@bodyPost_ret
theorem K9:type_of%@World.news_of_block:=@World.news_of_block
theorem J6:type_of%@wpList_append_lies:=@wpList_append_lies
theorem J7:type_of%@wpList_append_own:=@wpList_append_own
theorem Lz:type_of%@heap_alloc_new:=@heap_alloc_new
theorem L0:type_of%@World.cell?_of_block:=@World.cell?_of_block
theorem L2:type_of%@heap_setCell_other:=@heap_setCell_other
theorem L3:type_of%@run_underlying:=@run_underlying
theorem L4:type_of%@cell_one_new:=@cell_one_new
theorem L7:type_of%@And.intro:=@And.intro
theorem Mk:type_of%@Option.some.inj:=@Option.some.inj
theorem M0:type_of%@of_decide_eq_true:=@of_decide_eq_true
abbrev M1:=ByteArray
abbrev M2:=@Option
abbrev M3:=M2 Go.Addr
abbrev M4:=List Int
abbrev M6:=List M1
abbrev N4:=List Go.Value
abbrev N8:=M2 Int
abbrev N9:=List UInt8
abbrev Wa:=M2 Nat
variable{cs:Array jF}{s:M1}{K:List M4}{c f:List (Nat×Nat)}{ss:M6}{l:M4}{a b n m:Nat}{x:M3}{t u:jR}{p:UInt8->Bool}{v:jF}{w w':jD}{P:jD->Prop}
theorem Ab{p:Prop}(h:p):Hid p:=h
theorem Aa{p:Prop}(h:Hid p):p:=h
abbrev Ak(w v:jD):Prop:=Below (R<|Q w) w v
theorem Ar(w:jD)(o:Obj):Below (R<|Q w) w<|jK w o:=(Below.refl (R<|Q w) w).alloc (Nat.le_refl<|R<|Q w) o
theorem IQ(w:jD):Below (R<|Q w) w w:=Below.refl (R<|Q w) w
abbrev CW(a b:Int)(c:M1)(d:M3)(e f:Nat)(g:M3)(h i:Nat):Obj:=jC #[T .i64 a,T .i64 b,jA c,X d e f,X g h i] 112
abbrev Lu(a:M3)(b c:Nat)(d:M3)(e f:Nat)(g:M3)(h i:Nat):Obj:=jC #[X a b c,X d e f,X g h i] 27
abbrev EO(a:Int)(b:M1)(c d:Int):Obj:=jC #[T .i64 a,jA b,T .i64 c,T .i64 d] 97
theorem NLN{n:Nat}:n<=n:=Nat.le_refl n
theorem BRN{B:Nat}:Below B w w:=Below.refl B w
theorem zA:type_of%@beq_eq_false_iff_ne:=@beq_eq_false_iff_ne
theorem zB:type_of%@Nat.le_trans:=@Nat.le_trans
theorem zC:type_of%@List.length_append:=@List.length_append
theorem zD:type_of%@beq_iff_eq:=@beq_iff_eq
theorem zE:type_of%@List.getElem?_eq_getElem:=@List.getElem?_eq_getElem
theorem zF:type_of%@Bool.and_eq_true:=@Bool.and_eq_true
theorem zG:type_of%@Nat.lt_of_lt_of_le:=@Nat.lt_of_lt_of_le
theorem zH:type_of%@Nat.zero_le:=@Nat.zero_le
theorem zI:type_of%@List.getElem_mem:=@List.getElem_mem
theorem zJ:type_of%@List.mem_append:=@List.mem_append
theorem zK:type_of%@List.mem_singleton:=@List.mem_singleton
theorem zL:type_of%@List.getElem?_eq_some_iff:=@List.getElem?_eq_some_iff
theorem zM:type_of%@Bool.eq_iff_iff:=@Bool.eq_iff_iff
theorem zN:type_of%@List.map_append:=@List.map_append
theorem zO:type_of%@decide_eq_true_eq:=@decide_eq_true_eq
theorem zP:type_of%@Int.toNat_natCast:=@Int.toNat_natCast
theorem zQ:type_of%@Nat.le_succ:=@Nat.le_succ
theorem zR:type_of%@List.mem_cons_self:=@List.mem_cons_self
theorem zS:type_of%@List.mem_cons:=@List.mem_cons
theorem zT:type_of%@Nat.zero_add:=@Nat.zero_add
theorem zU:type_of%@List.mem_map:=@List.mem_map
theorem zV:type_of%@List.mem_cons_of_mem:=@List.mem_cons_of_mem
theorem zW:type_of%@bne_iff_ne:=@bne_iff_ne
theorem zX:type_of%@List.mem_of_getElem?:=@List.mem_of_getElem?
theorem zY:type_of%@List.take_succ_eq_append_getElem:=@List.take_succ_eq_append_getElem
theorem zZ:type_of%@List.length_map:=@List.length_map
theorem za:type_of%@decide_eq_false:=@decide_eq_false
theorem zc:type_of%@decide_eq_true:=@decide_eq_true
theorem zd:type_of%@List.append_assoc:=@List.append_assoc
theorem ze:type_of%@Nat.add_zero:=@Nat.add_zero
theorem zf:type_of%@List.getD_eq_getElem?_getD:=@List.getD_eq_getElem?_getD
theorem zg:type_of%@List.getElem_append_left:=@List.getElem_append_left
theorem zh:type_of%@List.take_of_length_le:=@List.take_of_length_le
theorem zi:type_of%@List.getElem?_map:=@List.getElem?_map
theorem zj:type_of%@List.length_set:=@List.length_set
theorem zk:type_of%@List.getElem_of_mem:=@List.getElem_of_mem
theorem zm:type_of%@List.findSome?_cons:=@List.findSome?_cons
theorem zn:type_of%@Option.bind_some:=@Option.bind_some
theorem zo:type_of%@List.all_eq_true:=@List.all_eq_true
theorem zp:type_of%@List.getElem?_append_left:=@List.getElem?_append_left
theorem zq:type_of%@List.take_length:=@List.take_length
theorem zr:type_of%@Int.le_refl:=@Int.le_refl
theorem zt:type_of%@Bool.eq_false_or_eq_true:=@Bool.eq_false_or_eq_true
theorem zu:type_of%@List.flatMap_cons:=@List.flatMap_cons
theorem zv:type_of%@List.length_take:=@List.length_take
theorem zw:type_of%@List.getElem?_eq_none:=@List.getElem?_eq_none
theorem zx:type_of%@Bool.true_and:=@Bool.true_and
theorem zy:type_of%@List.isEmpty_iff:=@List.isEmpty_iff
theorem zz:type_of%@List.set_cons_succ:=@List.set_cons_succ
theorem z0:type_of%@Option.map_some:=@Option.map_some
theorem z3:type_of%@List.mem_append_left:=@List.mem_append_left
theorem z4:type_of%@List.eq_nil_of_length_eq_zero:=@List.eq_nil_of_length_eq_zero
theorem z5:type_of%@List.getElem?_cons_succ:=@List.getElem?_cons_succ
theorem z6:type_of%@List.map_map:=@List.map_map
theorem z7:type_of%@List.setIfInBounds_toArray:=@List.setIfInBounds_toArray
theorem z8:type_of%@List.set_cons_zero:=@List.set_cons_zero
theorem z9:type_of%@ByteArray.toList_eq:=@ByteArray.toList_eq
theorem Z0:type_of%@Bool.or_eq_true:=@Bool.or_eq_true
theorem Z1:type_of%@Nat.le_of_eq:=@Nat.le_of_eq
theorem Z2:type_of%@List.getElem_append_right:=@List.getElem_append_right
theorem Z3:type_of%@List.take_append_drop:=@List.take_append_drop
theorem Z4:type_of%@List.findSome?_nil:=@List.findSome?_nil
theorem Z5:type_of%@Nat.not_lt_zero:=@Nat.not_lt_zero
theorem Z6:type_of%@Option.map_eq_some_iff:=@Option.map_eq_some_iff
theorem Z7:type_of%@List.drop_eq_getElem_cons:=@List.drop_eq_getElem_cons
theorem Z9:type_of%@List.not_mem_nil:=@List.not_mem_nil
theorem yA:type_of%@List.getElem?_cons_zero:=@List.getElem?_cons_zero
theorem yB:type_of%@List.getElem?_append_right:=@List.getElem?_append_right
theorem yC:type_of%@List.mem_append_right:=@List.mem_append_right
theorem yD:type_of%@Bool.eq_false_iff:=@Bool.eq_false_iff
theorem yE:type_of%@List.getElem_cons_zero:=@List.getElem_cons_zero
theorem yF:type_of%@List.length_singleton:=@List.length_singleton
theorem yG:type_of%@Array.getElem?_eq_some_iff:=@Array.getElem?_eq_some_iff
theorem yH:type_of%@List.getElem_cons_succ:=@List.getElem_cons_succ
theorem yI:type_of%@Option.isSome_iff_exists:=@Option.isSome_iff_exists
set_option linter.unusedVariables false
def EB:List (Nat×Nat)->Nat|[]=>0|p::ps=>max p.2<|EB ps
theorem Al0{ks:List (Nat×Nat)}{p:Nat×Nat}(h:p∈ks):p.2<=EB ks:=by induction ks<;>grind[EB]
def Al(ks:List<|Nat×Nat):M4:=ks.map λp=>(p.1:Int)
inductive As(K:List M4):Nat->List (Nat×Nat)->Nat->Prop|nil(a:Nat):As K a [] a|cons{a t b:Nat}{ks fs:List (Nat×Nat)}(hk:As K a ks t)(ht:K[t]?=Z (Al ks))(hf:As K (t+1) fs b):As K a ((t,EB ks+1)::fs) b
theorem As.le(h:As K a c b):a<=b:=by induction h<;>grind
theorem As.lt(h:As K a c b):∀p∈c,a<=p.1/\p.1<b:=by induction h with|nil a=>grind|cons d ht hf f i2=>intro p g;have h1:=d.le;grind[As.le]
theorem As.dQ{c:Nat}{d:List (Nat×Nat)}(h:As K a d b)(k:As K b f c):As K a (d++f) c:=by induction h with|nil a=>exact k|cons g ht hf i i2=>exact .cons g ht<|i2 k
theorem As.split{K:List M4}:∀{f d:List (Nat×Nat)}{a c:Nat},As K a (f++d) c->∃b,As K a f b/\As K b d c|[],d,a,c,h=>⟨a,.nil a,h⟩|p::f,d,a,c,h=>by cases h with|cons g ht hf=>obtain⟨b,h1,h2⟩:=As.split hf;exact⟨b,.cons g ht h1,h2⟩
def Eg(S:List<|Nat×Nat)(i:Nat)(ks:M4):M2<|List<|Nat×Nat:=if Y S<Y ks then V else if Al (S.drop<|Y S-Y ks)≠ks then V else if EB (S.drop<|Y S-Y ks)=64 then V else Z (S.take (Y S-Y ks)++[(i,EB (S.drop<|Y S-Y ks)+1)])
def CD(K:List M4):Nat->List (Nat×Nat)->Nat->M2 (List<|Nat×Nat)|0,S,_=>Z S|n+1,S,i=>match K[i]?with|none=>V|some ks=>match Eg S i ks with|none=>V|some S'=>CD K n S'<|i+1
theorem IN(K:List M4):∀(m n:Nat)(S:List<|Nat×Nat)(i:Nat),CD K (m+n) S i=(CD K m S i).bind λa=>CD K n a (i+m)|0,n,S,i=>by simp[CD]|m+1,n,S,i=>by rw[(Oa:m+1+n=(m+n)+1),CD,CD];cases K[i]?with|none=>rfl|some ks=>dsimp only;cases Eg S i ks with|none=>rfl|some a=>dsimp only;rw[IN K m n a<|i+1,(Oa:i+1+m=i+(m+1))]
theorem Vc(ks:List<|Nat×Nat):Y (Al ks)=Y ks:=by simp[Al]
theorem AeJ(S ks:List<|Nat×Nat)(i:Nat)(h:EB ks+1<=64):Eg (S++ks) i (Al ks)=Z (S++[(i,EB ks+1)]):=by grind[List.take_left,List.drop_left,Eg,zC,Vc,Al]
theorem SF{S a:List (Nat×Nat)}{i:Nat}{ks:M4}(h:Eg S i ks=Z a):∃A B,S=A++B/\Al B=ks/\EB B≠64/\a=A++[(i,EB B+1)]:=by grind[Eg,Z3]
theorem Pm(h:As K a c b):∀(S:List<|Nat×Nat),(∀p∈c,p.2<=64)->CD K (b-a) S a=Z (S++c):=by induction h with|nil a=>grind[CD]|@cons a t b ks c d ht hf f i2=>intro S hd;have h1:=d.le;have h2:=hf.le;have i:EB ks+1<=64:=hd _ (zR ..);rw[(Oa:b-a=(t-a)+(1+(b-(t+1)))),IN,f S λp g=>G7<|Al0 g,zn,(Oa:a+(t-a)=t),IN];grind[CD,EB,AeJ]
theorem De{K:List M4}:∀(n:Nat){S a:List (Nat×Nat)}{i:Nat},As K 0 S i->(∀p∈S,p.2<=64)->CD K n S i=Z a->As K 0 a (i+n)/\∀p∈a,p.2<=64|0,S,a,i,h,hd,hr=>by grind[CD]|n+1,S,a,i,h,hd,hr=>by rw[CD]at hr;cases b:K[i]?with|none=>grind|some ks=>rw[b]at hr;dsimp only at hr;cases hs:Eg S i ks with|none=>grind|some k=>
      rw[hs]at hr;dsimp only at hr;obtain⟨A,B,rfl,hB,l,rfl⟩:=SF hs;obtain⟨m,d,f⟩:=h.split;have g:As K 0 (A++[(i,EB B+1)])<|i+1:=d.dQ<|.cons f (by rw[b,hB])<|.nil _;have o:EB B<=64:=by
       have:∀(L:List<|Nat×Nat),(∀p∈L,p.2<=64)->EB L<=64:=by intro L;induction L<;>grind[EB]
       exact this B λp c=>hd p<|yC _ c
      have j:∀p∈A++[(i,EB B+1)],p.2<=64:=λp c=>by grind
      have:=De n g j hr;grind
def DL(f:Int->M4->M4)(top:Int):M4->M4->M4|[],out=>out++[top]|k::ks,out=>if top<=k then out++[-1]else DL f top ks (f k out)
def Bf(K:List M4):Nat->Int->M4->M4|0=>λ_ out=>out++[-1]|n+1=>λtop out=>if top<0\/(Y K:Int)<=top\/Y K<Y out then out++[-1]else DL (Bf K n) top (K.getD top.toNat []) out
def GM(l:M4):Prop:=∀(i:Nat) (x:Int),l[i]?=Z x->x=i
theorem GM.pre{m:M4}(h:GM<|l++m):GM l:=λi x hx=>by have hi:i<Y l:=(zL.1 hx).1;exact h i x (by rw[zp hi];exact hx)
theorem GM.dI{x:Int}(h:GM<|l++[x]):x=Y l:=h (Y l) x Oz
theorem Zm(l:M4):GM l↔∀i,(h:i<Y l)->l[i]=(i:Int):=by
 constructor
 .intro h i hi;exact h i _<|zE hi
 intro h i x hx;grind
theorem OA{f:Int->M4->M4}(hf:∀k out,∃l,f k out=out++l)(top:Int):∀(ks out:M4),∃l,DL f top ks out=out++l
 |[],out=>⟨[top],rfl⟩|k::ks,out=>by
  rw[DL];split
  .grind
  obtain⟨l,e⟩:=hf k out;obtain⟨m,e2⟩:=OA hf top ks (f k out);grind
theorem OB(K:List M4):∀(n:Nat)(top:Int)(out:M4),∃l,Bf K n top out=out++l
 |0,top,out=>⟨[-1],rfl⟩|n+1,top,out=>by
  rw[Bf];dsimp only;split
  .grind
  exact OA (OB K n) top _ out
theorem SH{K:List M4}{f:Int->M4->M4}(b:∀k out,∃l,f k out=out++l)(hf:∀k out,GM (f k out)->∃d,As K (Y out) [(k.toNat,d)] (Y<|f k out)/\0<=k)(top:Int):∀(ks out:M4),GM (DL f top ks out)->∃a,Al a=ks/\∃t,As K (Y out) a t/\top=(t:Int)/\Y (DL f top ks out)=t+1
 |[],out,h=>⟨[],rfl,Y out,.nil _,by rw[DL]at h;exact h.dI,by simp[DL]⟩|k::ks,out,h=>by
  rw[DL]at h|-;split at h
  .have:=h.dI;omega
  rename_i c;rw[K0 c];obtain⟨l,e⟩:=OA b top ks<|f k out;have h1:GM<|f k out:=by rw[e]at h;exact h.pre
  obtain⟨d,h2,h3⟩:=hf k out h1;obtain⟨a,e1,t,h4,h5,h6⟩:=SH b hf top ks (f k out) h;exact⟨(k.toNat,d)::a,by simp only[Al,List.map_cons]at e1|-;rw[e1];congr 1;omega,t,h2.dQ h4,h5,h6⟩
theorem SI(K:List M4):∀(n:Nat)(top:Int)(out:M4),GM (Bf K n top out)->∃d,As K (Y out) [(top.toNat,d)] (Y<|Bf K n top out)/\0<=top
 |0,top,out,h=>by have:=GM.dI (l:=out) h;omega|n+1,top,out,h=>by
  rw[Bf]at h|-;dsimp only at h|-;split at h
  .have:=h.dI;omega
  rename_i hc;rw[K0 hc];obtain⟨a,e1,t,h4,h5,h6⟩:=SH (OB K n) (SI K n) top _ out h;have ht:top.toNat=t:=Oa;refine⟨EB a+1,?_,Oa⟩;rw[h6,ht];refine .cons h4 ?_ (.nil _);grind
def Ld(a b:Nat):M4:=(List.range' a<|b-a).map λ(i:Nat)=>(i:Int)
theorem AeK(a:Nat):Ld a a=[]:=by simp[Ld]
theorem Ve{c:Nat}(h1:a<=b)(h2:b<=c):Ld a b++Ld b c=Ld a c:=by rw[Ld,Ld,Ld,<-zN,(Oa:c-a=(b-a)+(c-b)),<-List.range'_append_1,(Oa:a+(b-a)=b)]
theorem Ah0(a:Nat):Ld a (a+1)=[(a:Int)]:=by simp[Ld]
theorem Zn(a b:Nat):Y (Ld a b)=b-a:=by simp[Ld]
theorem Ws{d:List (Nat×Nat)}(h:As K a d b):∀(n:Nat)(out:M4),(∀p∈d,p.1<n)->Y out=a->b<=Y K->(Al d).foldl (λo k=>Bf K n k o) out=out++Ld a b:=by induction h with|nil a=>grind[AeK,Al]|@cons a t b ks d g ht hf l i2=>
   intro n out i m q;have h1:=g.le;have h2:=hf.le;have j:=g.lt;have s:t<n:=i _ (zR ..);obtain⟨c,rfl⟩:∃c,n=c+1:=⟨n-1,Oa⟩;have r:Bf K (c+1) (t:Int) out=out++Ld a (t+1):=by
    rw[Bf];dsimp only;rw[K0 Oa,zP,zf,ht,Option.getD_some];have hq:∀(ks:List<|Nat×Nat) (o:M4),(∀p∈ks,p.1<t)->DL (Bf K c) (t:Int) (Al ks) o=(Al ks).foldl (λo k=>Bf K c k o) o++[(t:Int)]:=by intro ks;induction ks<;>grind[DL,Al]
    rw[hq ks out λp f=>(j p f).2,l c out (λp f=>G7<|(j p f).2) m Oa,zd,<-Ah0 t,Ve h1 Oa]
   rw[show Al ((t,EB ks+1)::d)=(t:Int)::Al d from rfl,List.foldl_cons,r,i2 (c+1) _ (λp f=>i p<|zV _ f) (by rw[zC,Zn];omega) q,zd,Ve Oa h2]
theorem Mg{K:List M4}{n:Nat}:∀(A:M4)(out:M4),GM (A.foldl (λo k=>Bf K n k o) out)->∃a,Al a=A/\As K (Y out) a (Y<|A.foldl (λo k=>Bf K n k o) out)
 |[],out,_=>⟨[],rfl,.nil _⟩|k::A,out,h=>by
  rw[List.foldl_cons]at h|-;have b:∃l,A.foldl (λo k=>Bf K n k o) (Bf K n k out)=Bf K n k out++l:=by
   have:∀(A:M4) (o:M4),∃l,A.foldl (λo k=>Bf K n k o) o=o++l:=by intro A;induction A with|nil=>simp_all|cons x f c=>intro o;obtain⟨l,e⟩:=OB K n x o;obtain⟨m,e2⟩:=c<|Bf K n x o;grind
   exact this A _
  obtain⟨l,e⟩:=b;have h1:GM<|Bf K n k out:=by rw[e]at h;exact h.pre
  obtain⟨d,h2,h3⟩:=SI K n k out h1;obtain⟨a,e1,h4⟩:=Mg A (Bf K n k out) h;exact⟨(k.toNat,d)::a,by simp only[Al,List.map_cons]at e1|-;rw[e1];congr 1;omega,h2.dQ h4⟩
def Ct(K:List M4):Nat->Int->Nat|0=>λ_=>1|n+1=>λtop=>((K.getD top.toNat []).foldl (λd k=>max d<|Ct K n k) 0)+1
theorem AeL(g:Int->Nat):∀(ks:M4)(d:Nat),ks.foldl (λd k=>max d<|g k) d=max d (ks.foldl (λd k=>max d<|g k) 0):=by intro ks;induction ks<;>intros<;>grind
theorem Lq(h:As K a c b):∀(n:Nat),(∀p∈c,p.1<n)->(∀p∈c,Ct K n (p.1:Int)=p.2)/\(Al c).foldl (λd k=>max d<|Ct K n k) 0=EB c:=by induction h with|nil a=>intro n _;exact⟨λp f=>(by cases f),rfl⟩|@cons a t b ks c j ht hf l i2=>
   intro n i;have q:t<n:=i _ (zR ..);obtain⟨g,rfl⟩:∃g,n=g+1:=⟨n-1,Oa⟩;have m:=j.lt;have e1:Ct K (g+1) (t:Int)=EB ks+1:=by rw[Ct];dsimp only;rw[zP,zf,ht,Option.getD_some,(l g λp f=>G7<|(m p f).2).2]
   obtain⟨r,o⟩:=i2 (g+1) λp f=>i p<|zV _ f;refine⟨λp f=>?_,?_⟩
   .grind
   rw[show Al ((t,EB ks+1)::c)=(t:Int)::Al c from rfl,List.foldl_cons,AeL,o,e1,EB];omega
theorem AeM(n:Nat):GM<|Ld 0 n:=λi x hx=>by rw[Ld,zi,Z6]at hx;obtain⟨j,a,rfl⟩:=hx;obtain⟨h1,h2⟩:=zL.1 a;rw[List.getElem_range']at h2;omega
theorem AeN(K:List M4)(A:M4):(Y (A.foldl (λo k=>Bf K (Y K) k o) [])=Y K/\GM (A.foldl (λo k=>Bf K (Y K) k o) [])/\∀d∈A,Ct K (Y K) d<=64)↔∃S,CD K (Y K) [] 0=Z S/\Al S=A:=by
 constructor
 .rintro⟨h1,h2,h3⟩;obtain⟨g,rfl,b⟩:=Mg A [] h2;rw[h1]at b;have hd:=(Lq b (Y K) λp a=>(b.lt p a).2).1;have c:=Pm b [] (λp a=>by rw[<-hd p a];exact h3 _<|zU.2 ⟨p,a,rfl⟩);grind
 rintro⟨S,c,rfl⟩;obtain⟨b,hd⟩:=De (Y K) (.nil 0) (λp a=>by cases a) c;rw[zT]at b;have f:=Ws b (Y K) [] (λp a=>(b.lt p a).2) rfl NLN;rw[List.nil_append]at f;rw[f];refine⟨by rw[Zn];omega,AeM _,λd c=>?_⟩;obtain⟨p,a,rfl⟩:=zU.1 c;rw[(Lq b (Y K) λp a=>(b.lt p a).2).1 p a];grind
theorem Ae{a b:Bool}(h:a=b):jN (.bool a)=jN (.bool b):=by rw[h]
def nmI(c:Int):Bool:=decide (97<=c/\c<=122\/48<=c/\c<=57\/c=46\/c=95\/c=45\/c=58)
def dgI(c:Int):Bool:=decide (48<=c/\c<=57)
def Lk(l:N9):Bool:=l.all λc=>nmI (c.toNat:Int)
def vnB(s:M1):Bool:=decide (1<=s.size/\s.size<=32)&&Lk s.data.toList
theorem Ol(s:M1)(k:Nat)(h:k<s.size):s.data.toList.take (k+1)=s.data.toList.take k++[s[k]]:=by rw[zY P4];rfl
theorem Rj(l:N9)(c:UInt8):Lk (l++[c])=(Lk l&&nmI (c.toNat:Int)):=by simp[Lk,List.all_append]
theorem Pk(s:M1)(k:Nat)(h:k<s.size)(a:nmI ((s[k]).toNat:Int)=jI):Lk s.data.toList=jI:=by rw[<-Z3 (k+1) s.data.toList,Lk,List.all_append,Ol s k h,List.all_append];simp[a]
def ofL(l:N9):M1:=⟨l.toArray⟩
def JB(s:M1):N9:=s.data.toList
theorem ND(s:M1):Y (JB s)=s.size:=by simp[JB]
theorem In(h:s.size=0):s=jX:=by simp_all
theorem DX(h:s.size≠0):s.toList.isEmpty=jI:=by rw[z9];cases s with|mk d=>cases d with|mk l=>simp[ByteArray.size]at h|-;exact h
def Zd(c:Int):Bool:=decide (97<=c/\c<=122)
def ltB(c:UInt8):Bool:=Zd (c.toNat:Int)
def wdI(c:Int):Bool:=Zd c||dgI c||decide (c=95)
def PX(c:UInt8):Bool:=wdI (c.toNat:Int)
def nmB(c:UInt8):Bool:=nmI (c.toNat:Int)
def NC(p:UInt8->Bool)(s:M1)(j:Nat):Nat:=j+Y (((JB s).drop j).takeWhile p)
theorem KV(s:M1)(j:Nat)(h:j<s.size):(JB s).drop j=s[j]::(JB s).drop (j+1):=by
 have a:j<Y (JB s):=by rw[ND];exact h
 rw[Z7 a];rfl
theorem U5{j:Nat}(h:j<s.size)(a:p s[j]=jG):NC p s j=NC p s (j+1):=by grind[NC,List.takeWhile_cons,KV]
theorem U4{j:Nat}(h:j<s.size)(a:p s[j]=jI):NC p s j=j:=by grind[NC,List.takeWhile_cons,KV]
theorem Zf{j:Nat}(h:s.size<=j):NC p s j=j:=by simp_all[ND,NC,List.drop_of_length_le]
def Lc(p:UInt8->Bool)(r:N9):Nat:=Y<|r.takeWhile p
theorem Aex(p:UInt8->Bool)(s:M1)(j:Nat):NC p s j=j+Lc p ((JB s).drop j):=rfl
theorem U3(p:UInt8->Bool)(s:M1):NC p s 0=Lc p (JB s):=by simp[Aex]
def Im:List N9:=[[108,101,116],[119,104,101,110],[101,108,115,101],[100,101,110,121],[103,114,97,110,116],[105,102],[116,104,101,110],[110,111,116],[97,110,100],[111,114],[105,110],[119,105,116,104,105,110],[115,105,122,101],[116,114,117,101],[102,97,108,115,101]]
def NE(l:N9):Bool:=Im.contains l
def AB(ss:M6)(k:Nat):M1:=ss.getD k jX
theorem Dw(ss:M6)(k:Nat)(h:k<Y ss):AB ss k=ss[k]:=by simp[AB,List.getD,h]
structure Am(w:jD)(a:M3)(n c:Nat)(ss:M6):Prop where
 len:n=Y ss
 cap:n<=c
 aH:c<=maxLen
 bE:∀j,j<n->(AB ss j).size<=maxLen
 cells:∀j,j<n->∃b off,a=Z (jB b off V)/\b<R (Q w)/\jE w ⟨b,off+j,V⟩=Z (jA<|AB ss j)
theorem Am.below{B:Nat}{a:M3}{n c:Nat}(h:Am w a n c ss)(d:Below B w w')(hB:R (Q w)<=B):Am w' a n c ss:=⟨h.len,h.cap,h.aH,h.bE,λj i=>by obtain⟨b,f,k,g,hc⟩:=h.cells j i;exact⟨b,f,k,zG g d.size,by rw[<-hc];exact d.cell (p:=⟨b,f+j,V⟩)<|zG g hB⟩⟩
theorem Am.at{a:M3}{n c:Nat}(h:Am w a n c ss)(f:0<n):∃b d,a=Z (jB b d V)/\b<R (Q w)/\∀j,j<n->jE w ⟨b,d+j,V⟩=Z (jA<|AB ss j):=by grind[Am.cells]
def sl(a b:M1):Bool:=Op.bytesLess a.toList b.toList
theorem Ny:∀(x y:N9),Op.bytesLess x y=decide (x<y)|[],[]=>by simp[Op.bytesLess]|_::_,[]=>by simp[Op.bytesLess]|[],_::_=>by simp[Op.bytesLess]|a::x,b::y=>by rw[Op.bytesLess,Ny x y];grind[List.cons_lt_cons_iff]
theorem Abu(a b:M1):sl a b=jG↔a.data.toList<b.data.toList:=by grind[sl,Ny,Go.ByteArray.toList_eq]
theorem Kb{a b c:M1}(h:sl a b=jG)(k:sl b c=jG):sl a c=jG:=by grind[Abu]
theorem Ep(a:M1):sl a a=jI:=by grind[Abu]
theorem Og{a b:M1}(h:a.data.toList=b.data.toList):a=b:=by cases a with|mk x=>cases b with|mk y=>cases x;cases y;simp at h;subst h;rfl
theorem VN(a b:M1)(h1:sl a b=jI)(h2:sl b a=jI):a=b:=by grind[Abu,Og]
theorem Y8{a b:M1}(h:sl a b=jG):sl b a=jI:=by grind[Ep,Kb]
def Ch(ss:M6):Bool:=decide (ss.Pairwise λa b=>sl a b=jG)
def JC(ss:M6):Bool:=ss.all vnB
def Ax(ss:M6):Bool:=decide (Y ss<=64)&&(JC ss&&Ch ss)
theorem Y9(ss:M6):JC ss=jG↔∀j,j<Y ss->vnB (AB ss j)=jG:=by grind[JC,Dw,zI,zo,zk]
theorem Ac9(ss:M6)(h:∀j,j<Y ss->vnB (AB ss j)=jG):JC ss=jG:=(Y9 ss).2 h
theorem Za(ss:M6)(j:Nat)(a:j<Y ss)(h:vnB (AB ss j)=jI):JC ss=jI:=by grind[Y9]
theorem Gu(ss:M6):Ch ss=jG↔∀i j,i<j->j<Y ss->sl (AB ss i) (AB ss j)=jG:=by grind[Ch,List.pairwise_iff_getElem,Dw]
theorem Zb(ss:M6)(i j:Nat)(a:i<j)(b:j<Y ss)(h:sl (AB ss i) (AB ss j)=jI):Ch ss=jI:=by grind[Gu]
theorem AhQ(ss:M6)(n:Nat)(h:∀i,0<i->i<n->sl (AB ss<|i-1) (AB ss i)=jG):∀d i,i+d+1<n->sl (AB ss i) (AB ss<|i+d+1)=jG:=by intro d;induction d<;>grind[Kb]
theorem Wl(ss:M6)(h:∀i,0<i->i<Y ss->sl (AB ss<|i-1) (AB ss i)=jG):Ch ss=jG:=by rw[Gu];intro i j a b;have:=AhQ ss (Y ss) h (j-i-1) i Oa;grind
theorem U0(ss:M6)(h:64<Y ss):Ax ss=jI:=by grind[Ax]
theorem Sz(ss:M6)(h:Y ss<=64):Ax ss=(JC ss&&Ch ss):=by simp[Ax,h]
theorem AhR(p:UInt8->Bool)(a:N9):(a.take<|Lc p a).all p=jG:=by
 have:a.take (Lc p a)=a.takeWhile p:=by obtain⟨t,ht⟩:=List.takeWhile_prefix p (l:=a);grind[Lc]
 rw[this,List.all_takeWhile]
set_option maxHeartbeats 400000
theorem JQ(c:Int)(w:jD):Calls jZ 177 #[T .u8 c] w λe w'=>e=jN (.bool<|dgI c)/\w'=w:=by go_enter func177,ntmps177;go_wp2;all_goals go_ret;refine⟨Ae ?_,rfl⟩;rw[zM];simp_all[dgI];try omega
set_option maxHeartbeats 800000
theorem Kf(c:Int)(w:jD):Calls jZ 129 #[T .u8 c] w λe w'=>e=jN (.bool<|nmI c)/\w'=w:=by go_enter func129,ntmps129;go_wp2;all_goals go_ret;refine⟨Ae ?_,rfl⟩;rw[zM];simp_all[nmI];try omega
theorem Na(c:Int)(w:jD):Calls jZ 153 #[T .u8 c] w λe w'=>e=jN (.bool<|nmI c)/\w'=w:=by go_enter func153,ntmps153;go_wp2_with (go_at_call 177;refine(JQ _ _).mono ?_;rintro e w' ⟨rfl,rfl⟩);all_goals go_ret;refine⟨Ae ?_,rfl⟩;rw[zM];simp_all[nmI,dgI];try omega
theorem Ih(s:M1)(w:jD)(hs:s.size<=maxLen):Calls jZ 112 #[jA s] w λe w'=>e=jN (.bool<|decide (s.size<=32)&&Lk s.data.toList)/\w'=w:=by
 unfold maxLen at hs;by_cases f:s.size<=32
 .go_enter func112,ntmps112;go_wp2;go_loop[3,9] (λ_ i=>∃k:Nat,k<=s.size/\i=T .i64 k/\Lk (s.data.toList.take k)=jG) (λ_ i=>s.size-(intOf i).toNat);case atStart=>exact⟨0,zH _,rfl,rfl⟩
  obtain⟨k,j,rfl,g⟩:=hrel;have c:=Ab g;by_cases d:k<s.size
  .cases b:nmI ((s[k]).toNat:Int)
   .have h:=Ab<|Pk s k d b;have a:=Ab b;go_wp2_with (go_at_call 153;refine(Na _ _).mono ?_;rintro e w' ⟨rfl,rfl⟩;rw[Aa a]);go_ret;exact⟨Ae<|by rw[Aa h];simp,rfl⟩
   have a:=Ab b;go_wp2_with (go_at_call 153;refine(Na _ _).mono ?_;rintro e w' ⟨rfl,rfl⟩;rw[Aa a]);go_round;case rel=>exact⟨k+1,Oa,O0,by rw[Ol s k d,Rj,Aa c,Aa a];rfl⟩
   simp[intOf];omega
  go_wp2;go_ret;refine⟨Ae ?_,rfl⟩;have:=Aa c;rw[zh Od]at this;simp[this]
 go_enter func112,ntmps112;go_wp2;go_ret;exact⟨Ae<|by simp[f],rfl⟩
theorem DC(s:M1)(w:jD)(hs:s.size<=maxLen):Calls jZ 75 #[jA s] w λe w'=>e=jN (.bool<|vnB s)/\w'=w:=by
 unfold maxLen at hs;by_cases h1:s.size<1
 .have g:s.size=0:=Oa;go_enter func75,ntmps75;go_wp2;go_ret;exact⟨Ae<|by simp[vnB,g],rfl⟩
 by_cases c:s.size<=32
 .have h:¬ ((s.size:Int)<1):=Oa;have j:¬ ((32:Int)<(s.size:Int)):=Oa;go_enter func75,ntmps75;go_wp2;go_loop[3] (λi=>∃k:Nat,k<=s.size/\i=T .i64 k/\Lk (s.data.toList.take k)=jG) (λi=>s.size-(intOf i).toNat);case atStart=>exact⟨0,zH _,rfl,rfl⟩
  obtain⟨k,n,rfl,l⟩:=hrel;have d:=Ab l;by_cases f:k<s.size
  .cases b:nmI ((s[k]).toNat:Int)
   .have m:=Ab<|Pk s k f b;have a:=Ab b;go_wp2_with (go_at_call 129;refine(Kf _ _).mono ?_;rintro e w' ⟨rfl,rfl⟩;rw[Aa a]);go_ret;exact⟨Ae<|by rw[vnB,Aa m];simp,rfl⟩
   have a:=Ab b;go_wp2_with (go_at_call 129;refine(Kf _ _).mono ?_;rintro e w' ⟨rfl,rfl⟩;rw[Aa a]);go_round;case rel=>exact⟨k+1,Oa,O0,by rw[Ol s k f,Rj,Aa d,Aa a];rfl⟩
   simp[intOf];omega
  go_wp2;go_ret;refine⟨Ae ?_,rfl⟩;have:=Aa d;rw[zh Od]at this;simp[vnB,this,c];omega
 have h:¬ ((s.size:Int)<1):=Oa;have j:((32:Int)<(s.size:Int)):=Oa;go_enter func75,ntmps75;go_wp2;go_ret;exact⟨Ae<|by simp[vnB,c],rfl⟩
theorem EH(s:M1)(w:jD)(hs:s.size<=maxLen):Calls jZ 68 #[jA s] w λe w'=>e=jN (.bool<|vnB s)/\w'=w:=by
 by_cases h1:s.size=0
 .have he:s=jX:=by cases s with|mk d=>cases d with|mk l=>simp[ByteArray.size]at h1;subst h1;rfl
  subst he;go_enter func68,ntmps68;go_wp2;go_ret;exact⟨rfl,rfl⟩
 have a:s.toList.isEmpty=jI:=by rw[z9];cases s with|mk d=>cases d with|mk l=>simp[ByteArray.size]at h1|-;exact h1
 go_enter func68,ntmps68;go_wp2_with (go_at_call 112;refine(Ih _ _ hs).mono ?_;rintro e w' ⟨rfl,rfl⟩);go_ret;refine⟨Ae ?_,rfl⟩;rw[vnB];congr 1;rw[decide_eq_decide];omega
theorem Aml{a c:jD}(d:Below (R<|Q a) a c):(∀b o,b<R (Q a)->jE c (jB b o V)=jE a (jB b o V))/\(∀b o,b<R (Q a)->jY c (jB b o V)=jY a (jB b o V)):=by grind[Go.RowKit.Below.frozen,Go.RowKit.Below.cell]
structure Ah(w:jD)(b:Nat)(cs:Array jF)(t:jR):Prop where out:(Q w)[b]?=Z (jC cs t (0,0))
theorem Ah.lt{b:Nat}(h:Ah w b cs t):b<R (Q w):=(Array.getElem?_eq_some_iff.1 h.out).1
theorem Ah.below{B:Nat}(h:Ah w b cs t)(a:Below B w w')(hB:b<B):Ah w' b cs t:=⟨(a.block b hB).trans h.out⟩
theorem Ah.aB{B:Nat}(h:Ah w b cs t)(a:Below B w w')(hB:R (Q w)<=B):Ah w' b cs t:=h.below a<|Nat.lt_of_lt_of_le h.lt hB
theorem Ah.alloc{w:jD}{b:Nat}{cs:Array jF}{t:jR}(h:Ah w b cs t)(o:Obj):Ah (jK w o) b cs t:=⟨(Below.heap_alloc w o b h.lt).trans h.out⟩
theorem Ah.new(w:jD)(cs:Array jF)(t:jR):Ah (jK w<|jC cs t) (R<|Q w) cs t:=⟨Lz w _⟩
theorem Ah.set{b:Nat}(h:Ah w b cs t)(j:Nat)(u:jF):Ah (jM w (jB b j V) u) b (cs.setIfInBounds j u) t:=⟨heap_setCell_same w b j cs t u h.out⟩
theorem Ah.aJ{b:Nat}(h:Ah w b cs t){p:jH}(a:b≠jW p)(u:jF):Ah (jM w p u) b cs t:=⟨(L2 w p b u a).trans h.out⟩
theorem Ah.cell{w:jD}{b:Nat}{cs:Array jF}{t:jR}(h:Ah w b cs t)(j:Nat):jE w (jB b j V)=cs[j]?:=by have:=cell_of_row w b j cs t (0,0) h.out;omega
theorem Ah.frozen{w:jD}{b:Nat}{cs:Array jF}{t:jR}(h:Ah w b cs t)(j:Nat):jY w (jB b j V)=jI:=frozen_of_row w b j cs t h.out
theorem MU{k:IntKind}{a b:Int}(h:a=b):jN (.int k a)=jN (.int k b):=by rw[h]
theorem Am.bB{base e:Nat}{a:M3}{c:Nat}(h:jP w base e 1 (X a n c) n<|ss.map Value.string)(hs:∀j,j<n->(AB ss j).size<=maxLen):Am w a n c ss:=by
 have d:Y ss=n:=by simpa using h.1
 have f:=h;obtain⟨b,h0⟩|⟨g,cap,m,b,o,hg,i,k,p,q⟩:=h.2
 .simp only[Value.slice.injEq]at b;obtain⟨rfl,rfl,rfl⟩:=b;exact⟨d.symm,NLN,zH _,hs,λj l=>Oa⟩
 simp only[Value.slice.injEq,true_and]at b;obtain⟨rfl,rfl⟩:=b;refine⟨d.symm,i,k,hs,λj l=>⟨g,0,rfl,?_,?_⟩⟩
 .grind
 have:=f.cellAt j Oa;grind[Dw]
theorem Gd:(jZ.info? 9).map (λi=>(i.zero,i.size,i.bytes))=Z (Z<|jA jX,1,16):=Ok
theorem CI{a:Array jF}(h:∀b:jD,Below (R<|Q w) w b->Ah b (R<|Q w) a t->P b):P<|jK w<|jC a t:=by grind[Go.RowKit.Below.refl,Go.RowKit.Below.alloc,Ah.new]
theorem Le{a b:Array jF}(h:∀c:jD,Below (jh<|Q w) w c->Ah c (jh<|Q w) a t->Ah c (jh (Q w)+1) b u->P c):P<|jK (jK w<|jC a t)<|jC b u:=CI (P:=P) λc B R=>by have e:jh (Q<|jK w<|jC a t)=jh (Q w)+1:=Oz;exact h c (((Below.refl (jh<|Q w) w).alloc NLN _).trans<|B.mono Oz) ((Ah.new w _ _).aB B NLN) (by rw[<-e];exact R)
theorem TC{base:Nat}{e:jR}{size:Nat}{c:Nat}{a:N4}(h:jP w base e size (X x n c) n a)(hm:m<=n):jP w base e size (X x m c) m<|a.take<|m*size:=by
 have f:m*size<=n*size:=Nat.mul_le_mul_right _ hm;refine⟨by rw[List.length_take,h.1];omega,?_⟩;obtain⟨b,i⟩|⟨g,cap,d,b,h1,h2,h3,h4,h5,h6⟩:=h.2
 .grind
 cases b;refine .inr ⟨g,c,d,rfl,h1,h2,Oa,h4,h5,?_⟩;grind
theorem Ai{base:Nat}{e:jR}{size:Nat}{B:Nat}{a:N4}(h:jP w base e size v n a)(b:Below B w w')(hB:R (Q w)<=B):jP w' base e size v n a:=by
 refine⟨h.1,?_⟩;obtain c|⟨g,cap,d,f,h1,h2,h3⟩:=h.2
 .exact .inl c
 exact .inr ⟨g,cap,d,f,h1,(b.block g<|Nat.lt_of_lt_of_le (Array.getElem?_eq_some_iff.1 h2).1 hB).trans h2,h3⟩
theorem Af{base e size n:Nat}{a:N4}(h:jP w base e size v n a):∃x c,v=X x n c/\(0<n->∃g,x=Z (jB g 0 V)/\base<=g/\∀j u,a[j]?=Z u->jE w (jB g j V)=Z u):=by
 obtain⟨rfl,rfl⟩|⟨g,cap,d,rfl,b,_⟩:=h.2
 .grind
 refine⟨_,_,rfl,λ_=>⟨g,rfl,b,λj u hu=>?_⟩⟩;have:=h.cells (g:=g) rfl j u hu;have f:((jB g 0 V):jH).add j=(jB g j V):=by unfold Addr.add;split<;>simp_all
 grind
theorem Ac{base:Nat}{e:jR}{size:Nat}{a:N4}(h:jP w base e size v n a)(hd:∀q,jO v=Z q->(Q w')[q]?=(Q w)[q]?):jP w' base e size v n a:=by
 refine⟨h.1,?_⟩;obtain h2|⟨g,cap,c,b,h3,hg,h4⟩:=h.2
 .exact .inl h2
 exact .inr ⟨g,cap,c,b,h3,(hd g<|by rw[b];rfl).trans hg,h4⟩
theorem Ag{base:Nat}{e:jR}{size:Nat}{a:N4}(h:jP w base e size v n a)(p:jH)(u:jF)(b:∀q,jO v=Z q->q≠jW p):jP (jM w p u) base e size v n a:=by grind[Go.heap_setCell_other,Ac]
theorem Ad{B a size:Nat}{e T:jR}{c:N4}(R:Ah w a cs T)(h:jP w B e size v n c)(d:T≠e):jO v≠Z a:=λhq=>by
 obtain⟨b,_⟩|⟨g,cap,f,b,_,hg,_⟩:=h.2
 .rw[b]at hq;cases hq
 rw[b]at hq;obtain rfl:g=a:=P1;have:=R.out.symm.trans hg;simp at this;exact d this.2
end Go.Proofs.YtlcfoihgfcmfeaaGreatDoor

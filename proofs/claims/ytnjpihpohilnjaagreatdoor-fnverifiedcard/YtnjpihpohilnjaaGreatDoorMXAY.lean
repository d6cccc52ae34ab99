import Derived.Test.YtnjpihpohilnjaaGreatDoorMXAK
import Derived.Deep.AppendLies
import Derived.Deep.RegionLaw
import Derived.Lib.SmallJoins
import Derived.Test.YtnjpihpohilnjaaGreatDoorMXAF
open List renaming length->T,length->ja
open Option renaming none->U,some->Q,some->jg
open Array renaming size->R
open Go renaming World->jB,Value->jF,Addr->jG,TypeId->jV
open Bool renaming true->jD,false->jE
namespace Go.Proofs.YtnjpihpohilnjaaGreatDoor
open Proofs.Tryz
open Value renaming int->V,slice->Y,string->jC,ownBlock->jL,agg->jM,pointer->jP,tuple->jQ,iface->jU,nilIface->jX
open IntKind renaming i64->X
open World renaming heap->Z,cell?->jI,setCell->jJ,alloc->jK,ownsRow->jO,drew->jR
open Addr renaming mk->jA,block->jT
open Obj renaming cells->jH
open Ending renaming returned->jN
open Proofs.Tryz renaming prog->jZ
open Go.RowKit
set_option linter.unusedVariables false
set_option maxRecDepth 100000
set_option maxHeartbeats 3200000
variable{ops:Array Oper}{tmps:Array jF}{first:Bool}{l K:L4}{PK:L2}{N:L6}{rest:List Oper}{b j:L7}{base n c m:Nat}{S:Nat->Prop}{o:Oper}{x:L3}{P:Program}{t:jV}{v f d u:jF}{w w':jB}
def Aar (x:Int):K9:=ByteArray.empty.push<|UInt8.ofNat x.toNat
theorem Qc (x:Int):(Aar x).size=1:=rfl
theorem Aka (a:jB)(x:Int):(convert 22 9 (Y (Q ⟨R<|Z a,0,U⟩) 1 1)).run jZ (jK a<|jH #[V .u8 x] 5)= .ok (jC<|Aar x) (jK a<|jH #[V .u8 x] 5):=by
 rw[run_convert_bytes_string _ _ _ _ _ _ _ underlying22 underlying5 underlying9];rw[run_bytesToString _ _ _ _ [x]]
 .rfl
 .have h:jI (jK a<|jH #[V .u8 x] 5) ⟨R<|Z a,0,U⟩=Q (V .u8 x):=Ox;simp[loadCells,h,go_sem]
theorem GE (a b:K9):(a++b).size=a.size+b.size:=S4
structure AU (lo hi:Nat) (w w':jB):Prop where
 os:w'.os=w.os
 tape:w'.tape=w.tape
 output:w'.output=w.output
 size:R (Z w)<=R (Z w')
 block:∀k,k<R (Z w)->(k<lo\/hi<=k)->(Z w')[k]? =(Z w)[k]?
theorem AU.trans {lo hi:Nat}{a b c:jB}(h:AU lo hi a b)(k:AU lo hi b c):AU lo hi a c:=
 ⟨k.os.trans h.os,k.tape.trans h.tape,k.output.trans h.output,zB h.size k.size,λi hi d=>(k.block i (zL hi h.size) d).trans<|h.block i hi d⟩
theorem AU.aH {lo hi B:Nat}(h:Below B w w')(a:R (Z w)<=B):AU lo hi w w':=
 ⟨h.os,h.tape,h.output,h.size,λk b _=>h.block k Oa⟩
theorem AU.setCell {lo hi:Nat}(w:jB)(p:jG)(u:jF)(a:lo<=jT p)(b:jT p<hi):AU lo hi w<|jJ w p u:=
 ⟨rfl,rfl,rfl,Ox,λk _ c=>K0 w p k u Oa⟩
theorem EI {B lo hi:Nat}{a w2:jB}(h:Below B w a)(t:AU lo hi a w2)(b:B<=lo)(hs:B<=R (Z a)):Below B w w2:=
 h.trans ⟨t.os,t.tape,t.output,t.size,λk c=>t.block k Oa<|.inl Oa⟩
theorem Fz {lo:Nat}{a:L3}(h:jO w lo 9 1 (Y a n c) n b)(i:∀x,a=Q x->(Z w')[jT x]? =(Z w)[jT x]?):jO w' lo 9 1 (Y a n c) n b:=by
 refine⟨h.1,?_⟩;obtain j|⟨g,cap,d,hv,h3,hg,f⟩:=h.2
 .grind
 .refine .inr ⟨g,cap,d,hv,h3,?_,f⟩
  grind
theorem CF {base' e n:Nat}{a:L7}(h:jO w base e 1 v n a)(b:base'<=base):jO w base' e 1 v n a:=by
 refine⟨h.1,?_⟩;obtain f|⟨g,cap,c,hv,h3,d⟩:=h.2
 .grind
 .exact .inr ⟨g,cap,c,hv,zB b h3,d⟩
set_option maxHeartbeats 1600000
def okB (first:Bool) (s x:K9):Bool:=first||sl s x
structure Dm (aB:L4) (first:Bool) (s best:K9) (found:Bool):Prop where
 yes:found=jD->best∈aB/\okB first s best=jD/\∀x∈aB,okB first s x=jD->sl x best=jE
 no:found=jE->∀x∈aB,okB first s x=jE
theorem Dm.start (first:Bool)(s a:K9):Dm [] first s a jE:=⟨(λh=>Qy),(λ_ x hx=>Q9)⟩
theorem Dm.skip {a:L4}{s b x:K9}{c:Bool}(h:Dm a first s b c)(hx:okB first s x=jE):Dm (a++[x]) first s b c:=by
 refine⟨λd=>?_,λd y hy=>?_⟩
 all_goals grind [Dm.yes,Dm.no]
theorem Dm.aM {b:L4}{s a x:K9}(h:Dm b first s a jD)(hx:sl x a=jE):Dm (b++[x]) first s a jD:=by
 obtain⟨c,d,h3⟩:=h.yes rfl;refine⟨λ_=>⟨Z5 _ c,d,λy hy g=>?_⟩,λf=>by cases f⟩
 grind
theorem Dm.take {b:L4}{s c x:K9}{a:Bool}(h:Dm b first s c a)(hx:okB first s x=jD)(g:a=jD->sl x c=jD):Dm (b++[x]) first s x jD:=by
 refine⟨λ_=>⟨Ox,hx,λy hy d=>?_⟩,λf=>by cases f⟩;obtain hy|hy:=zO.1 hy
 .cases a with
  |false=>grind [Dm.no]
  |true=>
    have h3:=(h.yes rfl).2.2 y hy d
    grind [Jc]
 grind [EN]
theorem Ah0 (first:Bool)(s x:K9)(a:first=jE)(h:(Op.bytesLess x.toList s.toList||x.toList==s.toList)=jD):okB first s x=jE:=by
 subst a;simp only[okB,Bool.false_or];rw[Bool.or_eq_true]at h;obtain h|h:=h
 .exact XS h
 .have:x=s:=(Il x s).1 h
  grind [EN]
theorem AjD (first:Bool)(s x:K9)(h:(Op.bytesLess x.toList s.toList||x.toList==s.toList)=jE):okB first s x=jD:=by grind [eqS,U5,Il,sl,okB]
def Ah1 (ss:L4) (first:Bool) (s:K9) (e:Ending):Prop:=∃best found,e=jN (jQ #[jC best,.bool found])/\Dm ss first s best found
theorem Sd (a:L3)(n c:Nat)(ss:L4)(s:K9)(first:Bool)(w:jB)(h:Aq w a n c ss):
  Calls jZ 134 #[Y a n c,jC s,.bool first] w λe w'=>Ah1 ss first s e/\w'=w:=by
 have u:n<=9223372036854775807:=Q1;have p:=Ab h.len;go_enter func134,ntmps134
 go_wp2
 go_loop [8,9,11,14] (λb f _ i=>∃ (k:Nat) (l:K9) (d:Bool),k<=n/\i=V X k/\b=jC l/\f= .bool d/\Dm (ss.take k) first s l d) (λ_ _ _ i=>n-(intOf i).toNat)
 case atStart=>exact⟨0,_,jE,zE _,rfl,rfl,rfl,Dm.start _ _ _⟩
 case round=>
  obtain⟨k,l,d,v,rfl,rfl,rfl,hi⟩:=hrel;by_cases r:k<n
  .obtain⟨b,x,t,_,hc⟩:=h.cells k r;subst t;have g:=Ab<|Dw ss k<|H2<|Aa p;cases q:(Op.bytesLess (AG ss k).toList s.toList||(AG ss k).toList==s.toList)
   .have o:=AjD first s (AG ss k) q
    have j:=Ab o;cases d
    .cases first
     all_goals
      go_wp2
      go_round
      case rel=>exact⟨k+1,_,jD,Oa,O1,rfl,rfl,by rw[Aa g];exact hi.take (Aa j) λh=>Qy⟩
      case measure=>simp[intOf];omega
    .cases m:Op.bytesLess (AG ss k).toList l.toList
     .cases first
      all_goals
       go_wp2
       go_round
       case rel=>exact⟨k+1,_,jD,Oa,O1,rfl,rfl,by rw[Aa g];exact hi.aM m⟩
       case measure=>simp[intOf];omega
     .cases first
      all_goals
       go_wp2
       go_round
       case rel=>exact⟨k+1,_,jD,Oa,O1,rfl,rfl,by rw[Aa g];exact hi.take (Aa j) λ_=>m⟩
       case measure=>simp[intOf];omega
   .cases first
    .have j:=Ab<|Ah0 jE s (AG ss k) rfl q;go_wp2
     go_round
     case rel=>exact⟨k+1,_,d,Oa,O1,rfl,rfl,by rw[Aa g];exact hi.skip<|Aa j⟩
     case measure=>simp[intOf];omega
    .have o:okB jD s (AG ss k)=jD:=rfl;have j:=Ab o;cases d
     .go_wp2
      go_round
      case rel=>exact⟨k+1,_,jD,Oa,O1,rfl,rfl,by rw[Aa g];exact hi.take (Aa j) λh=>Qy⟩
      case measure=>simp[intOf];omega
     .cases m:Op.bytesLess (AG ss k).toList l.toList
      .go_wp2
       go_round
       case rel=>exact⟨k+1,_,jD,Oa,O1,rfl,rfl,by rw[Aa g];exact hi.aM m⟩
       case measure=>simp[intOf];omega
      .go_wp2
       go_round
       case rel=>exact⟨k+1,_,jD,Oa,O1,rfl,rfl,by rw[Aa g];exact hi.take (Aa j) λ_=>m⟩
       case measure=>simp[intOf];omega
  .have e1:ss.take k=ss:=zf<|H2<|Aa p;rw[e1]at hi;go_wp2
   go_ret2
   exact⟨⟨l,d,rfl,hi⟩,rfl⟩
theorem Se {K:L4}(h:BM K=jD):K.Nodup:=by grind [BM,EN,List.Pairwise.imp]
theorem Sf:∀(K l:L4),K.Nodup->(∀x∈K,x∈l)->T K<=T l
 |[],_,_,_=>zE _
 |x ::K,l,hn,hs=>by
  obtain⟨l1,a,rfl⟩:=List.append_of_mem<|hs x Ox;rw[List.nodup_cons]at hn;have:=Sf K (l1++a) hn.2 (λy hy=>by
   have b:y≠x:=λe=>hn.1 (by rw[<-e];exact hy);have hm:=hs y (by simp[hy]);simp only[zO,zh]at hm|-;obtain h|h|h:=hm
   .exact .inl h
   .exact H9 h b
   .exact .inr h)
  simp only[zC,List.length_cons]at this|-;omega
theorem Ph:∀(K M:L4),BM K=jD->BM M=jD->(∀x,x∈K↔x∈M)->K=M
 |[],[],_,_,_=>rfl
 |[],y ::M,_,_,h=>by have:=(h y).2 Ox;cases this
 |x ::K,[],_,_,h=>by have:=(h x).1 Ox;cases this
 |x ::K,y ::M,hK,hM,h=>by
  rw[BM,zG,List.pairwise_cons]at hK hM;have a:x=y:=by
   obtain e|hx:=zh.1<|(h x).1 Ox
   .exact e
   .obtain e|hy:=zh.1 ((h y).2 Ox)
    all_goals grind [XS]
  subst a
  congr 1
  refine Ph K M (by rw[BM,zG];exact hK.2) (by rw[BM,zG];exact hM.2) λz=>?_
  grind [EN]
structure Ba (l K:L4):Prop where
 cU:BM K=jD
 mem:∀x,x∈K↔x∈l
theorem Ba.aP {M:L4}(h:Ba l K)(k:Ba l M):K=M:=Ph K M h.cU k.cU λx=>(h.mem x).trans (k.mem x).symm
theorem Ba.len (h:Ba l K):T K<=T l:=Sf K l (Se h.cU) λx hx=>(h.mem x).1 hx
structure Vn (l K:L4) (s:K9) (ok:Bool):Prop where
 cU:BM K=jD
 yes:ok=jD->s∈l/\∀x,x∈K↔x∈l/\sl x s=jD
 no:ok=jE->∀x,x∈K↔x∈l
theorem Vn.start {t s:K9}(h:Dm l jD t s first):Vn l [] s first:=by
 refine⟨rfl,λa=>⟨(h.yes a).1,λx=>⟨(λhx=>Q9),λ⟨hx,b⟩=>?_⟩⟩,λa x=>⟨(λhx=>Q9),λhx=>?_⟩⟩
 .have:=(h.yes a).2.2 x hx rfl
  grind
 .have:=h.no a x hx;cases this
theorem Sg (x s:K9):sl x s=jD\/x=s\/sl s x=jD:=by grind [U5,sl]
theorem Vn.step {s b:K9}(h:Vn l K s jD)(k:Dm l jE s b first):Vn l (K++[s]) b first:=by
 obtain⟨hs,hm⟩:=h.yes rfl;have c:BM (K++[s])=jD:=by
  rw[BM,zG,List.pairwise_append];refine⟨by have:=h.cU;rwa[BM,zG]at this,Ox,λx hx y hy=>?_⟩
  grind
 refine⟨c,λa=>?_,λa=>?_⟩
 .obtain⟨d,f,h3⟩:=k.yes a
  grind [Jc,sl,okB,Sg]
 .intro x;constructor
  .grind
  .intro hx;obtain hc|hc|hc:=Sg x s
   .grind
   .grind
   .have:=k.no a x hx
    grind [okB]
theorem Vn.lt {s:K9}(h:Vn l K s jD):T K<T l:=by
 obtain⟨hs,hm⟩:=h.yes rfl;have a:s ∉ K:=λb=>by have:=((hm s).1 b).2;rw[EN]at this;cases this
 have:=Sf (s ::K) l (List.nodup_cons.2 ⟨a,Se h.cU⟩) (λx hx=>by
  obtain e|hx:=zh.1 hx
  .subst e;exact hs
  .exact((hm x).1 hx).1)
 simp only[List.length_cons]at this;omega
def JQ:jF->Nat|Y _ n _=>n|_=>0
theorem Vo (h:Ba l K)(hs:∀j,j<T l->(AG l j).size<=maxLen):∀j,j<T K->(AG K j).size<=maxLen:=by
 intro j a;have hm:AG K j∈l:=by grind [Dd,Ba.mem,zI]
 grind [MO]
def Ah2 (w:jB) (ss:L4) (e:Ending) (w':jB):Prop:=
 ∃x cx K,e=jN (Y x (T K) cx)/\jO w' (R<|Z w) 9 1 (Y x (T K) cx) (T K) (K.map Value.string)/\Ai w w'/\Ba ss K
theorem Jt (a:L3)(n c:Nat)(ss:L4)(w:jB)(h:Aq w a n c ss)(N:n<=1048576):
  Calls jZ 114 #[Y a n c] w λe w'=>Ah2 w ss e w':=by
 obtain⟨i,hi,m,o,p⟩:=info_parts GB;have r:=Ab h.len;go_enter func114,ntmps114
 go_wp2_with fail
 refine(Sd _ _ _ _ _ _ _ h).mono ?_;rintro e j ⟨⟨y,z,rfl,b⟩,A⟩;rw[A];have B:=Vn.start b;go_wp2_with fail
 go_loopw [3,4,5] (λv s ok wr=>∃ (K:L4) (t:K9) (q:Bool) (x:L3) (cx:Nat),s=jC t/\ok= .bool q/\v=Y x (T K) cx/\jO wr (R<|Z w) 9 1 (Y x (T K) cx) (T K) (K.map Value.string)/\Vn ss K t q/\Ai w wr) (λv _ _ _=>n-JQ v)
 case atStart=>exact⟨[],y,z,U,0,rfl,rfl,rfl,H3,B,BRN⟩
 case round=>
  obtain⟨K,t,q,x,cx,rfl,rfl,rfl,d,hu,f⟩:=hrel;cases q
  .go_wp2
   go_ret
   exact⟨x,cx,K,rfl,d,f,⟨hu.cU,hu.no rfl⟩⟩
  .have O:T K<n:=by have:=hu.lt;have:=Aa r;omega
   have C:=f.size;go_wp2_with (at_builtin;refine G7 _ rfl _ _ 30 rfl (R<|Z w) 9 i (jC ByteArray.empty) 1 16 underlying30 hi m o p rfl Ob _ _ _ rfl (d.alloc _) ⟨R<|Z wr,0,U⟩ 1 1 [jC t] rfl rfl ?c1 ?c2 ?c3 ?c4 ?c5 ?_)
   case c1=>exact K4 _ _ _
   case c2=>intro u hu;simp at hu;subst hu;rfl
   case c3=>unfold maxLen;omega
   case c4=>omega
   case c5=>simp;omega
   intro v' j g D _;have l:Ai w j:=(f.alloc C _).grown D O0 λk E=>(d.lt k E).1;obtain⟨F,G,H⟩:=AA g;rw[H]at g|-;go_wp2_with fail
   refine(Sd _ _ _ _ _ _ _<|h.below l NLN).mono ?_;rintro e w2 ⟨⟨I,J,rfl,b⟩,L⟩;rw[L];have M:=hu.step b;go_wp2
   go_roundw
   case rel=>exact⟨K++[t],I,J,F,G,rfl,rfl,by rw[zC];rfl,by rw[zk,zC];exact g,M,l⟩
   case measure=>simp[JQ];omega
set_option linter.unusedVariables false
theorem Iz {e:jV}{size:Nat}{n c:Nat}{a:L7}(h:jO w base e size (Y x n c) n a)(hm:m<=n):jO w base e size (Y x m c) m<|a.take<|m*size:=by
 have j:m*size<=n*size:=Nat.mul_le_mul_right _ hm;refine⟨by rw[List.length_take,h.1];omega,?_⟩;obtain⟨hv,k⟩|⟨g,cap,b,hv,d,f,h3,i,h5,l⟩:=h.2
 .grind
 .cases hv;refine .inr ⟨g,c,b,rfl,d,f,Oa,i,h5,?_⟩
  grind
theorem Aj {e:jV}{size:Nat}{n B:Nat}{a:L7}(h:jO w base e size v n a)(c:Below B w w')(d:R (Z w)<=B):jO w' base e size v n a:=by
 refine⟨h.1,?_⟩;obtain j|⟨g,cap,f,hv,i,b,h3⟩:=h.2
 .grind
 .exact .inr ⟨g,cap,f,hv,i,(c.block g<|Nat.lt_of_lt_of_le (Array.getElem?_eq_some_iff.1 b).1 d).trans b,h3⟩
theorem Ae {e size n:Nat}{a:L7}(h:jO w base e size v n a):∃x c,v=Y x n c/\(0<n->∃g,x=Q (jA g 0 U)/\base<=g/\∀j u,a[j]? =Q u->jI w (jA g j U)=Q u):=by
 obtain⟨rfl,rfl⟩|⟨g,cap,d,rfl,b,_⟩:=h.2
 .grind
 .refine⟨_,_,rfl,λ_=>⟨g,rfl,b,λj u hu=>?_⟩⟩;have:=h.cells (g:=g) rfl j u hu;have f:((jA g 0 U):jG).add j=(jA g j U):=Hl
  grind
theorem Ad {e:jV}{size n:Nat}{a:L7}(h:jO w base e size v n a)(hd:∀q,jL v=Q q->(Z w')[q]? =(Z w)[q]?):jO w' base e size v n a:=by
 refine⟨h.1,?_⟩;obtain d|⟨g,cap,b,hv,h3,hg,c⟩:=h.2
 .grind
 .exact .inr ⟨g,cap,b,hv,h3,(hd g<|by rw[hv];rfl).trans hg,c⟩
theorem Ah {e:jV}{size n:Nat}{a:L7}(h:jO w base e size v n a)(p:jG)(u:jF)(b:∀q,jL v=Q q->q≠jT p):jO (jJ w p u) base e size v n a:=by grind [Go.heap_setCell_other,Ad]
theorem Ac {B a n size:Nat}{e T:jV}{c:Array jF}(R:Ag w a c T)(h:jO w B e size v n b)(d:T≠e):jL v≠Q a:=λhq=>by
 obtain⟨hv,_⟩|⟨g,cap,f,hv,_,hg,_⟩:=h.2
 .rw[hv]at hq;cases hq
 .rw[hv]at hq;obtain rfl:g=a:=O8;have:=R.out.symm.trans hg;simp at this;exact d this.2
theorem Iu {a:Act}{Q:Exit->Act->jB->Prop}(f:o.guard=U)(ty:jV)(x:Operand)(k:o.op= .load ty x)
  (g:Nat)(hx:a.eval x=jP (jg<|jA g 0 U))(b:Array jF)(d:TypeDesc)(hc:∀j,jI w (jA g j U)=b[j]?)
  (hu:P.underlying ty=jg d)(hd:(match d with| .struct _| .array _ _=>jD|_=>jE)=jD)(hi:(P.info? ty).map (·.size)=jg b.size)
  (h:wpList P ops Q rest (a.put o.dst<|jM b) w):wpList P ops Q (o ::rest) a w:=
 wpList_plain f λ_ l=>by
  have c:(loadCells (jA g 0 U)<|T b.toList).run P w= .ok b.toList.toArray w:=
   run_loadCells_list (P:=P) w (jA g 0 U) b.toList (λj v hv=>by
    have m:((jA g 0 U):jG).add j=(jA g j U):=Hl;rw[m,hc j];simpa using hv)
  have n:(loadVar ty<|jA g 0 U).run P w= .ok (jM b) w:=by
   cases hq:P.info? ty with
   |none=>simp[hq]at hi
   |some i=>
    have hs:i.size=b.size:=by simpa[hq]using hi
    have p:(isAgg ty).run P w= .ok jD w:=by
     unfold isAgg;rw[Sem.run_bind,K3 hu w];cases d<;>simp_all
    simp only[Array.length_toList,Array.toArray_toList]at c;simp[loadVar,Sem.run_bind,p,sizeOf,typeInfo,hq,hs,c]
  unfold Oper.wp execOp;simp only[k,hx,Instr.loadAt,Instr.sureAddr,Sem.run_bind,Sem.run_pure,Result.andThen_ok,n];exact l _ _ h
theorem Cj {a:Act}{Q:Exit->Act->jB->Prop}(f:o.guard=U)(ty:jV)(x y:Operand)(g:o.op= .index ty x y)
  (c:Array jF)(hx:a.eval x=jM c)(k:Nat)(hy:a.eval y=V X k)(n:Nat)(e:jV)(hu:P.underlying ty=jg (.array n e))(j:k<n)(d:TypeDesc)(l:P.underlying e=jg d)
  (hd:(match d with| .struct _| .array _ _=>jD|_=>jE)=jD)(b:Nat)(hi:(P.info? e).map (·.size)=jg b)(r:Array jF)(m:c.extract (k*b) (k*b+b)=r)
  (h:wpList P ops Q rest (a.put o.dst<|jM r) w):wpList P ops Q (o ::rest) a w:=
 wpList_plain f λ_ p=>by
  have hq:(Instr.index ty (jM c)<|V X k).run P w= .ok (jM r) w:=by
   cases hq:P.info? e with
   |none=>simp[hq]at hi
   |some i=>
    have hs:i.size=b:=by simpa[hq]using hi
    have q:(isAgg e).run P w= .ok jD w:=by
     unfold isAgg;rw[Sem.run_bind,K3 l w];cases d<;>simp_all
    have s:(0 :Int)<=(k:Int)/\(k:Int)<(n:Int):=⟨Oa,Oa⟩
    simp[Instr.index,run_underlying hu,asIntOf,s,j,part,Sem.run_bind,q,sizeOf,typeInfo,hq,hs,m]
  unfold Oper.wp execOp;simp only[g,hx,hy,Sem.run_bind,hq,Sem.run_pure,Result.andThen_ok];exact p _ _ h
set_option maxRecDepth 100000
set_option maxHeartbeats 6400000
def Nb:Array jF:=#[V X 26,V X 1,jC ⟨#[111,114]⟩,V X 25,V X 2,jC ⟨#[97,110,100]⟩,V X 19,V X 4,jC ⟨#[61,61]⟩,V X 20,V X 4,jC ⟨#[33,61]⟩,V X 21,V X 4,jC ⟨#[60]⟩,V X 22,V X 4,jC ⟨#[60,61]⟩,V X 23,V X 4,jC ⟨#[105,110]⟩,V X 24,V X 4,jC ⟨#[119,105,116,104,105,110]⟩,V X 11,V X 5,jC ⟨#[43]⟩,V X 12,V X 5,jC ⟨#[45]⟩,V X 16,V X 5,jC ⟨#[124]⟩,V X 18,V X 5,jC ⟨#[92]⟩,V X 13,V X 6,jC ⟨#[42]⟩,V X 14,V X 6,jC ⟨#[47]⟩,V X 15,V X 6,jC ⟨#[37]⟩,V X 17,V X 6,jC ⟨#[38]⟩]
structure Opr where
 op:Int
 lv:Int
 text:K9
def opr:Nat->Opr
 |0=>⟨26,1,⟨#[111,114]⟩⟩
 |1=>⟨25,2,⟨#[97,110,100]⟩⟩
 |2=>⟨19,4,⟨#[61,61]⟩⟩
 |3=>⟨20,4,⟨#[33,61]⟩⟩
 |4=>⟨21,4,⟨#[60]⟩⟩
 |5=>⟨22,4,⟨#[60,61]⟩⟩
 |6=>⟨23,4,⟨#[105,110]⟩⟩
 |7=>⟨24,4,⟨#[119,105,116,104,105,110]⟩⟩
 |8=>⟨11,5,⟨#[43]⟩⟩
 |9=>⟨12,5,⟨#[45]⟩⟩
 |10=>⟨16,5,⟨#[124]⟩⟩
 |11=>⟨18,5,⟨#[92]⟩⟩
 |12=>⟨13,6,⟨#[42]⟩⟩
 |13=>⟨14,6,⟨#[47]⟩⟩
 |14=>⟨15,6,⟨#[37]⟩⟩
 |15=>⟨17,6,⟨#[38]⟩⟩
 |_=>⟨0,0,⟨#[]⟩⟩
theorem AfR:∀k,k<16->Nb.extract (k*3) (k*3+3)= #[V X (opr k).op,V X (opr k).lv,jC (opr k).text]
 |0,_=>rfl
 |1,_=>rfl
 |2,_=>rfl
 |3,_=>rfl
 |4,_=>rfl
 |5,_=>rfl
 |6,_=>rfl
 |7,_=>rfl
 |8,_=>rfl
 |9,_=>rfl
 |10,_=>rfl
 |11,_=>rfl
 |12,_=>rfl
 |13,_=>rfl
 |14,_=>rfl
 |15,_=>rfl
 |n+16,h=>H9 h Oa
theorem AfS (op:Int)(h: 11<=op/\op<=26):∃k,k<16/\(opr k).op=op:=by
 have:op=11\/op=12\/op=13\/op=14\/op=15\/op=16\/op=17\/op=18\/op=19\/op=20\/op=21\/op=22\/op=23\/op=24\/op=25\/op=26:=Oa;obtain e|e|e|e|e|e|e|e|e|e|e|e|e|e|e|e:=this<;>subst e
 .exact⟨8,Ob,rfl⟩
 .exact⟨9,Ob,rfl⟩
 .exact⟨12,Ob,rfl⟩
 .exact⟨13,Ob,rfl⟩
 .exact⟨14,Ob,rfl⟩
 .exact⟨10,Ob,rfl⟩
 .exact⟨15,Ob,rfl⟩
 .exact⟨11,Ob,rfl⟩
 .exact⟨2,Ob,rfl⟩
 .exact⟨3,Ob,rfl⟩
 .exact⟨4,Ob,rfl⟩
 .exact⟨5,Ob,rfl⟩
 .exact⟨6,Ob,rfl⟩
 .exact⟨7,Ob,rfl⟩
 .exact⟨1,Ob,rfl⟩
 .exact⟨0,Ob,rfl⟩
theorem AjH:∀k,k<16->11<=(opr k).op/\(opr k).op<=26
 |0,_|1,_|2,_|3,_|4,_|5,_|6,_|7,_|8,_|9,_|10,_|11,_|12,_|13,_|14,_|15,_=>Ob
 |n+16,h=>H9 h Oa
def Um (op:Int):Bool:=decide (11<=op/\op<=26)
def AjI (op:Int) (e:Ending):Prop:=∃ (x y:Int) (s:K9),e=jN (jQ #[jM #[V X x,V X y,jC s],.bool<|Um op])
theorem Ia {b:Nat}{a c:jF}(R:Ag w b #[a,c,d] t):jI w (jA b 0 U)=Q a/\jI w (jA b 1 U)=Q c/\jI w (jA b 2 U)=Q d/\∀j,World.frozen? w (jA b j U)=jE:=
 ⟨R.cell 0,R.cell 1,R.cell 2,λj=>R.frozen j⟩
theorem Abr {c:Func}{a b:Tmp}(h:c.results= #[.cell a 239,.tmp b]){g:Nat}{i:jF}(j:tmps.getD a undef=jP (Q<|jA g 0 U))(k:tmps.getD b undef=u)
  (g0:jI w (jA g 0 U)=Q v)(g1:jI w (jA g 1 U)=Q f)(g2:jI w (jA g 2 U)=Q i):
  (results c tmps).run jZ w= .ok (jQ #[jM #[v,f,i],u]) w:=by
 rw[Array.getD_eq_getD_getElem?]at j k;simp[results,h,j,k,go_sem,g0,g1,g2]
theorem Hu (op:Int)(w:jB)(z: 7 <R (Z w))(hc:∀k,jI w ⟨7,k,U⟩=Nb[k]?):
  Calls jZ 149 #[V X op] w λe w'=>AjI op e/\Ai w w':=by
 have s:=Ab (show ∀k,jI (jK w<|jH #[V X 0,V X 0,jC ⟨#[]⟩] 239) ⟨7,k,U⟩=Nb[k]? from λk=>(World.cell?_alloc_lt _ _ ⟨7,k,U⟩ z).trans<|hc k);clear hc;have t:=AE w<|jH #[V X 0,V X 0,jC ⟨#[]⟩] 239;have u:=Ag.new w #[V X 0,V X 0,jC ⟨#[]⟩] 239;go_enter func149,ntmps149
 go_wp2_with (refine Iu rfl 256 _ rfl 7 rfl Nb _ (Aa s) underlying256 rfl Oy ?_)
 clear s;go_loopw [7] (λi wr=>∃k:Nat,k<=16/\i=V X k/\Ai w wr/\Ag wr (R<|Z w) #[V X 0,V X 0,jC ⟨#[]⟩] 239/\∀j,j<k->(opr j).op≠op) (λi _=>16-(intOf i).toNat)
 case atStart=>exact⟨0,Oa,rfl,t,u,λj h=>H9 h Oa⟩
 case round=>
  obtain⟨k,K,rfl,d,a,v⟩:=hrel;have f:=Ab v;clear v t u;by_cases g:k<16
  .have L:(k:Int)<16:=Oa;have q:=Ab<|AfR k g;have x:=Ab<|AjH k g;have l:=Ab g;have M:=a.lt;have m:=Ab (show(opr k).op≠op->∀j,j<k+1->(opr j).op≠op from λe j y=>by
    by_cases A:j=k
    .subst A;exact e
    .exact Aa f j Oa)
   have b:=Ab (show(opr k).op=op->Um op=jD from λe=>by rw[<-e];exact zJ<|Aa x);clear f x g;generalize opr k=o at q m b;have B:=d.alloc d.size<|jH #[V X o.op,V X o.lv,jC o.text] 239;have C:=a.alloc<|jH #[V X o.op,V X o.lv,jC o.text] 239;by_cases c:o.op=op
   .have D:(o.op==op)=jD:=zD.2 c;have E:=Ab<|Aa b c;clear c b m;obtain⟨F,q1,q2,G⟩:=Ia a;go_wp2_with (refine Cj rfl 256 _ _ rfl Nb rfl k rfl 16 239 underlying256 (Aa l) _ underlying239 rfl 3 Oy _ (Aa q) ?_)
    have r:Ag _ (R<|Z w) #[V X o.op,V X o.lv,jC o.text] 239:=(((a.set 0<|V X o.op).set 1<|V X o.lv).set 2<|jC o.text).alloc<|jH #[V X o.op,V X o.lv,jC o.text] 239;have n:=(((d.setCell (p:=⟨R<|Z w,0,U⟩) NLN<|V X o.op).setCell (p:=⟨R<|Z w,1,U⟩) NLN<|V X o.lv).setCell (p:=⟨R<|Z w,2,U⟩) NLN<|jC o.text)
    have H:=n.alloc n.size<|jH #[V X o.op,V X o.lv,jC o.text] 239;obtain⟨g0,g1,g2,I⟩:=Ia r;exact G2 (Abr results149 rfl rfl g0 g1 g2) rfl ⟨⟨_,_,_,by rw[Aa E];rfl⟩,H⟩
   .have D:(o.op==op)=jE:=zA.2 c;have J:=Ab<|Aa m c;clear c b m;go_wp2_with (refine Cj rfl 256 _ _ rfl Nb rfl k rfl 16 239 underlying256 (Aa l) _ underlying239 rfl 3 Oy _ (Aa q) ?_)
    go_roundw
    case rel=>exact⟨k+1,Aa l,O1,B,C,Aa J⟩
    case measure=>have:=Aa l;simp[intOf];omega
  .have e:k=16:=Oa;subst e;have b:=Ab (show Um op=jE from zH λh=>by
    obtain⟨j,y,e⟩:=AfS op h;exact Aa f j y e)
   clear f;obtain⟨F,q1,q2,G⟩:=Ia a;go_wp2_with fail
   have r:Ag _ (R<|Z w) #[V X 0,V X 0,jC ⟨#[]⟩] 239:=((a.set 0<|V X 0).set 1<|V X 0).set 2<|jC ⟨#[]⟩;have n:=(((d.setCell (p:=⟨R<|Z w,0,U⟩) NLN<|V X 0).setCell (p:=⟨R<|Z w,1,U⟩) NLN<|V X 0).setCell (p:=⟨R<|Z w,2,U⟩) NLN<|jC ⟨#[]⟩)
   obtain⟨g0,g1,g2,I⟩:=Ia r;exact G2 (Abr results149 rfl rfl g0 g1 g2) rfl ⟨⟨_,_,_,by rw[Aa b];rfl⟩,n⟩
theorem Nc (op:Int)(w:jB)(d: 7 <R (Z w))(hc:∀k,jI w ⟨7,k,U⟩=Nb[k]?):
  Calls jZ 135 #[V X op] w λe w'=>e=jN (V X<|BY op)/\Ai w w':=by
 have f:=Ab hc;by_cases h0: 1<=op/\op<=7
 .have:op=1\/op=2\/op=3\/op=4\/op=5\/op=6\/op=7:=Oa;obtain e|e|e|e|e|e|e:=this<;>subst e<;>(go_enter func135,ntmps135;go_wp2;go_ret;exact⟨rfl,BRN⟩)
 by_cases i: 8<=op/\op<=10
 .have:op=8\/op=9\/op=10:=Oa;obtain e|e|e:=this<;>subst e<;>(go_enter func135,ntmps135;go_wp2;go_ret;exact⟨rfl,BRN⟩)
 by_cases h3:op=27
 .subst h3;go_enter func135,ntmps135
  go_wp2
  go_ret
  exact⟨rfl,BRN⟩
 have g:=Ab (show BY op=if Um op=jD then 2 else -1 by
  rw[BY,H7 h0,H7 i,Um];by_cases c: 11<=op/\op<=26
  .rw[H8 c,H8<|zJ c]
  .rw[H7 c,H7 h3,H7<|by rw[zH c];decide])
 have e1:(op==1)=jE:=zA.2 Oa;have e2:(op==2)=jE:=zA.2 Oa;have e3:(op==3)=jE:=zA.2 Oa;have e4:(op==4)=jE:=zA.2 Oa;have e5:(op==5)=jE:=zA.2 Oa;have e6:(op==6)=jE:=zA.2 Oa;have e7:(op==7)=jE:=zA.2 Oa;have e8:(op==8)=jE:=zA.2 Oa;have n:(op==9)=jE:=zA.2 Oa;have o:(op==10)=jE:=zA.2 Oa;have p:(op==27)=jE:=zA.2 Oa;go_enter func135,ntmps135
 cases h:Um op
 .have a:=Ab h;go_wp2_with (go_at_call 149;refine(Hu _ _ d<|Aa f).mono ?_;rintro e w2 ⟨⟨j,l,m,rfl⟩,b⟩;rw[Aa a])
  go_ret
  exact⟨by rw[Aa g,Aa a];rfl,b.alloc b.size _⟩
 .have a:=Ab h;go_wp2_with (go_at_call 149;refine(Hu _ _ d<|Aa f).mono ?_;rintro e w2 ⟨⟨j,l,m,rfl⟩,b⟩;rw[Aa a])
  go_ret
  exact⟨by rw[Aa g,Aa a];rfl,b.alloc b.size _⟩
def Ah6 (w:jB) (b o:Nat) (x:Nd):Prop:=∃an nn cn ak nk ck,jI w (jA b o U)=Q (V X x.op)/\jI w ⟨b,o+1,U⟩=Q (V X x.num)/\jI w ⟨b,o+2,U⟩=Q (jC x.text)/\jI w ⟨b,o+3,U⟩=Q (Y an nn cn)/\jI w ⟨b,o+4,U⟩=Q (Y ak nk ck)/\Aq w an nn cn x.aB/\AP w ak nk ck x.aD
structure IN (w:jB) (a:L3) (n c:Nat) (L:L6):Prop where
 len:T L=n
 aJ:n<=1048576
 bC:∀x∈L,x.text.size<=1048576
 cells:∀j,(h:j<T L)->∃b off,a=Q (jA b off U)/\b<R (Z w)/\Ah6 w b (off+j*5) L[j]
theorem Ah6.below {w w':jB}{B b o:Nat}{x:Nd}(h:Ah6 w b o x)(l:b<R (Z w))(a:Below B w w')(d:R (Z w)<=B):Ah6 w' b o x:=by
 obtain⟨an,nn,cn,f,g,i,c0,c1,c2,c3,c4,j,k⟩:=h;have c:b<B:=Oa;exact⟨an,nn,cn,f,g,i,(a.cell (p:=(jA b o U)) c).trans c0,(a.cell (p:=⟨b,o+1,U⟩) c).trans c1,(a.cell (p:=⟨b,o+2,U⟩) c).trans c2,(a.cell (p:=⟨b,o+3,U⟩) c).trans c3,(a.cell (p:=⟨b,o+4,U⟩) c).trans c4,j.below a d,k.below a d⟩
theorem IN.below {w w':jB}{B:Nat}{a:L3}{n c:Nat}{L:L6}(h:IN w a n c L)(d:Below B w w')(g:R (Z w)<=B):IN w' a n c L:=
 ⟨h.len,h.aJ,h.bC,λj i=>by
  obtain⟨b,k,l,f,hc⟩:=h.cells j i;exact⟨b,k,l,zL f d.size,hc.below f d g⟩⟩
def nd5 (x:Nd) (u k:jF):L7:= [V X x.op,V X x.num,jC x.text,u,k]
def Yv:L6->L7->L7->L7
 |x ::N,u ::nv,k ::kv=>nd5 x u k++Yv N nv kv
 |_,_,_=> []
theorem Xh:∀(N:L6) (a b:L7) (x:Nd) (u k:jF),T a=T N->T b=T N->Yv (N++[x]) (a++[u]) (b++[k])=Yv N a b++nd5 x u k
 |[],[],[],x,u,k,_,_=>by simp[Yv]
 |[],_ ::_,_,x,u,k,h,_=>Hr
 |[],[],_ ::_,x,u,k,_,h=>Hr
 |y ::N,[],_,x,u,k,h,_=>Hr
 |y ::N,_ ::_,[],x,u,k,_,h=>Hr
 |y ::N,z ::a,t ::b,x,u,k,h,h'=>by
  have:=Xh N a b x u k Q6 (by simpa using h')
  grind [Yv]
theorem Zs:∀(N:L6) (a b:L7) (j:Nat) (h:j<T N) (c:j<T a) (d:j<T b),∀r,r<5->(Yv N a b)[j*5+r]? =(nd5 N[j] a[j] b[j])[r]?
 |x ::N,u ::a,k ::b,0,_,_,_,r,hr=>by grind [nd5,Yv]
 |x ::N,u ::a,k ::b,j+1,h,c,d,r,hr=>by
  have f:=Zs N a b j Q6 (by simpa using c) (by simpa using d) r hr
  grind [nd5,Yv]
 |[],_,_,_,h,_,_,_,_=>H9 h Ox
 |_ ::_,[],_,_,_,h,_,_,_=>H9 h Ox
 |_ ::_,_ ::_,[],_,_,_,h,_,_=>H9 h Ox
structure Cv (w:jB) (lo:Nat) (v:jF) (N:L6) (nv kv:L7):Prop where
 len:T nv=T N
 bY:T kv=T N
 aN:jO w lo 170 5 v (T N)<|Yv N nv kv
 aB:∀j,(h:j<T N)->(h':j<T nv)->jO w lo 9 1 nv[j] (T N[j].aB) (N[j].aB.map Value.string)
 aD:∀j,(h:j<T N)->(h':j<T kv)->jO w lo 3 1 kv[j] (T N[j].aD) (Ak N[j].aD)
 bA:∀i j,(hij:i<j)->(h:j<T nv)->∀q,jL (nv[i]' Oa)=Q q->jL nv[j]≠Q q
 apartk:∀i j,(hij:i<j)->(h:j<T kv)->∀q,jL (kv[i]' Oa)=Q q->jL kv[j]≠Q q
theorem Cv.nil (w:jB)(lo:Nat):Cv w lo (Y U 0 0) [] [] []:=
 ⟨rfl,rfl,H3,λj h=>H9 h Ox,λj h=>H9 h Ox,λi j _ h=>H9 h Ox,λi j _ h=>H9 h Ox⟩
theorem Cv.bW {lo:Nat}{c:L7}(h:Cv w lo v N b c):(∀q,jL v=Q q->lo<=q/\q<R (Z w))/\(∀j,(a:j<T b)->∀q,jL b[j]=Q q->lo<=q/\q<R (Z w))/\∀j,(a:j<T c)->∀q,jL c[j]=Q q->lo<=q/\q<R (Z w):=
 ⟨h.aN.lt,λj a=>(h.aB j (by rw[<-h.len];exact a) a).lt,λj a=>(h.aD j (by rw[<-h.bY];exact a) a).lt⟩
theorem Cv.cF {lo:Nat}{c d:L7}(h:Cv w lo v N c d)(f:∀q,jL v=Q q->(Z w')[q]? =(Z w)[q]?)(g:∀j,(a:j<T c)->∀q,jL c[j]=Q q->(Z w')[q]? =(Z w)[q]?)(h3:∀j,(a:j<T d)->∀q,jL d[j]=Q q->(Z w')[q]? =(Z w)[q]?):Cv w' lo v N c d:=
 ⟨h.len,h.bY,Ad h.aN f,λj a b=>Ad (h.aB j a b)<|g j b,λj a b=>Ad (h.aD j a b)<|h3 j b,h.bA,h.apartk⟩
theorem Cv.bM {lo:Nat}{a b:L7}(h:Cv w lo v N a b)(hd:∀k,lo<=k->k<R (Z w)->(Z w')[k]? =(Z w)[k]?):Cv w' lo v N a b:=by grind [Cv.bW,Cv.cF]
theorem Al {B B' n n' size f:Nat}{e d:jV}{v':jF}{i:L7}(h:jO w B e size v n i)(k:jO w B' d f v' n' j)(l:e≠d):∀q,jL v=Q q->jL v'≠Q q:=λq hq b=>by
 obtain⟨hv,_⟩|⟨g,cap,o,hv,_,hg,_⟩:=h.2
 .rw[hv]at hq;cases hq
 obtain⟨c,_⟩|⟨m,p,r,c,_,a,_⟩:=k.2
 .rw[c]at b;cases b
 rw[hv]at hq;rw[c]at b;obtain rfl:g=q:=O8;obtain rfl:m=g:=by simpa[jL]using b
 rw[hg]at a;injection a with a;injection a with _ a;exact l a
def InN (v:jF) (nv kv:L7) (hi:Nat):Prop:=(∀q,jL v=Q q->q<hi)/\(∀j,(hj:j<T nv)->∀q,jL nv[j]=Q q->q<hi)/\∀j,(hj:j<T kv)->∀q,jL kv[j]=Q q->q<hi
def okN (x:Nd):Prop:=T x.aB<=1048576/\T x.aD<=1048576/\∀s∈x.aB,s.size<=maxLen
structure Vl where
 aC:Int
 num:Int
 text:K9
 aB:L4
abbrev M1:=List Vl
structure Be where
 op:Int
 aY:Int
abbrev M2:=List Be
def SN (s:K9):Bool:=decide (s.size<=32)&&IY s.data.toList
def CW (v:Vl):Bool:=
 if v.aC=1 then decide (v.num=0\/v.num=1)&&decide (v.text.size=0)&&decide (T v.aB=0)
 else if v.aC=2 then decide (v.text.size=0)&&decide (T v.aB=0)
 else if v.aC=3 then SN v.text&&decide (v.num=0)&&decide (T v.aB=0)
 else if v.aC=4 then Ay v.aB&&decide (v.num=0)&&decide (v.text.size=0)
 else jE
def GJ (op:Int):Bool:=decide ((1<=op/\op<=4)\/op=22\/op=23)
def EF (i:Be):Bool:=decide (1<=i.op/\i.op<=25)&&(if GJ i.op then decide (0<=i.aY/\i.aY<=65535)else decide (i.aY=0))
def DO (P:M1) (slots:Int) (I:M2):Bool:=decide (T P<=4000/\T I<=20000/\0<=slots/\slots<=600)&&P.all CW&&I.all EF
theorem YS {ss:L4}(h:Ay ss=jD):T ss<=64/\∀s∈ss,s.size<=32:=by grind [LJ,Dd,zw,Qt,NC,vnB]
structure De where
 aI:M1
 aE:Nat
 aK:M2
structure I5 where
 op:Int
 aY:Int
 val:Vl
abbrev M9:=List I5
def Aw:Vl:=⟨0,0,⟨#[]⟩,[]⟩
def exV:Ex->Vl
 |.int _ n=>⟨2,n,⟨#[]⟩,[]⟩
 |.text _ s=>⟨3,0,s,[]⟩
 |.bool _ b=>⟨1,if b then 1 else 0,⟨#[]⟩,[]⟩
 |.set _ _ _ _ ss=>⟨4,0,⟨#[]⟩,ss⟩
 |_=>Aw
open Classical in
noncomputable def FG (v:Vl):M1->Nat->N8
 |[],_=>U
 |u ::r,k=>if u=v then Q k else FG v r (k+1)
noncomputable def UI (P:M1) (v:Vl):Nat:=(FG v P 0).getD P.length
noncomputable def Qd (P:M1) (v:Vl):M1:=if (FG v P 0).isSome then P else P++[v]
noncomputable def Bh (s:De) (i:I5):De:=if i.op=1 then ⟨Qd s.aI i.val,s.aE,s.aK++[⟨1,UI s.aI i.val⟩]⟩else ⟨s.aI,s.aE,s.aK++[⟨i.op,i.aY⟩]⟩
noncomputable def Bb (s:De) (L:M9):De:=L.foldl Bh s
theorem Eb (s:De)(L M:M9):Bb s (L++M)=Bb (Bb s L) M:=List.foldl_append ..
theorem Gt (s:De)(i:I5):Bb s [i]=Bh s i:=rfl
theorem EW (s:De)(i:I5):T (Bh s i).aK=T s.aK+1:=by grind [Bh]
theorem Cg:∀(L:M9) (s:De),T (Bb s L).aK=T s.aK+T L
 |[],s=>rfl
 |i ::L,s=>by
  show T (Bb (Bh s i) L).aK=_;rw[Cg L,EW,List.length_cons];omega
def Dg (s:De) (at_:Nat) (arg:Int):De:=⟨s.aI,s.aE,s.aK.modify at_ λi=>⟨i.op,arg⟩⟩
theorem Qe (s:De)(k:Nat)(a:Int)(i:I5)(h:k<T s.aK):Bh (Dg s k a) i=Dg (Bh s i) k a:=by
 unfold Bh Dg;have q:∀x:Be,(s.aK.modify k λi=>⟨i.op,a⟩)++[x]=(s.aK++[x]).modify k λi=>⟨i.op,a⟩:=λx=>by
  apply List.ext_getElem?
  grind
 grind
theorem J0:∀(L:M9) (s:De) (k:Nat) (a:Int),k<T s.aK->Bb (Dg s k a) L=Dg (Bb s L) k a:=by intro L;induction L<;>intros<;>grind [EW,Bh,Bb,Qe,Dg]
theorem LE (s:De)(op:Int)(a:Int)(h:op≠1):Dg (Bh s ⟨op,0,Aw⟩) (T s.aK) a=Bh s ⟨op,a,Aw⟩:=by
 unfold Bh Dg;rw[H7 h,H7 h];simp only[De.mk.injEq,true_and];apply List.ext_getElem?
 grind
def Ar:Ex->Nat->M9
 |.attr _ n,_=> [⟨2,n,Aw⟩]
 |.lett _ n,_=> [⟨3,n,Aw⟩]
 |.un _ op k,a=>Ar k a++[⟨op-3,0,Aw⟩]
 |.bin _ op l r,a=>
  let x:=T<|Ar l a
  if op=25 then
   let y:=T<|Ar r<|a+x+1
   Ar l a++[⟨23,(a+x+y+2 :Nat),Aw⟩]++Ar r (a+x+1)++[⟨22,(a+x+y+3 :Nat),Aw⟩]++[⟨1,0,⟨1,0,⟨#[]⟩,[]⟩⟩]
  else if op=26 then
   let y:=T<|Ar r<|a+x+3
   Ar l a++[⟨23,(a+x+3 :Nat),Aw⟩]++[⟨1,0,⟨1,1,⟨#[]⟩,[]⟩⟩]++[⟨22,(a+x+3+y:Nat),Aw⟩]++Ar r (a+x+3)
  else Ar l a++Ar r (a+x)++[⟨op-3,0,Aw⟩]
 |.ite _ c t e,a=>
  let x:=T<|Ar c a
  let y:=T<|Ar t<|a+x+1
  let z:=T<|Ar e<|a+x+y+2
  Ar c a++[⟨23,(a+x+y+2 :Nat),Aw⟩]++Ar t (a+x+1)++[⟨22,(a+x+y+2+z:Nat),Aw⟩]++Ar e (a+x+y+2)
 |e,_=> [⟨1,0,exV e⟩]
def Am:Ex->Nat
 |.un _ _ k=>1+Am k
 |.bin _ op l r=>if op=25\/op=26 then 1+Am l+Am r+2 else 1+Am l+Am r
 |.ite _ c t e=>1+Am c+Am t+Am e+1
 |_=>1
theorem BJ:∀(e:Ex) (a:Nat),T (Ar e a)=Am e:=by intro e;induction e<;>intros<;>grind [Am,Ar]
noncomputable def Jp (fc ft fe:De->De) (s:De):De:=
 let s1:=fc s
 let s2:=Bh s1 ⟨23,0,Aw⟩
 let s3:=ft s2
 let s4:=Bh s3 ⟨22,0,Aw⟩
 let s5:=Dg s4 s1.aK.length s4.aK.length
 let s6:=fe s5
 Dg s6 s3.aK.length s6.aK.length
noncomputable def Nt (v:Vl) (s:De):De:=Bh s ⟨1,0,v⟩
noncomputable def hA:Ex->De->De
 |.attr _ n,s=>Bh s ⟨2,n,Aw⟩
 |.lett _ n,s=>Bh s ⟨3,n,Aw⟩
 |.un _ op k,s=>Bh (hA k s) ⟨op-3,0,Aw⟩
 |.bin _ op l r,s=>if op=25 then Jp (hA l) (hA r) (Nt ⟨1,0,⟨#[]⟩,[]⟩) s else if op=26 then Jp (hA l) (Nt ⟨1,1,⟨#[]⟩,[]⟩) (hA r) s else Bh (hA r<|hA l s) ⟨op-3,0,Aw⟩
 |.ite _ c t e,s=>Jp (hA c) (hA t) (hA e) s
 |e,s=>Nt (exV e) s
theorem LF {fc ft fe:De->De}{C T E:M9}(s:De)(hc:fc s=Bb s C)(ht:∀a,ja a.aK=ja s.aK+ja C+1->ft a=Bb a T)(he:∀a,ja a.aK=ja s.aK+ja C+ja T+2->fe a=Bb a E):
  Jp fc ft fe s=Bb s (C++[⟨23,(ja s.aK+ja C+ja T+2 :Nat),Aw⟩]++T++[⟨22,(ja s.aK+ja C+ja T+2+ja E:Nat),Aw⟩]++E):=by
 unfold Jp;have l1:ja (fc s).aK=ja s.aK+ja C:=by rw[hc,Cg]
 have b:ja (Bh (fc s) ⟨23,0,Aw⟩).aK=ja s.aK+ja C+1:=by rw[EW,l1]
 have e3:=ht _ b;have d:ja (ft<|Bh (fc s) ⟨23,0,Aw⟩).aK=ja s.aK+ja C+1+ja T:=by rw[e3,Cg,b]
 have f:ja (Bh (ft<|Bh (fc s) ⟨23,0,Aw⟩) ⟨22,0,Aw⟩).aK=ja s.aK+ja C+ja T+2:=by rw[EW,d];omega
 have e5:Dg (Bh (ft<|Bh (fc s) ⟨23,0,Aw⟩) ⟨22,0,Aw⟩) (ja (fc s).aK) (ja s.aK+ja C+ja T+2 :Nat)=Bh (Bb (Bh (fc s) ⟨23,(ja s.aK+ja C+ja T+2 :Nat),Aw⟩) T) ⟨22,0,Aw⟩:=by rw[e3,<-Qe _ _ _ _<|by rw[Cg,b];omega,<-J0 _ _ _ _<|by rw[b];omega,LE _ _ _ Ob]
 have c:ja (Bh (Bb (Bh (fc s) ⟨23,(ja s.aK+ja C+ja T+2 :Nat),Aw⟩) T) ⟨22,0,Aw⟩).aK=ja s.aK+ja C+ja T+2:=by grind [EW,Cg]
 simp only[f];rw[e5,he _ c,d];have g:ja (Bb (Bh (Bb (Bh (fc s) ⟨23,(ja s.aK+ja C+ja T+2 :Nat),Aw⟩) T) ⟨22,0,Aw⟩) E).aK=ja s.aK+ja C+ja T+2+ja E:=by rw[Cg,c]
 rw[g,<-J0 _ _ _ _<|by rw[c];omega];have h:ja s.aK+ja C+1+ja T=ja (Bb (Bh (fc s) ⟨23,(ja s.aK+ja C+ja T+2 :Nat),Aw⟩) T).aK:=by rw[Cg,EW,l1]
 rw[h,LE _ _ _ Ob,hc];simp only[Eb,Gt]
theorem EY:∀(e:Ex) (s:De),hA e s=Bb s (Ar e<|ja s.aK)
 |.int ..,s=>rfl
 |.text ..,s=>rfl
 |.bool ..,s=>rfl
 |.set ..,s=>rfl
 |.name ..,s=>rfl
 |.attr ..,s=>rfl
 |.lett ..,s=>rfl
 |.un _ op k,s=>by rw[hA,Ar,EY k,Eb,Gt]
 |.bin _ op l r,s=>by
  rw[hA,Ar];by_cases b:op=25
  .rw[H8 b,H8 b,LF (fc:=hA l) (ft:=hA r) (fe:=Nt ⟨1,0,⟨#[]⟩,[]⟩) (C:=Ar l<|ja s.aK) (T:=Ar r<|ja s.aK+ja (Ar l<|ja s.aK)+1) (E:= [⟨1,0,⟨1,0,⟨#[]⟩,[]⟩⟩]) s (EY l s) (λa h=>by rw[EY r a,h]) λa h=>rfl];rfl
  rw[H7 b,H7 b];by_cases d:op=26
  .rw[H8 d,H8 d,LF (fc:=hA l) (ft:=Nt ⟨1,1,⟨#[]⟩,[]⟩) (fe:=hA r) (C:=Ar l<|ja s.aK) (T:= [⟨1,0,⟨1,1,⟨#[]⟩,[]⟩⟩]) (E:=Ar r<|ja s.aK+ja (Ar l<|ja s.aK)+3) s (EY l s) (λa h=>rfl) λa h=>by rw[EY r a,h];rfl];rfl
  rw[H7 d,H7 d,EY l,EY r,Cg,Eb,Eb,Gt]
 |.ite _ c t e,s=>by rw[hA,Ar,LF (fc:=hA c) (ft:=hA t) (fe:=hA e) (C:=Ar c<|ja s.aK) (T:=Ar t<|ja s.aK+ja (Ar c<|ja s.aK)+1) (E:=Ar e<|ja s.aK+ja (Ar c<|ja s.aK)+ja (Ar t<|ja s.aK+ja (Ar c<|ja s.aK)+1)+2) s (EY c s) (λa h=>by rw[EY t a,h]) λa h=>by rw[EY e a,h]]
def De.bJ (s:De) (k:Nat):De:=⟨s.aI,k,s.aK⟩
theorem YH (s:De)(k:Nat)(i:I5):Bh (s.bJ k) i=(Bh s i).bJ k:=by grind [De.bJ,Bh]
theorem VR:∀(L:M9) (s:De) (k:Nat),Bb (s.bJ k) L=(Bb s L).bJ k:=by intro L;induction L<;>intros<;>grind [De.bJ,Bh,Bb,YH]
theorem YI (s:De)(i:I5):(Bh s i).aE=s.aE:=by grind [Bh]
theorem J1:∀(L:M9) (s:De),(Bb s L).aE=s.aE
 |[],s=>rfl
 |i ::L,s=>by
  show(Bb (Bh s i) L).aE=_;rw[J1 L,YI]
def DH (Es:L8) (c:Int):Ex:=Es.getD c.toNat<|.int 0 0
noncomputable def cpD (Es:L8) (g:Int) (s:De):De:=if g= -1 then Bh s ⟨24,0,Aw⟩else Bh (hA (DH Es g) s) ⟨25,0,Aw⟩
noncomputable def VS (Es:L8) (s:De) (t:St):De:=
 if t.aC=1 then (Bh (hA (DH Es t.cond) s) ⟨4,(s.aE:Int),Aw⟩).bJ (s.aE+1)
 else if t.aC=2 then
  let s1:=hA (DH Es t.cond) s
  let s3:=cpD Es t.aG<|Bh s1 ⟨23,0,Aw⟩
  Dg s3 s1.aK.length s3.aK.length
 else cpD Es t.aG s
def FE (Es:L8) (g:Int) (a:Nat):M9:=if g= -1 then [⟨24,0,Aw⟩]else Ar (DH Es g) a++[⟨25,0,Aw⟩]
def LD (Es:L8) (k a:Nat) (t:St):M9:=
 if t.aC=1 then Ar (DH Es t.cond) a++[⟨4,(k:Int),Aw⟩]
 else if t.aC=2 then
  let x:=T<|Ar (DH Es t.cond) a
  Ar (DH Es t.cond) a++[⟨23,(a+x+1+T (FE Es t.aG<|a+x+1):Nat),Aw⟩]++FE Es t.aG (a+x+1)
 else FE Es t.aG a
def LG (t:St):Nat:=if t.aC=1 then 1 else 0
theorem AdG (Es:L8)(g:Int)(s:De):cpD Es g s=Bb s (FE Es g<|T s.aK):=by grind [EY,Gt,Eb,cpD,FE]
theorem AdH (Es:L8)(s:De)(t:St):VS Es s t=(Bb s<|LD Es s.aE (T s.aK) t).bJ (s.aE+LG t):=by
 unfold VS LD LG;by_cases a:t.aC=1
 .grind [EY,Gt,Eb]
 rw[H7 a,H7 a,H7 a];have id:∀X:De,X.aE=s.aE->X.bJ (s.aE+0)=X:=λX h=>by cases X;simp only[De.bJ,De.mk.injEq,true_and]at h|-;exact⟨Oa,trivial⟩
 by_cases b:t.aC=2
 .rw[H8 b,H8 b,id _<|J1 _ _];have l1:T (hA (DH Es t.cond) s).aK=T s.aK+T (Ar (DH Es t.cond)<|T s.aK):=by rw[EY,Cg]
  have c:T (Bh (hA (DH Es t.cond) s) ⟨23,0,Aw⟩).aK=T s.aK+T (Ar (DH Es t.cond)<|T s.aK)+1:=by rw[EW,l1]
  simp only[AdG,c,Cg];rw[<-J0 _ _ _ _<|by rw[c];omega,LE _ _ _ Ob,EY];simp only[Eb,Gt]
 grind [AdG,J1]
noncomputable def Ln (Es:L8) (s:De) (L:L9):De:=L.foldl (VS Es) s
def CY (Es:L8):Nat->Nat->L9->M9
 |_,_,[]=> []
 |k,a,t ::L=>LD Es k a t++CY Es (k+LG t) (a+T (LD Es k a t)) L
def El (L:L9):Nat:=(L.map LG).sum
theorem Qf (Es:L8):∀(L:L9) (s:De),Ln Es s L=(Bb s<|CY Es s.aE (T s.aK) L).bJ (s.aE+El L)
 |[],s=>rfl
 |t ::L,s=>by
  show Ln Es (VS Es s t) L=_;rw[Qf Es L<|VS Es s t,AdH];have l1:T ((Bb s<|LD Es s.aE (T s.aK) t).bJ<|s.aE+LG t).aK=T s.aK+T (LD Es s.aE (T s.aK) t):=Cg _ _
  grind [VR,De.bJ,Eb,El,CY]
noncomputable def Lo (Es:L8) (L:L9):De:=Ln Es ⟨[],0,[]⟩ L
theorem P6 (Es:L8)(L:L9):Lo Es L=(Bb ⟨[],0,[]⟩<|CY Es 0 0 L).bJ (El L):=by grind [De.bJ,El,Lo,Qf]
theorem Qg {v:Vl} :∀{P:M1} {a k:Nat},FG v P a=Q k->a<=k/\∃h:k-a<T P,P[k-a]=v
 |[],a,k,h=>Qy
 |u ::r,a,k,h=>by
  rw[FG]at h;by_cases e:u=v
  .grind
  .rw[H7 e]at h;obtain⟨b,c,h3⟩:=Qg h
   grind
structure AN (S:Nat->Prop) (w w':jB):Prop where
 os:w'.os=w.os
 tape:w'.tape=w.tape
 output:w'.output=w.output
 size:R (Z w)<=R (Z w')
 block:∀k,k<R (Z w)->¬ S k->(Z w')[k]? =(Z w)[k]?
theorem AN.aH (h:Below (R<|Z w) w w'):AN S w w':=⟨h.os,h.tape,h.output,h.size,λk a _=>h.block k a⟩
theorem AN.refl (S:Nat->Prop)(w:jB):AN S w w:=⟨rfl,rfl,rfl,NLN,λ_ _ _=>rfl⟩
theorem AN.trans {S T:Nat->Prop}{a b c:jB}(h:AN S a b)(k:AN T b c)(f:∀q,q<a.heap.size->T q->S q):AN S a c:=
 ⟨k.os.trans h.os,k.tape.trans h.tape,k.output.trans h.output,Nat.le_trans h.size k.size,λq hq d=>(k.block q (Nat.lt_of_lt_of_le hq h.size) λt=>d<|f q hq t).trans<|h.block q hq d⟩
theorem AN.setCell {S:Nat->Prop}{a b:jB}(h:AN S a b){p:jG}(d:jT p<a.heap.size->S (jT p))(u:jF):AN S a<|b.setCell p u:=
 ⟨h.os,h.tape,h.output,by simpa using h.size,λq hq c=>(K0 b p q u λe=>c<|by subst e;exact d hq).trans<|h.block q hq c⟩
theorem Ag.bP {b:Nat}{a:Array jF}(h:Ag w b a t)(k:AN S w w')(c: ¬ S b):Ag w' b a t:=⟨(k.block b h.lt c).trans h.out⟩
theorem Ck {b:Nat}{a:Array jF}{row:N8}(h:Ag w b a t)(g:w.grownBy w' row)(c:Q b≠row):Ag w' b a t:=⟨(g.block b h.lt c).trans h.out⟩
theorem Ml:(jZ.info? 80).map (λi=>(i.zero,i.size,i.bytes))=Q (Q<|jM #[V X 0,V X 0],2,16):=Oy
def Cr (I:M2):L7:=I.flatMap λi=> [V X i.op,V X i.aY]
theorem Ns (I:M2)(i:Be):Cr (I++[i])=Cr I++[V X i.op,V X i.aY]:=by rw[Cr,List.flatMap_append];rfl
theorem Cx {b:Nat}{a c f:jF}(R:Ag w b #[a,c,d,f] t):jI w (jA b 0 U)=Q a/\jI w (jA b 1 U)=Q c/\jI w (jA b 2 U)=Q d/\jI w (jA b 3 U)=Q f:=⟨R.cell 0,R.cell 1,R.cell 2,R.cell 3⟩
def Ag0 (w:jB) (b o:Nat) (x:Vl):Prop:=∃an nn cn,jI w (jA b o U)=Q (V X x.aC)/\jI w ⟨b,o+1,U⟩=Q (V X x.num)/\jI w ⟨b,o+2,U⟩=Q (jC x.text)/\jI w ⟨b,o+3,U⟩=Q (Y an nn cn)/\Aq w an nn cn x.aB
structure SC (w:jB) (a:L3) (n c:Nat) (L:M1):Prop where
 len:T L=n
 aJ:n<=1048576
 bC:∀x∈L,x.text.size<=1048576
 cells:∀j,(h:j<T L)->∃b off,a=Q (jA b off U)/\b<R (Z w)/\Ag0 w b (off+j*4) L[j]
structure PX (w:jB) (a:L3) (n c:Nat) (L:M2):Prop where
 len:T L=n
 aJ:n<=1048576
 cells:∀j,(h:j<T L)->∃b off,a=Q (jA b off U)/\b<R (Z w)/\jI w ⟨b,off+j*2,U⟩=Q (V X L[j].op)/\jI w ⟨b,off+j*2+1,U⟩=Q (V X L[j].aY)
theorem Ag0.below {w w':jB}{B b o:Nat}{x:Vl}(h:Ag0 w b o x)(g:b<R (Z w))(a:Below B w w')(d:R (Z w)<=B):Ag0 w' b o x:=by
 obtain⟨an,nn,cn,c0,c1,c2,c3,f⟩:=h;have c:b<B:=Oa;exact⟨an,nn,cn,(a.cell (p:=(jA b o U)) c).trans c0,(a.cell (p:=⟨b,o+1,U⟩) c).trans c1,(a.cell (p:=⟨b,o+2,U⟩) c).trans c2,(a.cell (p:=⟨b,o+3,U⟩) c).trans c3,f.below a d⟩
theorem SC.below {w w':jB}{B:Nat}{a:L3}{n c:Nat}{L:M1}(h:SC w a n c L)(d:Below B w w')(g:R (Z w)<=B):SC w' a n c L:=
 ⟨h.len,h.aJ,h.bC,λj i=>by
  obtain⟨b,k,l,f,hc⟩:=h.cells j i;exact⟨b,k,l,zL f d.size,hc.below f d g⟩⟩
theorem PX.below {B:Nat}{a:L3}{L:M2}(h:PX w a n c L)(d:Below B w w')(m:R (Z w)<=B):PX w' a n c L:=
 ⟨h.len,h.aJ,λj i=>by
  obtain⟨b,f,k,l,c0,c1⟩:=h.cells j i;have g:b<B:=Oa;exact⟨b,f,k,zL l d.size,(d.cell (p:=⟨b,f+j*2,U⟩) g).trans c0,(d.cell (p:=⟨b,f+j*2+1,U⟩) g).trans c1⟩⟩
section
open Go.RowKit Go.Lib
theorem At {b:Nat}{a c:jF}(R:Ag w b #[a,c,d] t):jI w (jA b 0 U)=Q a/\jI w (jA b 1 U)=Q c/\jI w (jA b 2 U)=Q d:=
 ⟨Hz,Hy,by simpa using R.cell 2⟩
theorem Az {base':Nat}{e:jV}{size:Nat}{n:Nat}{a:L7}(h:jO w base e size v n a)(d:base'<=base):jO w base' e size v n a:=by
 refine⟨h.1,?_⟩;obtain f|⟨g,cap,b,hv,i,c,h3⟩:=h.2
 .grind
 .exact .inr ⟨g,cap,b,hv,Oa,c,h3⟩
end
def Ef:Ex->Nd
 |.int _ n=>⟨1,n,⟨#[]⟩,[],[]⟩
 |.text _ s=>⟨2,0,s,[],[]⟩
 |.bool _ b=>⟨3,if b then 1 else 0,⟨#[]⟩,[],[]⟩
 |.set _ _ _ _ ss=>⟨4,0,⟨#[]⟩,ss,[]⟩
 |.name _ s=>⟨5,0,s,[],[]⟩
 |.attr _ n=>⟨6,n,⟨#[]⟩,[],[]⟩
 |.lett _ n=>⟨7,n,⟨#[]⟩,[],[]⟩
 |.un _ op _=>⟨op,0,⟨#[]⟩,[],[]⟩
 |.bin _ op _ _=>⟨op,0,⟨#[]⟩,[],[]⟩
 |.ite .. =>⟨27,0,⟨#[]⟩,[],[]⟩
theorem Cm {b:Nat}{a c f g:jF}(R:Ag w b #[a,c,d,f,g] t):jI w (jA b 0 U)=Q a/\jI w (jA b 1 U)=Q c/\jI w (jA b 2 U)=Q d/\jI w (jA b 3 U)=Q f/\jI w (jA b 4 U)=Q g:=⟨R.cell 0,R.cell 1,R.cell 2,R.cell 3,R.cell 4⟩
theorem Cd {L:L2}(h:jO w base 3 1 (Y x n c) n<|Ak L)(a:n<=1048576):AP w x n c L:=by
 have b:T L=n:=by have:=h.1;rw[Ak,zN]at this;omega
 refine⟨b,a,λj d=>?_⟩;obtain⟨f,c',hv,hc⟩:=Ae h;cases hv;obtain⟨g,rfl,_,hg⟩:=hc Oa;refine⟨g,0,rfl,(h.lt g rfl).2,?_⟩
 grind [Ak]
def GN (N:L6) (L:L9):Bool:=match Fk (N.map Nd.aD) (T N) [] 0 with
 |none=>jE
 |some S=>decide (Au S=L.flatMap Ao)
theorem Bo {b:Nat}{a c:jF}(R:Ag w b #[a,c] t):jI w (jA b 0 U)=Q a/\jI w (jA b 1 U)=Q c:=⟨R.cell 0,R.cell 1⟩
section
variable{aS aO aZ aW:jG}
theorem Gw {a b:jG}(d:a≠b)(f:∃c t,(Z w)[jT a]? =Q (jH c t (0,0)))(g:∃c t,(Z w)[jT b]? =Q (jH c t (0,0))):
  Calls jZ 88 #[jU 273<|jP<|Q a,jU 273<|jP<|Q b] w λe w'=>e=jN (.bool jE)/\w'=w:=by grind [Aek]
theorem Zi (w:jB):
  Calls jZ 52 #[jX] w λe w'=>e=jN (V X 0)/\w'=w:=by
 go_enter func52,ntmps52
 go_wp2
 go_ret
 exact⟨rfl,rfl⟩
theorem Zj (w:jB)(hs:FV w aS aO aZ aW):
  Calls jZ 52 #[jU 273<|jP<|Q aO] w λe w'=>e=jN (V X 1)/\w'=w:=by
 have hg:=hs.g1;go_enter func52,ntmps52
 go_wp2_with fail
 refine(UV aO w).mono ?_;rintro e w' ⟨rfl,rfl⟩;go_wp2
 go_ret
 exact⟨rfl,rfl⟩
theorem Zk (w:jB)(hs:FV w aS aO aZ aW):
  Calls jZ 52 #[jU 273<|jP<|Q aZ] w λe w'=>e=jN (V X 2)/\w'=w:=by
 have hg:=hs.g1;have a:=hs.g2;go_enter func52,ntmps52
 go_wp2_with fail
 refine(Gw (λe=>hs.nOZ e.symm) hs.rZ hs.rO).mono ?_;rintro e w' ⟨rfl,rfl⟩;go_wp2_with fail
 refine(UV aZ _).mono ?_;rintro e w' ⟨rfl,rfl⟩;go_wp2
 go_ret
 exact⟨rfl,rfl⟩
theorem Zl (w:jB)(hs:FV w aS aO aZ aW):
  Calls jZ 52 #[jU 273<|jP<|Q aW] w λe w'=>e=jN (V X 3)/\w'=w:=by
 have hg:=hs.g1;have a:=hs.g2;have b:=hs.g3;go_enter func52,ntmps52
 go_wp2_with fail
 refine(Gw (λe=>hs.nOW e.symm) hs.rW hs.rO).mono ?_;rintro e w' ⟨rfl,rfl⟩;go_wp2_with fail
 refine(Gw (λe=>hs.nZW e.symm) hs.rW hs.rZ).mono ?_;rintro e w' ⟨rfl,rfl⟩;go_wp2_with fail
 refine(UV aW _).mono ?_;rintro e w' ⟨rfl,rfl⟩;go_wp2
 go_ret
 exact⟨rfl,rfl⟩
theorem Zm (w:jB)(hs:FV w aS aO aZ aW):
  Calls jZ 52 #[jU 273<|jP<|Q aS] w λe w'=>e=jN (V X 4)/\w'=w:=by
 have hg:=hs.g1;have a:=hs.g2;have b:=hs.g3;go_enter func52,ntmps52
 go_wp2_with fail
 refine(Gw hs.nSO hs.rS hs.rO).mono ?_;rintro e w' ⟨rfl,rfl⟩;go_wp2_with fail
 refine(Gw hs.nSZ hs.rS hs.rZ).mono ?_;rintro e w' ⟨rfl,rfl⟩;go_wp2_with fail
 refine(Gw hs.nSW hs.rS hs.rW).mono ?_;rintro e w' ⟨rfl,rfl⟩;go_wp2
 go_ret
 exact⟨rfl,rfl⟩
theorem UW (c:Int)(w:jB)(hs:FV w aS aO aZ aW)(hc: 0<=c/\c<=4):
  Calls jZ 52 #[Ny aS aO aZ aW c] w λe w'=>e=jN (V X c)/\w'=w:=by
 have h:c=0\/c=1\/c=2\/c=3\/c=4:=Oa;obtain rfl|rfl|rfl|rfl|rfl:=h
 .exact Zi w
 .exact Zj w hs
 .exact Zk w hs
 .exact Zl w hs
 .exact Zm w hs
end
def Cl (ss tt:L4):L4:=if Ay ss&&Ay tt then DU ss tt jD else []
theorem Dj {ss:L4}(h:Ay ss=jD):T ss<=64/\BM ss=jD:=by grind [Ay]
theorem Qq (ss tt:L4)(h:∀j,j<T ss->(AG ss j).size<=maxLen):∀j,j<T (Cl ss tt)->(AG (Cl ss tt) j).size<=maxLen:=by grind [Cl,QX]
theorem Wk (ss tt:L4):T (Cl ss tt)<=T ss:=by grind [Jb,Cl]
def MM (w:jB) (ss tt:L4) (e:Ending) (w':jB):Prop:=
 ∃x cx,e=jN (Y x (T<|Cl ss tt) cx)/\jO w' (R<|Z w) 9 1 (Y x (T<|Cl ss tt) cx) (T<|Cl ss tt) ((Cl ss tt).map Value.string)/\Ai w w'
theorem Ik {ss tt:L4}(h:Cl ss tt=[])(a:Ai w w'):MM w ss tt (jN<|Y U 0 0) w':=by grind [Go.World.ownsRow_nil,MM]
theorem AbR (a:L3)(n c:Nat)(ss:L4)(l:L3)(n' c':Nat)(tt:L4)(w:jB)(h:Aq w a n c ss)(j:Aq w l n' c' tt):
  Calls jZ 169 #[Y a n c,Y l n' c'] w λe w'=>MM w ss tt e w':=by
 cases d:Ay ss
 .have f:=Ab (show Cl ss tt=[] by simp[Cl,d]);go_enter func169,ntmps169
  go_wp2_with fail
  refine(AD _ _ _ _ _ h).mono ?_;rintro e m ⟨rfl,b⟩;rw[d];go_wp2
  go_ret
  exact Ik (Aa f) b
 .cases g:Ay tt
  .have f:=Ab (show Cl ss tt=[] by simp[Cl,g]);go_enter func169,ntmps169
   go_wp2_with fail
   refine(AD _ _ _ _ _ h).mono ?_;rintro e m ⟨rfl,b⟩;rw[d];go_wp2_with fail
   refine(AD _ _ _ _ _<|j.below b NLN).mono ?_;rintro e w2 ⟨rfl,k⟩;rw[g];go_wp2
   go_ret
   exact Ik (Aa f)<|b.trans<|k.mono b.size
  .obtain⟨s,o⟩:=Dj d;obtain⟨t,p⟩:=Dj g;have f:=Ab (show Cl ss tt=DU ss tt jD by simp[Cl,d,g]);go_enter func169,ntmps169
   go_wp2_with fail
   refine(AD _ _ _ _ _ h).mono ?_;rintro e m ⟨rfl,b⟩;rw[d];go_wp2_with fail
   refine(AD _ _ _ _ _<|j.below b NLN).mono ?_;rintro e w2 ⟨rfl,k⟩;rw[g];have i:=b.trans<|k.mono b.size;go_wp2_with fail
   refine(AeJ _ _ _ _ _ _ _ _ _ (h.below i NLN) (j.below i NLN) (Aa<|Ab o) (Aa<|Ab p) Q2<|H2 j.len).mono ?_;rintro e u ⟨x,cx,K,rfl,q,hb3,r⟩;go_wp2
   go_ret
   have e1:K=Cl ss tt:=by rw[Aa<|Ab r.bZ,Aa f]
   subst e1;exact⟨x,cx,rfl,CF q i.size,i.trans<|hb3.mono i.size⟩
def Bj (ss tt:L4):L4:=if Ay ss&&Ay tt then DU ss tt jE else []
theorem OC (ss tt:L4)(h:∀j,j<T ss->(AG ss j).size<=maxLen):∀j,j<T (Bj ss tt)->(AG (Bj ss tt) j).size<=maxLen:=by grind [QX,Bj]
theorem Ty (ss tt:L4):T (Bj ss tt)<=T ss:=by grind [Jb,Bj]
def Km (w:jB) (ss tt:L4) (e:Ending) (w':jB):Prop:=
 ∃x cx,e=jN (Y x (T<|Bj ss tt) cx)/\jO w' (R<|Z w) 9 1 (Y x (T<|Bj ss tt) cx) (T<|Bj ss tt) ((Bj ss tt).map Value.string)/\Ai w w'
theorem Gl {ss tt:L4}(h:Bj ss tt=[])(a:Ai w w'):Km w ss tt (jN<|Y U 0 0) w':=by grind [Km,Go.World.ownsRow_nil]
theorem Y0 (a:L3)(n c:Nat)(ss:L4)(l:L3)(n' c':Nat)(tt:L4)(w:jB)(h:Aq w a n c ss)(j:Aq w l n' c' tt):
  Calls jZ 170 #[Y a n c,Y l n' c'] w λe w'=>Km w ss tt e w':=by
 cases d:Ay ss
 .have f:=Ab (show Bj ss tt=[] by simp[Bj,d]);go_enter func170,ntmps170
  go_wp2_with fail
  refine(AD _ _ _ _ _ h).mono ?_;rintro e m ⟨rfl,b⟩;rw[d];go_wp2
  go_ret
  exact Gl (Aa f) b
 .cases g:Ay tt
  .have f:=Ab (show Bj ss tt=[] by simp[Bj,g]);go_enter func170,ntmps170
   go_wp2_with fail
   refine(AD _ _ _ _ _ h).mono ?_;rintro e m ⟨rfl,b⟩;rw[d];go_wp2_with fail
   refine(AD _ _ _ _ _<|j.below b NLN).mono ?_;rintro e w2 ⟨rfl,k⟩;rw[g];go_wp2
   go_ret
   exact Gl (Aa f)<|b.trans<|k.mono b.size
  .obtain⟨s,o⟩:=Dj d;obtain⟨t,p⟩:=Dj g;have f:=Ab (show Bj ss tt=DU ss tt jE by simp[Bj,d,g]);go_enter func170,ntmps170
   go_wp2_with fail
   refine(AD _ _ _ _ _ h).mono ?_;rintro e m ⟨rfl,b⟩;rw[d];go_wp2_with fail
   refine(AD _ _ _ _ _<|j.below b NLN).mono ?_;rintro e w2 ⟨rfl,k⟩;rw[g];have i:=b.trans<|k.mono b.size;go_wp2_with fail
   refine(Xf _ _ _ _ _ _ _ _ _ (h.below i NLN) (j.below i NLN) (Aa<|Ab o) (Aa<|Ab p) Q2<|H2 j.len).mono ?_;rintro e u ⟨x,cx,K,rfl,q,hb3,r⟩;go_wp2
   go_ret
   have e1:K=Bj ss tt:=by rw[Aa<|Ab r.bZ,Aa f]
   subst e1;exact⟨x,cx,rfl,CF q i.size,i.trans<|hb3.mono i.size⟩
def Ey (ss tt:L4):Bool:=Ay ss&&(Ay tt&&decide (T (DU ss tt jE)=0))
theorem Wj (a:L3)(n c:Nat)(ss:L4)(k:L3)(n' c':Nat)(tt:L4)(w:jB)(h:Aq w a n c ss)(d:Aq w k n' c' tt):
  Calls jZ 171 #[Y a n c,Y k n' c'] w λe w'=>e=jN (.bool<|Ey ss tt)/\Ai w w':=by
 cases g:Ay ss
 .go_enter func171,ntmps171
  go_wp2_with fail
  refine(AD _ _ _ _ _ h).mono ?_;rintro e l ⟨rfl,b⟩;go_wp2
  go_ret
  exact⟨Af<|by simp[Ey,g],b⟩
 .cases i:Ay tt
  .go_enter func171,ntmps171
   go_wp2_with fail
   refine(AD _ _ _ _ _ h).mono ?_;rintro e l ⟨rfl,b⟩;go_wp2_with fail
   refine(AD _ _ _ _ _<|d.below b NLN).mono ?_;rintro e w2 ⟨rfl,j⟩;go_wp2
   go_ret
   exact⟨Af<|by simp[Ey,i],b.trans<|j.mono b.size⟩
  .obtain⟨q,m⟩:=Dj g;obtain⟨r,o⟩:=Dj i;go_enter func171,ntmps171
   go_wp2_with fail
   refine(AD _ _ _ _ _ h).mono ?_;rintro e l ⟨rfl,b⟩;go_wp2_with fail
   refine(AD _ _ _ _ _<|d.below b NLN).mono ?_;rintro e w2 ⟨rfl,j⟩;have f:=b.trans<|j.mono b.size;go_wp2_with fail
   refine(Xf _ _ _ _ _ _ _ _ _ (h.below f NLN) (d.below f NLN) (Aa<|Ab m) (Aa<|Ab o) Q2<|H2 d.len).mono ?_;rintro e s ⟨x,cx,K,rfl,t,hb3,p⟩;go_wp2
   go_ret
   refine⟨Af ?_,f.trans<|hb3.mono f.size⟩;rw[Aa<|Ab p.bZ];simp only[Ey,g,i,zm];rw[zQ];simp
set_option maxRecDepth 100000
set_option maxHeartbeats 3200000
set_option linter.unusedVariables false
theorem TH (s:K9)(w:jB)(hs:s.size<=1048576):
  Calls jZ 68 #[jC s] w λe w'=>e=jN (.bool<|SN s)/\w'=w:=by
 by_cases h0:s.size=0
 .have e:s=⟨#[]⟩:=Ja<|zd h0;subst e;go_enter func68,ntmps68
  go_wp2
  go_ret
  exact⟨rfl,rfl⟩
 .have c:=CH h0;have b:=Ab (show SN s=vnB s by rw[SN,vnB,show decide (1<=s.size/\s.size<=32)=decide (s.size<=32) by rw[decide_eq_decide];omega]);go_enter func68,ntmps68
  go_wp2_with (go_at_call 22;refine(CL _ _ O2).mono ?_;rintro e w' ⟨rfl,a⟩;rw[a];clear a)
  go_ret
  exact⟨Af (Aa b).symm,rfl⟩
theorem MC (op:Int)(w:jB):
  Calls jZ 35 #[V X op] w λe w'=>e=jN (.bool<|GJ op)/\w'=w:=by
 go_enter func35,ntmps35
 go_wp2
 all_goals
  go_ret
  refine⟨Af ?_,rfl⟩;rw[GJ];rw[zQ,decide_eq_true_iff];simp
  try omega
theorem MD (i:Be)(w:jB):
  Calls jZ 42 #[jM #[V X i.op,V X i.aY]] w λe w'=>e=jN (.bool<|EF i)/\Ai w w':=by
 have b:=AE w<|jH #[V X i.op,V X i.aY] 80;obtain⟨op,a⟩:=i;have c:=Ab<|show EF ⟨op,a⟩=(decide (1<=op/\op<=25)&&(if GJ op then decide (0<=a/\a<=65535)else decide (a=0)))from rfl;have d:=Ab<|show GJ op=decide ((1<=op/\op<=4)\/op=22\/op=23)from rfl;generalize EF ⟨op,a⟩=h at c|-;simp only at b|-;by_cases f:(1<=op/\op<=4)\/op=22\/op=23
 .have:op=1\/op=2\/op=3\/op=4\/op=22\/op=23:=Oa;obtain e|e|e|e|e|e:=this<;>subst e<;>(go_enter func42,ntmps42;go_wp2)<;>(go_ret;refine⟨Af ?_,b⟩;rw[Aa c,Aa d];simp<;>omega)
 .have g:=Ab (show GJ op=jE by rw[Aa d,zH f]);have e1:(op==1)=jE:=zA.2 Oa;have e2:(op==2)=jE:=zA.2 Oa;have e3:(op==3)=jE:=zA.2 Oa;have e4:(op==4)=jE:=zA.2 Oa;have j:(op==22)=jE:=zA.2 Oa;have k:(op==23)=jE:=zA.2 Oa;go_enter func42,ntmps42
  go_wp2
  all_goals
   go_ret
   refine⟨Af ?_,b⟩;rw[Aa c,Aa g]
   first
    |(rw[zJ Oa];rfl)
    |(rw[zH Oa];rfl)
theorem Ke (x:Vl)(an:L3)(nn cn:Nat)(w:jB)(m:Aq w an nn cn x.aB)(hs:x.text.size<=1048576):
  Calls jZ 41 #[jM #[V X x.aC,V X x.num,jC x.text,Y an nn cn]] w λe w'=>e=jN (.bool<|CW x)/\Ai w w':=by
 have A:=m.aJ;unfold maxLen at A;have a:=Ab (show CW x=(if x.aC=1 then decide (x.num=0\/x.num=1)&&decide (x.text.size=0)&&decide (nn=0)else if x.aC=2 then decide (x.text.size=0)&&decide (nn=0)else if x.aC=3 then SN x.text&&decide (x.num=0)&&decide (nn=0)else if x.aC=4 then Ay x.aB&&decide (x.num=0)&&decide (x.text.size=0)else jE) by rw[CW,<-m.len]);generalize CW x=D at a|-;obtain⟨d,num,text,v⟩:=x;simp only at a m hs|-;have y:=AE w<|jH #[V X d,V X num,jC text,Y an nn cn] 77;have z:=Ag.new w #[V X d,V X num,jC text,Y an nn cn] 77;have g:=m.below y NLN;obtain⟨c0,c1,c2,c3⟩:=Cx z;go_enter func41,ntmps41
 go_wp2_with fail
 generalize jK w (jH #[V X d,V X num,jC text,Y an nn cn] 77)=n at*;go_region
 have o:Ag (jR n) (R<|Z w) #[V X d,V X num,jC text,Y an nn cn] 77:=⟨z.out⟩
 have c:Ai w<|jR n:=y.drew;have p:Aq (jR n) an nn cn v:=⟨g.len,g.cap,g.aJ,g.bC,g.cells⟩
 generalize jR n=E at o c p|-;obtain⟨c0,c1,c2,c3⟩:=Cx o;by_cases q:d=1
 .subst q;have a:=Ab ((Aa a).trans<|by rw[H8 rfl]);go_wp2
  all_goals
   go_ret
   refine⟨Af ?_,(by first|exact c|exact AE w _)⟩
   rw[Aa a];have h:=CM text;have i:text.toList.isEmpty=decide (text.size=0):=P5;have j:((nn:Int)==0)=decide (nn=0):=Q3
   simp_all
   try omega
 by_cases r:d=2
 .subst r;have a:=Ab ((Aa a).trans<|by rw[H7 Oa,H8 rfl]);go_wp2
  all_goals
   go_ret
   refine⟨Af ?_,(by first|exact c|exact AE w _)⟩
   rw[Aa a];have h:=CM text;have i:text.toList.isEmpty=decide (text.size=0):=P5;have j:((nn:Int)==0)=decide (nn=0):=Q3
   simp_all
   try omega
 by_cases s:d=3
 .subst s;have a:=Ab ((Aa a).trans<|by rw[H7 Oa,H7 Oa,H8 rfl]);cases hq:SN text
  .have b:=Ab hq;go_wp2_with (go_at_call 71;refine(IG _ _ O2).mono ?_;rintro e w2 ⟨rfl,k⟩;rw[show(decide (text.size<=32)&&IY text.data.toList)=SN text from rfl];rw[Aa b,k];clear k)
   all_goals
    go_ret
    refine⟨Af ?_,(by first|exact c|exact AE w _)⟩
    rw[Aa a];have hq:=Aa b;have h:=CM text;have i:text.toList.isEmpty=decide (text.size=0):=P5;have j:((nn:Int)==0)=decide (nn=0):=Q3
    simp_all
    try omega
  .have b:=Ab hq;go_wp2_with (go_at_call 71;refine(IG _ _ O2).mono ?_;rintro e w2 ⟨rfl,k⟩;rw[show(decide (text.size<=32)&&IY text.data.toList)=SN text from rfl];rw[Aa b,k];clear k)
   all_goals
    go_ret
    refine⟨Af ?_,(by first|exact c|exact AE w _)⟩
    rw[Aa a];have hq:=Aa b;have h:=CM text;have i:text.toList.isEmpty=decide (text.size=0):=P5;have j:((nn:Int)==0)=decide (nn=0):=Q3
    simp_all
    try omega
 by_cases t:d=4
 .subst t;have a:=Ab ((Aa a).trans<|by rw[H7 Oa,H7 Oa,H7 Oa,H8 rfl]);cases hq:Ay v
  .have b:=Ab hq;have f:=Ab<|K6 o c;go_wp2_with (go_at_call 10;refine(AD _ _ _ _ _ p).mono ?_;rintro e w2 ⟨rfl,l⟩;rw[Aa b];have u:=(Aa f).2.trans<|l.mono (Aa f).2.size;obtain⟨B,d1,d2,d3⟩:=Cx<|(Aa f).1.aA l NLN)
   all_goals
    go_ret
    refine⟨Af ?_,by first|exact u|exact c|exact AE w _⟩
    rw[Aa a];have hq:=Aa b;have h:=CM text;have i:text.toList.isEmpty=decide (text.size=0):=P5;have j:((nn:Int)==0)=decide (nn=0):=Q3
    simp_all
    try omega
  .have b:=Ab hq;have f:=Ab<|K6 o c;go_wp2_with (go_at_call 10;refine(AD _ _ _ _ _ p).mono ?_;rintro e w2 ⟨rfl,l⟩;rw[Aa b];have u:=(Aa f).2.trans<|l.mono (Aa f).2.size;obtain⟨B,d1,d2,d3⟩:=Cx<|(Aa f).1.aA l NLN)
   all_goals
    go_ret
    refine⟨Af ?_,by first|exact u|exact c|exact AE w _⟩
    rw[Aa a];have hq:=Aa b;have h:=CM text;have i:text.toList.isEmpty=decide (text.size=0):=P5;have j:((nn:Int)==0)=decide (nn=0):=Q3
    simp_all
    try omega
 have C:=Ab ((Aa a).trans<|by rw[H7 q,H7 r,H7 s,H7 t]);have e1:=zA.2 q;have e2:=zA.2 r;have e3:=zA.2 s;have e4:=zA.2 t;go_wp2
 all_goals
  go_ret
  exact⟨Af (Aa C).symm,by first|exact c|exact AE w _⟩
theorem OH (x:Vl)(an:L3)(nn cn:Nat)(w:jB)(h:Aq w an nn cn x.aB)(hs:x.text.size<=1048576):
  Calls jZ 34 #[jM #[V X x.aC,V X x.num,jC x.text,Y an nn cn]] w λe w'=>e=jN (.bool<|CW x)/\Ai w w':=by
 have u:=h.aJ;unfold maxLen at u;have a:=Ab (show CW x=(if x.aC=1 then decide (x.num=0\/x.num=1)&&decide (x.text.size=0)&&decide (nn=0)else if x.aC=2 then decide (x.text.size=0)&&decide (nn=0)else if x.aC=3 then SN x.text&&decide (x.num=0)&&decide (nn=0)else if x.aC=4 then Ay x.aB&&decide (x.num=0)&&decide (x.text.size=0)else jE) by rw[CW,<-h.len]);generalize CW x=i at a|-;obtain⟨d,num,text,v⟩:=x;simp only at a h hs|-;have q:=AE w<|jH #[V X d,V X num,jC text,Y an nn cn] 77;have y:=Ag.new w #[V X d,V X num,jC text,Y an nn cn] 77;have z:=h.below q NLN;go_enter func34,ntmps34
 have B:=y;have b:=q;have A:=z;by_cases j:d=1
 .subst j;have a:=Ab ((Aa a).trans<|by rw[H8 rfl]);go_wp2
  all_goals
   go_ret
   refine⟨Af ?_,(by first|exact b|exact AE w _)⟩
   rw[Aa a];have k:=CM text;have r:text.toList.isEmpty=decide (text.size=0):=P5;have l:((nn:Int)==0)=decide (nn=0):=Q3
   simp_all
   try omega
 by_cases m:d=2
 .subst m;have a:=Ab ((Aa a).trans<|by rw[H7 Oa,H8 rfl]);go_wp2
  all_goals
   go_ret
   refine⟨Af ?_,(by first|exact b|exact AE w _)⟩
   rw[Aa a];have k:=CM text;have r:text.toList.isEmpty=decide (text.size=0):=P5;have l:((nn:Int)==0)=decide (nn=0):=Q3
   simp_all
   try omega
 by_cases n:d=3
 .subst n;have a:=Ab ((Aa a).trans<|by rw[H7 Oa,H7 Oa,H8 rfl]);cases hq:SN text
  .have f:=Ab hq;go_wp2_with (go_at_call 68;refine(TH _ _ hs).mono ?_;rintro e w2 ⟨rfl,g⟩;rw[Aa f,g];clear g)
   all_goals
    go_ret
    refine⟨Af ?_,(by first|exact b|exact AE w _)⟩
    rw[Aa a];have hq:=Aa f;have k:=CM text;have r:text.toList.isEmpty=decide (text.size=0):=P5;have l:((nn:Int)==0)=decide (nn=0):=Q3
    simp_all
    try omega
  .have f:=Ab hq;go_wp2_with (go_at_call 68;refine(TH _ _ hs).mono ?_;rintro e w2 ⟨rfl,g⟩;rw[Aa f,g];clear g)
   all_goals
    go_ret
    refine⟨Af ?_,(by first|exact b|exact AE w _)⟩
    rw[Aa a];have hq:=Aa f;have k:=CM text;have l:((nn:Int)==0)=decide (nn=0):=Q3
    simp_all
    try omega
 by_cases o:d=4
 .subst o;have a:=Ab ((Aa a).trans<|by rw[H7 Oa,H7 Oa,H7 Oa,H8 rfl]);by_cases p:num=0
  .subst p;by_cases ht:text.size=0
   .have s:text=ByteArray.empty:=Ja<|zd ht;subst s;have c:=Ab (show i=Ay v by rw[Aa a];simp);go_wp2_with (go_at_call 23;refine(AC _ _ _ _ _ A).mono ?_;rintro e w2 ⟨rfl,t⟩;rw[t];clear t)
    go_ret
    exact⟨Af (Aa c).symm,b⟩
   .have s:=CH ht;have c:=Ab (show i=jE by rw[Aa a,zH ht,Bool.and_false]);go_wp2
    go_ret
    exact⟨Af (Aa c).symm,b⟩
  .have en:(num==0)=jE:=zA.2 p;have c:=Ab (show i=jE by rw[Aa a,zH p];simp);go_wp2
   go_ret
   exact⟨Af (Aa c).symm,b⟩
 have c:=Ab ((Aa a).trans<|by rw[H7 j,H7 m,H7 n,H7 o]);have e1:=zA.2 j;have e2:=zA.2 m;have e3:=zA.2 n;have e4:=zA.2 o;go_wp2
 all_goals
  go_ret
  exact⟨Af (Aa c).symm,by first|exact b|exact AE w _⟩
section
open Go.RowKit Go.Lib
theorem ME (a b:L3)(n c m d:Nat)(s:Int)(w:jB)(f:n<=1048576)(hm:m<=1048576):
  Calls jZ 39 #[jM #[Y a n c,V X s,Y b m d]] w λe w'=>e=jN (jM #[V X n,V X s,V X m])/\Ai w w':=by
 go_enter func39,ntmps39
 go_wp2
 exact G2 (v:= jM #[V X n,V X s,V X m]) (by simp[results,results39,go_sem]) rfl ⟨rfl,(AE w _).alloc Ox _⟩
theorem WN (n m:Nat)(s:Int)(w:jB):
  Calls jZ 40 #[jM #[V X n,V X s,V X m]] w λe w'=>e=jN (.bool<|decide (n<=4000/\m<=20000/\0<=s/\s<=600))/\Ai w w':=by
 go_enter func40,ntmps40
 go_wp2
 all_goals
  go_ret
  refine⟨Af ?_,AE w _⟩;rw[zQ];simp
  try omega
theorem Kf {a:Type}(p:a->Bool)(L:List a):L.all p=jD↔∀j,(h:j<T L)->p L[j]=jD:=by grind [zI,zq,zw]
theorem QL (a b:L3)(n c m d:Nat)(s:Int)(P:M1)(I:M2)(w:jB)(v:SC w a n c P)(E:PX w b m d I):
  Calls jZ 16 #[jM #[Y a n c,V X s,Y b m d]] w λe w'=>e=jN (.bool<|DO P s I)/\Ai w w':=by
 have W:=v.aJ;have hm:=E.aJ;have aa:=Ab v.len;have ab:=Ab E.len;have F:=Ab (show DO P s I=(decide (n<=4000/\m<=20000/\0<=s/\s<=600)&&P.all CW&&I.all EF) by rw[DO,v.len,E.len]);have ac:=Ag.new w #[Y a n c,V X s,Y b m d] 26;have G:=AE w<|jH #[Y a n c,V X s,Y b m d] 26;generalize DO P s I=t at F|-;generalize ak:decide (n<=4000/\m<=20000/\0<=s/\s<=600)=ft at F;have ad:=Ab ak;go_enter func16,ntmps16
 cases ft
 .have q:=Ab (show t=jE by rw[Aa F];rfl);go_wp2_with (first
   |(go_at_call 39;refine(ME _ _ _ _ _ _ _ _ W hm).mono ?_;rintro e w2 ⟨rfl,x⟩)
   |(go_at_call 40;refine(WN _ _ _ _).mono ?_;rintro e al ⟨rfl,hb3⟩;rw[Aa ad]))
  go_ret
  exact⟨Af (Aa q).symm,G.trans<|(x.trans<|hb3.mono x.size).mono G.size⟩
 .have ae:=Ab (show t=(P.all CW&&I.all EF) by rw[Aa F,zm]);go_wp2_with (first
   |(go_at_call 39;refine(ME _ _ _ _ _ _ _ _ W hm).mono ?_;rintro e w2 ⟨rfl,x⟩)
   |(go_at_call 40;refine(WN _ _ _ _).mono ?_;rintro e al ⟨rfl,hb3⟩;rw[Aa ad];have H:=x.trans<|hb3.mono x.size;obtain⟨ao,q1,q2⟩:=At<|ac.aA H NLN))
  have ap:=G.trans<|H.mono G.size;go_loopw [14] (λi wr=>∃k:Nat,k<=n/\i=V X k/\Ai w wr/\Ag wr (R<|Z w) #[Y a n c,V X s,Y b m d] 26/\Hid (∀j,(g:j<T P)->j<k->CW P[j]=jD)) (λi _=>n-(intOf i).toNat)
  case atStart=>exact⟨0,zE _,rfl,ap,ac.aA H NLN,Ab λj _ h=>H9 h Oa⟩
  case round=>
   obtain⟨k,aB,rfl,l,af,y⟩:=hrel;by_cases A:k<n
   .have J:(k:Int)<(n:Int):=Oa;have u:k<T P:=by rw[Aa aa];exact A
    have K:=v.bC P[k]<|zI u;obtain⟨aq,ar,rfl,au,an,nn,cn,L,M,av,aw,ag⟩:=(v.below l NLN).cells k u;have B:=Ab (show CW P[k]=jE->t=jE from λe=>by
     rw[Aa ae,show P.all CW=jE by rw[<-Bool.not_eq_true,Kf];intro h;rw[h k u]at e;cases e];rfl)
    have C:=Ab (show CW P[k]=jD->∀j,(g:j<T P)->j<k+1->CW P[j]=jD from λe j g ax=>by
     by_cases N:j=k
     .subst N;exact e
     .exact Aa y j g Oa)
    have D:=Ab A;generalize P[k]=z at L M av aw K ag B C;have o:=l.alloc l.size<|jH #[V X z.aC,V X z.num,jC z.text,Y an nn cn] 77;have ah:=AE wr<|jH #[V X z.aC,V X z.num,jC z.text,Y an nn cn] 77;have ai:=ag.below ah NLN;have ay:=af.aA ah NLN;cases hv:CW z
    .have q:=Ab<|Aa B hv;have r:=Ab hv;go_wp2_with (go_at_call 41;refine(Ke z an nn cn _ ai K).mono ?_;rintro e O ⟨rfl,p⟩;rw[Aa r])
     go_ret
     exact⟨Af (Aa q).symm,o.trans<|p.mono o.size⟩
    .have S:=Ab<|Aa C hv;have r:=Ab hv;go_wp2_with (go_at_call 41;refine(Ke z an nn cn _ ai K).mono ?_;rintro e O ⟨rfl,p⟩;rw[Aa r])
     go_roundw
     case rel=>exact⟨k+1,Aa D,O1,o.trans<|p.mono o.size,ay.aA p NLN,S⟩
     case measure=>have:=Aa D;simp[intOf];omega
   .have aj:=Ab (show t=I.all EF by rw[Aa ae,(Kf CW P).2 λj g=>Aa y j g<|H2<|Aa aa,zm]);have J: ¬ ((k:Int)<(n:Int)):=Oa;obtain⟨ao,q1,q2⟩:=At af;have az:=Ab l;go_wp2_with fail
    go_loopw [25] (λi wr=>∃k:Nat,k<=m/\i=V X k/\Ai w wr/\Hid (∀j,(g:j<T I)->j<k->EF I[j]=jD)) (λi _=>m-(intOf i).toNat)
    case atStart=>exact⟨0,zE _,rfl,Aa az,Ab λj _ h=>H9 h Oa⟩
    case round=>
     obtain⟨f,aD,rfl,l,y⟩:=hrel;by_cases A:f<m
     .have J:(f:Int)<(m:Int):=Oa;have u:f<T I:=by rw[Aa ab];exact A
      obtain⟨aq,ar,rfl,au,L,M⟩:=(E.below l NLN).cells f u;have B:=Ab (show EF I[f]=jE->t=jE from λe=>by
       rw[Aa aj,<-Bool.not_eq_true,Kf];intro h;rw[h f u]at e;cases e)
      have C:=Ab (show EF I[f]=jD->∀j,(g:j<T I)->j<f+1->EF I[j]=jD from λe j g ax=>by
       by_cases N:j=f
       .subst N;exact e
       .exact Aa y j g Oa)
      have D:=Ab A;generalize I[f]=z at L M B C;have o:=l.alloc l.size<|jH #[V X z.op,V X z.aY] 80;cases hv:EF z
      .have q:=Ab<|Aa B hv;have r:=Ab hv;go_wp2_with (go_at_call 42;refine(MD z _).mono ?_;rintro e O ⟨rfl,p⟩;rw[Aa r])
       go_ret
       exact⟨Af (Aa q).symm,o.trans<|p.mono o.size⟩
      .have S:=Ab<|Aa C hv;have r:=Ab hv;go_wp2_with (go_at_call 42;refine(MD z _).mono ?_;rintro e O ⟨rfl,p⟩;rw[Aa r])
       go_roundw
       case rel=>exact⟨f+1,Aa D,O1,o.trans<|p.mono o.size,S⟩
       case measure=>have:=Aa D;simp[intOf];omega
     .have q:=Ab (show t=jD by rw[Aa aj];exact(Kf EF I).2 (λj g=>Aa y j g<|H2<|Aa ab));have J: ¬ ((f:Int)<(m:Int)):=Oa;go_wp2
      go_ret
      exact⟨Af (Aa q).symm,l⟩
end
structure Vs where
 stack:L2
 aE:L2
deriving DecidableEq
abbrev M5:=L0 Vs
def Jk:List<|Int×Int×Int×Int:= [(8,2,0,2),(9,1,0,1),(10,4,0,2),(11,2,2,2),(12,2,2,2),(13,2,2,2),(14,2,2,2),(15,2,2,2),(16,4,4,4),(17,4,4,4),(18,4,4,4),(21,2,2,1),(22,2,2,1),(23,3,4,1),(24,4,4,1),(25,1,1,1),(26,1,1,1)]
def Vz (op l r:Int) (s:Int×Int×Int×Int):Bool:=s.1==op&&(s.2.1==l&&s.2.2.1==r)
def MZ (op l r:Int):N7:=if op=19\/op=20 then (if l=r then Q 1 else U)else (Jk.find?<|Vz op l r).map λs=>s.2.2.2
def AM (op:Int):Nat:=if op=1\/op=2\/op=3\/op=22\/op=24 then 0 else if op=4\/op=5\/op=6\/op=7\/op=23\/op=25 then 1 else 2
def F7 (n:Int):Int:=if n<2 then 3 else if n<4 then 2 else 4
def CA (st:L2):Int:=st.getLast?.getD 0
def RZ (l:L2) (x:Int):Int:=l.getD x.toNat 0
def AF (np S M at_:Nat) (i:Be):Bool:=
 if i.op=1 then decide (i.aY<np)else if i.op=2 then decide (i.aY<6)else if i.op=3\/i.op=4 then decide (i.aY<S)else if i.op=22\/i.op=23 then decide ((at_:Int)<i.aY/\i.aY<M)else jD
def FQ (op:Int) (st:L2):N7:=if AM op=1 then MZ (op+3) (CA st) 0 else MZ (op+3) (st.getD (T st-2) 0) (CA st)
def AJ (i:Be) (s:Vs):Bool:=
 if i.op=1\/i.op=2\/i.op=3\/i.op=22\/i.op=24 then jD
 else if i.op=4 then decide (RZ s.aE i.aY=0\/RZ s.aE i.aY=CA s.stack)
 else if i.op=23 then decide (CA s.stack=1)
 else if i.op=25 then decide (CA s.stack=4)
 else (FQ i.op s.stack).isSome
def BR (PK:L2) (i:Be) (s:Vs):Int:=
 if i.op=1 then RZ PK i.aY else if i.op=2 then F7 i.aY else if i.op=3 then RZ s.aE i.aY
 else if i.op=4\/i.op=22\/i.op=23\/i.op=24\/i.op=25 then 0 else (FQ i.op s.stack).getD 0
def AT (PK:L2) (i:Be) (s:Vs):Vs:=
 if i.op=4 then ⟨s.stack.take<|T s.stack-1,s.aE.set i.aY.toNat<|CA s.stack⟩
 else if BR PK i s=0 then ⟨s.stack.take<|T s.stack-AM i.op,s.aE⟩
 else ⟨s.stack.take (T s.stack-AM i.op)++[BR PK i s],s.aE⟩
def As (PK:L2) (S M at_:Nat) (i:Be) (s:Vs):Int×Vs:=
 if AF (T PK) S M at_ i=jE then (3,s)
 else if T s.stack<AM i.op then (4,s)
 else if AJ i s=jE then (5,s)
 else if i.op=3/\RZ s.aE i.aY=0 then (6,s)
 else if 100<T (AT PK i s).stack then (7,s)
 else (0,AT PK i s)
def AI (at_:Nat) (i:Be):N6:=if i.op=24\/i.op=25 then []else if i.op=22 then [i.aY.toNat]else if i.op=23 then [at_+1,i.aY.toNat]else [at_+1]
def G3 (t:Vs):N6->List M5->Int×List M5
 |[],k=>(0,k)
 |n ::ns,k=>if n=T k then (8,k)else match k.getD n U with
  |none=>G3 t ns<|k.set n<|Q t
  |some u=>if u=t then G3 t ns k else (9,k)
def Gp (PK:L2) (S:Nat) (I:M2):Nat->Nat->List M5->Nat->Int×Int
 |0,_,_,b=>((b:Int),0)
 |r+1,at_,k,b=>match k.getD at_ U with
  |none=>(0,2)
  |some s=>
   if (As PK S (T I) at_ (I.getD at_ ⟨0,0⟩) s).1≠0 then (0,(As PK S (T I) at_ (I.getD at_ ⟨0,0⟩) s).1)
   else if (G3 (As PK S (T I) at_ (I.getD at_ ⟨0,0⟩) s).2 (AI at_<|I.getD at_ ⟨0,0⟩) k).1≠0 then (0,(G3 (As PK S (T I) at_ (I.getD at_ ⟨0,0⟩) s).2 (AI at_<|I.getD at_ ⟨0,0⟩) k).1)
   else Gp PK S I r (at_+1) (G3 (As PK S (T I) at_ (I.getD at_ ⟨0,0⟩) s).2 (AI at_<|I.getD at_ ⟨0,0⟩) k).2 (max b<|max (T s.stack)<|T (As PK S (T I) at_ (I.getD at_ ⟨0,0⟩) s).2.stack)
def DG (P:M1) (s:Int) (I:M2):Int×Int:=
 if DO P s I=jE then (0,1)else if I=[]then (0,8)
 else Gp (P.map Vl.aC) s.toNat I (T I) 0 ((List.replicate (T I) U).set 0<|Q ⟨[],List.replicate s.toNat 0⟩) 0
theorem Ah7 (t:Vs):∀(ns:N6) (k:List M5),T (G3 t ns k).2=T k:=by intro ns;induction ns<;>intros<;>grind [G3]
theorem JK {S M at_:Nat}{i:Be}{s:Vs}(h:(As PK S M at_ i s).1=0):T (As PK S M at_ i s).2.stack<=100:=by
 unfold As at*
 grind
theorem It {S M at_:Nat}{i:Be}{s:Vs} :T (As PK S M at_ i s).2.aE=T s.aE:=by
 have a:T (AT PK i s).aE=T s.aE:=by grind [AT]
 grind [As]
theorem PJ (op l r:Int)(h0: 11<=op)(a:op<=24):MZ op l r=
  if op<=15 then (if l=2/\r=2 then Q 2 else U)
  else if op<=18 then (if l=4/\r=4 then Q 4 else U)
  else if op<=20 then (if l=r then Q 1 else U)
  else if op<=22 then (if l=2/\r=2 then Q 1 else U)
  else if op=23 then (if l=3/\r=4 then Q 1 else U)
  else (if l=4/\r=4 then Q 1 else U):=by
 have:op=11\/op=12\/op=13\/op=14\/op=15\/op=16\/op=17\/op=18\/op=19\/op=20\/op=21\/op=22\/op=23\/op=24:=Oa;obtain rfl|rfl|rfl|rfl|rfl|rfl|rfl|rfl|rfl|rfl|rfl|rfl|rfl|rfl:=this
 case inr.inr.inr.inr.inr.inr.inr.inr.inl=>simp[MZ]
 case inr.inr.inr.inr.inr.inr.inr.inr.inr.inl=>simp[MZ]
 all_goals
  simp only[MZ,Jk,Vz,List.find?];simp;split<;>rename_i hh<;>simp at hh
  .rw[H8<|by constructor<;>omega];rfl
  .rw[H7 Oa];rfl
theorem ZF (op l:Int)(h0: 8<=op)(a:op<=10):MZ op l 0=if op=8 then (if l=2 then Q 2 else U)else if op=9 then (if l=1 then Q 1 else U)else (if l=4 then Q 2 else U):=by
 have:op=8\/op=9\/op=10:=Oa;obtain rfl|rfl|rfl:=this
 all_goals
  simp only[MZ,Jk,Vz,List.find?];simp;split<;>rename_i hh<;>simp at hh
  .rw[H8 Oa];rfl
  .rw[H7 Oa];rfl
set_option maxRecDepth 100000
set_option maxHeartbeats 6400000
def Ya:Array jF:=#[V X 8,V X 2,V X 0,V X 2,V X 9,V X 1,V X 0,V X 1,V X 10,V X 4,V X 0,V X 2,V X 11,V X 2,V X 2,V X 2,V X 12,V X 2,V X 2,V X 2,V X 13,V X 2,V X 2,V X 2,V X 14,V X 2,V X 2,V X 2,V X 15,V X 2,V X 2,V X 2,V X 16,V X 4,V X 4,V X 4,V X 17,V X 4,V X 4,V X 4,V X 18,V X 4,V X 4,V X 4,V X 21,V X 2,V X 2,V X 1,V X 22,V X 2,V X 2,V X 1,V X 23,V X 3,V X 4,V X 1,V X 24,V X 4,V X 4,V X 1,V X 25,V X 1,V X 1,V X 1,V X 26,V X 1,V X 1,V X 1]
theorem AfW:∀k,k<17->Ya.extract (k*4) (k*4+4)= #[V X (Jk.getD k (0,0,0,0)).1,V X (Jk.getD k (0,0,0,0)).2.1,V X (Jk.getD k (0,0,0,0)).2.2.1,V X (Jk.getD k (0,0,0,0)).2.2.2]
 |0,_=>rfl
 |1,_=>rfl
 |2,_=>rfl
 |3,_=>rfl
 |4,_=>rfl
 |5,_=>rfl
 |6,_=>rfl
 |7,_=>rfl
 |8,_=>rfl
 |9,_=>rfl
 |10,_=>rfl
 |11,_=>rfl
 |12,_=>rfl
 |13,_=>rfl
 |14,_=>rfl
 |15,_=>rfl
 |16,_=>rfl
 |n+17,h=>H9 h Oa
def AkJ:Array jF:=#[jC ⟨#[99,108,105,101,110,116]⟩,V X 3,jC ⟨#[117,115,101,114]⟩,V X 3,jC ⟨#[108,101,118,101,108]⟩,V X 2,jC ⟨#[110,111,119]⟩,V X 2,jC ⟨#[97,115,107,101,100]⟩,V X 4,jC ⟨#[97,103,114,101,101,100]⟩,V X 4]
structure Lk (w:jB) (aT:jG):Prop where
 s: 5 <R (Z w)
 sc:∀k,jI w ⟨5,k,U⟩=Ya[k]?
 a: 3 <R (Z w)
 ac:∀k,jI w ⟨3,k,U⟩=AkJ[k]?
 e: 4 <R (Z w)
 ec:jI w ⟨4,0,U⟩=Q (jU 273<|jP<|Q aT)
theorem Lk.below {d:jG}{B:Nat}(h:Lk w d)(b:Below B w w')(c:R (Z w)<=B):Lk w' d:=
 ⟨zL h.s b.size,λk=>(b.cell (p:=⟨5,k,U⟩)<|zL h.s c).trans<|h.sc k,zL h.a b.size,λk=>(b.cell (p:=⟨3,k,U⟩)<|zL h.a c).trans<|h.ac k,zL h.e b.size,(b.cell (p:=⟨4,0,U⟩)<|zL h.e c).trans h.ec⟩
def AfX (b:Bool) (aT:jG):jF:=match b with|true=> jX|false=> jU 273 (jP<|Q aT)
def Uq (o:N7) (aT:jG) (e:Ending):Prop:=e=jN (jQ #[V X<|o.getD 0,AfX o.isSome aT])
theorem Abt (p:Int×Int×Int×Int->Bool):∀(l:List<|Int×Int×Int×Int) (k:Nat) (h:k<T l),(∀j,j<k->(a:j<T l)->p l[j]=jE)->p l[k]=jD->l.find? p=Q l[k]
 |x ::l,0,_,_,hp=>S4
 |x ::l,k+1,h,hn,hp=>by
  have h0:=hn 0 Oa Ox;simp at h0;rw[List.find?_cons_of_neg<|by simp[h0]];have:=Abt p l k Q6 (λj a b=>by have:=hn (j+1) Oa (by simpa using b);simpa using this) (by simpa using hp)
  grind
theorem Ah8 (p:Int×Int×Int×Int->Bool)(l:List<|Int×Int×Int×Int)(h:∀j,(a:j<T l)->p l[j]=jE):l.find? p=U:=by grind [List.find?_eq_none,zw]
theorem Nm (op l r:Int)(u:jG)(w:jB)(h:Lk w u):
  Calls jZ 112 #[V X op,V X l,V X r] w λe w'=>Uq (MZ op l r) u e/\Ai w w':=by
 have ec:=h.ec;have E:=Ab h.sc;have H:=Ab h.e;by_cases c:op=19\/op=20
 .by_cases d:l=r
  .have o:=Ab (show MZ op l r=Q 1 by rw[MZ,H8 c,H8 d]);have I:(l !=r)=jE:=by simp[d]
   have J:(l==r)=jD:=zD.2 d;clear h;obtain rfl|rfl:=c
   all_goals
    subst d;go_enter func112,ntmps112
    go_wp2
    exact G2 (v:= jQ #[V X 1,jX]) S7 rfl ⟨by rw[Aa o];rfl,BRN⟩
  .have o:=Ab (show MZ op l r=U by rw[MZ,H8 c,H7 d]);have I:(l !=r)=jD:=zV.2 d;have J:(l==r)=jE:=zA.2 d;clear h d;obtain rfl|rfl:=c
   all_goals
    go_enter func112,ntmps112
    go_wp2_with fail
    go_region
    all_goals
     go_wp2
     exact G2 (v:= jQ #[V X 0,jU 273<|jP<|Q u]) S7 rfl ⟨by rw[Aa o];rfl,BRN.drew⟩
 .have M:(op==19)=jE:=zA.2 λe=>c<|.inl e;have N:(op==20)=jE:=zA.2 λe=>c<|.inr e;have o:=Ab (show MZ op l r=(Jk.find?<|Vz op l r).map (λs=>s.2.2.2) by rw[MZ,H7 c]);clear h c;go_enter func112,ntmps112
  go_wp2_with (refine Iu rfl 215 _ rfl 5 rfl Ya _ (Aa E) underlying215 rfl Oy ?_)
  clear E;have O:T Jk=17:=rfl;go_loopw [21] (λi wr=>∃k:Nat,k<=17/\i=V X k/\Ai w wr/\∀j,j<k->(x:j<T Jk)->Vz op l r Jk[j]=jE) (λi _=>17-(intOf i).toNat)
  case atStart=>exact⟨0,Oa,rfl,BRN,λj h=>H9 h Oa⟩
  case round=>
   obtain⟨k,P,rfl,y,F⟩:=hrel;have q:=Ab F;clear F;have S:=(y.cell (p:=⟨4,0,U⟩)<|Aa H).trans ec;by_cases A:k<17
   .have W:(k:Int)<17:=Oa;have G:k<T Jk:=Oa;have g:=Ab<|AfW k A;have a:=Ab A;have hg:Jk.getD k (0,0,0,0)=Jk[k]:=by rw[List.getD,zM G];rfl
    rw[hg]at g;have f:=Ab (show Vz op l r Jk[k]=jE->∀j,j<k+1->(x:j<T Jk)->Vz op l r Jk[j]=jE from λe j x K=>by
     by_cases L:j=k
     .subst L;exact e
     .exact Aa q j Oa K)
    have m:=Ab (show Vz op l r Jk[k]=jD->MZ op l r=Q Jk[k].2.2.2 from λe=>by rw[Aa o,Abt _ _ k G (Aa q) e];rfl);clear A hg q;generalize Jk[k]=s at g f m;obtain⟨n,s1,s2,B⟩:=s;simp only at g m;have z:=y.alloc y.size<|jH #[V X n,V X s1,V X s2,V X B] 214;have e0:Vz op l r (n,s1,s2,B)=(n==op&&(s1==l&&s2==r)):=rfl;by_cases h0:n=op
    .by_cases t:s1=l
     .by_cases C:s2=r
      .subst h0 t C;have b:=Ab (Aa m<|by rw[e0];simp);clear m f e0;go_wp2_with (refine Cj rfl 215 _ _ rfl Ya rfl k rfl 17 214 underlying215 (Aa a) _ underlying214 rfl 4 Oy _ (Aa g) ?_)
       exact G2 (v:= jQ #[V X B,jX]) S7 rfl ⟨by rw[Aa b];rfl,z⟩
      .have D:(n==op)=jD:=zD.2 h0;have q1:(s1==l)=jD:=zD.2 t;have q2:(s2==r)=jE:=zA.2 C;have b:=Ab (Aa f<|by rw[e0,q2];simp);clear m f e0 h0 t C;go_wp2_with (refine Cj rfl 215 _ _ rfl Ya rfl k rfl 17 214 underlying215 (Aa a) _ underlying214 rfl 4 Oy _ (Aa g) ?_)
       go_roundw
       case rel=>exact⟨k+1,Aa a,O1,z,Aa b⟩
       case measure=>have:=Aa a;simp[intOf];omega
     .have D:(n==op)=jD:=zD.2 h0;have q1:(s1==l)=jE:=zA.2 t;have b:=Ab (Aa f<|by rw[e0,q1];simp);clear m f e0 h0 t;go_wp2_with (refine Cj rfl 215 _ _ rfl Ya rfl k rfl 17 214 underlying215 (Aa a) _ underlying214 rfl 4 Oy _ (Aa g) ?_)
      go_roundw
      case rel=>exact⟨k+1,Aa a,O1,z,Aa b⟩
      case measure=>have:=Aa a;simp[intOf];omega
    .have D:(n==op)=jE:=zA.2 h0;have b:=Ab (Aa f<|by rw[e0,D];simp);clear m f e0 h0;go_wp2_with (refine Cj rfl 215 _ _ rfl Ya rfl k rfl 17 214 underlying215 (Aa a) _ underlying214 rfl 4 Oy _ (Aa g) ?_)
     go_roundw
     case rel=>exact⟨k+1,Aa a,O1,z,Aa b⟩
     case measure=>have:=Aa a;simp[intOf];omega
   .have e:k=17:=Oa;subst e;have b:=Ab (show MZ op l r=U by rw[Aa o,Ah8 _ _ λj x=>Aa q j Oa x];rfl);clear q;go_wp2_with fail
    go_region
    all_goals
     go_wp2
     exact G2 (v:= jQ #[V X 0,jU 273<|jP<|Q u]) S7 rfl ⟨by rw[Aa b];rfl,y.drew⟩
end Go.Proofs.YtnjpihpohilnjaaGreatDoor

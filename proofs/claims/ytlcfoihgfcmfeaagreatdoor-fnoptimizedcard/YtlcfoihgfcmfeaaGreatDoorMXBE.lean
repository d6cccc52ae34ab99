import Derived.Test.YtlcfoihgfcmfeaaGreatDoorMXBD
import Derived.Test.YtlcfoihgfcmfeaaGreatDoorMXBF
import Derived.Test.YtlcfoihgfcmfeaaGreatDoorShelf
import Derived.Deep.OwnRows
open Option renaming none->V,some->Z
open List renaming length->Y,length->je
open Array renaming size->R,size->jh
open Go renaming World->jD,Value->jF,TypeId->jR
open Bool renaming true->jG,false->jI
open ByteArray renaming empty->jX
namespace Go.Proofs.YtlcfoihgfcmfeaaGreatDoor
open Proofs.Tryz
open Value renaming int->T,int->ja,slice->X,slice->jd,string->jA,iface->jJ,agg->jL,ownBlock->jO,tuple->jS,nilIface->jT
open IntKind renaming i64->U,i64->jb
open World renaming heap->Q,cell?->jE,alloc->jK,setCell->jM,ownsRow->jP,frozen?->jY
open Addr renaming mk->jB
open Obj renaming cells->jC
open Ending renaming returned->jN
open Proofs.Tryz renaming prog->jZ
open Go.RowKit
set_option linter.unusedVariables false
set_option maxRecDepth 100000
set_option maxHeartbeats 6400000
variable{N m:Int}{c:List Bool}{l b:M4}{g L:M9}{h:N4}{a n:Nat}{o:Obj}{x:Sx}{α:Type}{t:jR}{v i v':jF}{w f d:jD}
def nfN(ls:M8)(e:Ex):Prop:=AM e=V/\AS ls e=V
def WC(ls:M8):Ex->Prop|.un i op k=>WC ls k/\nfN ls (.un i op k)|.bin i op l r=>WC ls l/\WC ls r/\nfN ls (.bin i op l r)|.ite i c t e=>WC ls c/\WC ls t/\WC ls e/\nfN ls (.ite i c t e)|e=>nfN ls e
theorem nfN.rw{ls:M8}{e:Ex}(h:nfN ls e):NN ls e=e:=by rw[NN,h.1,h.2];rfl
theorem Sb{ls:M8}:∀(e:Ex),WC ls e->Cw ls e=e|.un i op k,h=>by rw[Cw,Sb k h.1,h.2.rw]|.bin i op l r,h=>by rw[Cw,Sb l h.1,Sb r h.2.1,h.2.2.rw]|.ite i c t e,h=>by rw[Cw,Sb c h.1,Sb t h.2.1,Sb e h.2.2.1,h.2.2.2.rw]|.int ..,h=>h.rw|.text ..,h=>h.rw|.bool ..,h=>h.rw|.set ..,h=>h.rw|.name ..,h=>h.rw|.attr ..,h=>h.rw|.lett ..,h=>h.rw
theorem AaZ{ls:M8}{e:Ex}(h:e.bQ=jG):WC ls e:=by cases e<;>first|exact⟨rfl,rfl⟩|cases h
theorem AjM(v:Vv):v.ex.bQ=jG:=by cases v<;>rfl
theorem Alt{c:Prop}[Decidable c]{a b:N5}{z:Ex}{P:Prop}(d:a=Z z->P)(f:b=Z z->P):(if c then a else b)=Z z->P:=by split<;>assumption
theorem AjN{op:Int}{x y z:Ex}(h:DE op x y=Z z):z=x\/z=y\/z.bQ=jG:=by
 have a:∀b,(Ex.bool 0 b).bQ=jG:=λ_=>rfl;have hs:(Ex.set 0 V 0 0 []).bQ=jG:=rfl;revert h;unfold DE;repeat' refine Alt ?_ ?_
 all_goals intro h
 all_goals first|(unfold GL at h;grind)|(unfold EI at h;grind)|(unfold Hy at h;grind)|(unfold Fc at h;grind)|(unfold Nb at h;grind)|(unfold DD at h;grind)|(unfold Hz at h;grind)|(unfold Dt at h;grind)|(unfold Fh at h;grind)|(unfold inE at h;grind)|cases h
theorem Il{ls:M8}{e:Ex}(h:∀k∈e.aC,WC ls k):WC ls<|NN ls e:=by unfold NN;cases hf:AM e with
 |some c=>
  unfold AM at hf;repeat' split at hf
  all_goals first|(cases hf;exact AaZ<|AjM _)|cases hf
 |none=>cases a:AS ls e with
  |none=>cases e with|un i op k=>exact⟨h k O4,hf,a⟩|bin i op l b=>exact⟨h l O4,h b O4,hf,a⟩|ite i c t e=>exact⟨h c O4,h t O4,h e O4,hf,a⟩|_=>exact⟨hf,a⟩
  |some c=>show WC ls c;cases e with
   |lett i n=>
    rw[AS]at a;repeat' split at a
    all_goals first|(cases a;exact AaZ P0)|cases a
   |un i op k=>
    have d:=h k O4;rw[AS]at a;split at a
    .cases k<;>first|cases a|(rw[LS]at a;split at a<;>cases a;exact d.1)
    cases a|bin i op x y=>obtain rfl|rfl|q:=AjN a;exact h _ O4;exact h _ O4;exact AaZ q|ite i x y z=>
    rw[AS]at a;repeat' split at a
    all_goals first|(cases a;exact h _ O4)|cases a
   |_=>cases a
theorem LV(ls:M8):∀(e:Ex),WC ls (Cw ls e)|.un i op k=>Il (by simpa[Ex.aC]using LV ls k)|.bin i op l a=>Il (by simpa[Ex.aC]using ⟨LV ls l,LV ls a⟩)|.ite i c t e=>Il (by simpa[Ex.aC]using ⟨LV ls c,LV ls t,LV ls e⟩)|.int ..=>Il O4|.text ..=>Il O4|.bool ..=>Il O4|.set ..=>Il O4|.name ..=>Il O4|.attr ..=>Il O4|.lett ..=>Il O4
def nfX:M8->M9->Prop|_,[]=>True|ls,x::Xx=>((∀e,x.cond=Z e->WC ls e)/\∀e,x.aD=Z e->WC ls e)/\(x.aF=2->La jG x.cond=jI/\La jI x.cond=jI)/\nfX (KQ ls x) Xx
theorem Ag4:∀(a:M9)(ls:M8),nfX ls (Bp<|CY ls a)
 |[],ls=>trivial|x::a,ls=>by
  have h0:∀{o:N5}{e:Ex},o.map (Cw ls)=Z e->WC ls e:=λ{o e}h=>by cases o<;>cases h;exact LV ls _
  have b:=Ag4 a<|KQ ls<|Ia ls x;rw[CY,Bp];split
  .rename_i q;rw[KQ,K0 Oa]at b|-;exact b
  split
  .exact⟨⟨λe h=>O6,λe h=>h0 h⟩,λh=>O6,trivial⟩
  exact⟨⟨λe h=>h0 h,λe h=>h0 h⟩,λh=>(by simp_all),b⟩
theorem AcT:∀(c:M9),(∀x∈c,x.aF=2->La jG x.cond=jI/\La jI x.cond=jI)->Bp c=c|[],_=>rfl|x::c,h=>by have q:=h x (zR ..);rw[Bp,K0 (λ⟨a,b⟩=>by rw[(q a).2]at b;cases b),K0 (λ⟨a,b⟩=>by rw[(q a).1]at b;cases b),AcT c λy hy=>h y<|zV _ hy]
theorem Aa0(l:M4)(e:Ex):(BV l e).bQ=e.bQ:=Hg
theorem LW(l:M4)(b:Bool)(e:Ex):isB b (BV l e)=isB b e:=Hg
theorem Alu(l:M4)(n:Int)(e:Ex):SQ n (BV l e)=SQ n e:=Hg
theorem Alv(l:M4)(e:Ex):Km (BV l e)=Km e:=Hg
theorem AkE(l:M4)(e:Ex):(BV l e).cv=e.cv:=Hg
theorem Alw(l:M4)(x y:Ex):VY (BV l x) (BV l y)=VY x y:=by rw[VY,VY,Aa0,AkE,AkE]
theorem Aef{e:Ex}(h:e.bQ=jG):BV l e=e:=by cases e<;>first|rfl|cases h
theorem AjO(l:M4)(e:Ex):(BV l e).aC=e.aC.map (BV l):=Hg
theorem Fi(l:M4):∀(e:Ex),AD (BV l e)=AD e|.un i op k=>by rw[BV,AD,AD,Fi l k]|.bin i op x y=>by rw[BV,AD,AD,Fi l x,Fi l y]|.ite i c t e=>by rw[BV,AD,AD,Fi l c,Fi l t,Fi l e]|.int ..=>rfl|.text ..=>rfl|.bool ..=>rfl|.set ..=>rfl|.name ..=>rfl|.attr ..=>rfl|.lett ..=>rfl
theorem Alx{n:Int}(h:n∈l)(k:m∈l):Wz l n=Wz l m↔n=m:=by refine⟨λe=>?_,λe=>by rw[e]⟩;have h1:=List.idxOf_lt_length_iff.2 h;have h2:=List.idxOf_lt_length_iff.2 k;have a:l.idxOf n=l.idxOf m:=Int.ofNat.inj e;rw[<-List.getElem_idxOf h1,<-List.getElem_idxOf h2];simp only[a]
theorem AjP{x y:Ex}(hx:∀m,usE m x=jG->m∈l)(hy:∀m,usE m y=jG->m∈l):sameL (BV l x) (BV l y)=sameL x y:=by
 cases x<;>cases y<;>try rfl
 rename_i i n j m;have:=Alx (hy m<|by simp[usE]) (hx n<|by simp[usE]);simp only[BV,sameL,this]
theorem AjQ(l:M4)(b:Bool)(x y:Ex):GL b (BV l x) (BV l y)=(GL b x y).map (BV l):=by unfold GL;rw[LW,LW,LW,LW,Fi];repeat' split<;>try rfl
theorem AjR{op:Int}{x y:Ex}(hx:∀m,usE m x=jG->m∈l)(hy:∀m,usE m y=jG->m∈l):DE op (BV l x) (BV l y)=(DE op x y).map (BV l):=by
 have d:∀(c:Prop)[Decidable c] (a b:N5),(if c then a else b).map (BV l)=if c then a.map (BV l)else b.map (BV l):=λc _ a b=>by split<;>rfl
 unfold DE EI Hy Fc Nb DD Hz Dt Fh inE;simp only[AjQ,Alv,Alu,AjP hx hy,Fi,d,z0,Option.map_none,BV]
theorem V9(l:M4)(e:Ex):AM (BV l e)=AM e:=by
 unfold AM;have h1:(e.aC.map<|BV l).isEmpty=e.aC.isEmpty:=by cases e.aC<;>rfl
 have h2:(e.aC.map<|BV l).all Ex.bQ=e.aC.all Ex.bQ:=by rw[List.all_map];congr 1;funext k;exact Aa0 l k
 rw[AjO,h1,h2];split
 .rfl
 split
 .rename_i c q;have k:∀k∈e.aC,BV l k=k:=λk f=>Aef<|zo.1 q k f;have:BV l e=e:=by cases e with|un i op a=>rw[BV,k a O4]|bin i op a b=>rw[BV,k a O4,k b O4]|ite i a b d=>rw[BV,k a O4,k b O4,k d O4]|_=>simp[Ex.aC]at c
  rw[this]
 rfl
def lsL(ls:M8)(l0 r:M4):M8:=l0.map λm=>BV (l0++r)<|ls.getD m.toNat<|.bool 0 jI
theorem Sc{ls:M8}{b c:M4}(a:∀m∈b,m.toNat<Y ls):∀(e:Ex),(∀m,usE m e=jG->m∈b)->WC ls e->WC (lsL ls b c) (BV (b++c) e)
 |.lett i n,hu,h=>by have hm:=hu n (by simp[usE]);have hi:=List.idxOf_lt_length_iff.2 hm;refine⟨rfl,?_⟩;have:=h.2;rw[AS,zE<|a n hm]at this;rw[BV,Wz,List.idxOf_append,K1 hm,AS,zP,lsL,zi,zE hi,List.getElem_idxOf hi];simp only[z0,zf,zE<|a n hm,Option.getD_some,Aa0];exact K0 λq=>by simp[q]at this|.un i op k,hu,h=>by
  refine⟨Sc a k (λm hm=>hu m S6) h.1,by rw[<-BV,V9];exact h.2.1,?_⟩;have:=h.2.2;rw[AS]at this|-;split at this
  .rename_i q;rw[K1 q];cases k<;>first|rfl|(rw[LS]at this;rw[BV,LS];split at this<;>simp_all)
  rename_i q;rw[K0 q]|.bin i op x y,hu,h=>by have d:∀m,usE m x=jG->m∈b:=λm hm=>hu m S6;have f:∀m,usE m y=jG->m∈b:=λm hm=>hu m S6;refine⟨Sc a x d h.1,Sc a y f h.2.1,by rw[<-BV,V9];exact h.2.2.1,?_⟩;rw[AS,AjR (λm hm=>z3 _<|d m hm) λm hm=>z3 _<|f m hm,show DE op x y=V from h.2.2.2];rfl|.ite i x y z,hu,h=>by
  refine⟨Sc a x (λm hm=>hu m S6) h.1,Sc a y (λm hm=>hu m S6) h.2.1,Sc a z (λm hm=>hu m S6) h.2.2.1,by rw[<-BV,V9];exact h.2.2.2.1,?_⟩;have:=h.2.2.2.2;rw[AS]at this|-;rw[LW,LW,Alw,Fi];repeat' split at this
  all_goals simp_all|.int ..,_,h=>⟨rfl,rfl⟩|.text ..,_,h=>⟨rfl,rfl⟩|.bool ..,_,h=>⟨rfl,rfl⟩|.set ..,_,h=>⟨rfl,rfl⟩|.name ..,_,h=>⟨rfl,rfl⟩|.attr ..,_,h=>⟨rfl,rfl⟩
theorem Aa1:∀(a:M9)(n:Nat),(Cj (n:Int) a).map Prod.fst=a->GH (Cj (n:Int) a)=(List.range' n<|Y<|Mj a).map Int.ofNat
 |[],n,_=>rfl|x::a,n,h=>by
  have hs:=(Nf a<|(n:Int)+1).length_le;rw[Cj]at h|-;by_cases k:x.aF=1
  .rw[K1 k]at h|-;split at h
   .rw[h]at hs;simp at hs;omega
   rename_i q;rw[K0 q,Jc k,Jf k,List.length_cons,List.range'_succ,List.map_cons];have:=Aa1 a (n+1) P4;rw[<-this];rfl
  rw[K0 k]at h|-;rw[CP k,Gx k];exact Aa1 a n P4
theorem Ag5{k:Nat}{n:Int}(h0:0<=n)(h1:n.toNat<k):Wz ((List.range' 0 k).map Int.ofNat) n=n:=by have c:((List.range' 0 k).map Int.ofNat).Nodup:=List.Pairwise.map Int.ofNat (λa b h e=>h<|Int.ofNat.inj e) List.nodup_range';have hg:((List.range' 0 k).map Int.ofNat)[n.toNat]'(by simpa using h1)=n:=Od;have:=c.idxOf_getElem n.toNat (by simpa using h1);rw[hg]at this;rw[Wz,this];omega
theorem Nm{k:Nat}{ts:M4}(c:Y ts<=k):∀(e:Ex)(t:Int),An ts e=Z t->BV ((List.range' 0 k).map Int.ofNat) e=e
 |.lett i n,t,h=>by
  rw[An]at h;split at h
  .rename_i h0;have f:n.toNat<Y ts:=(zL.1 h).1;rw[BV,Ag5 h0 Oa]
  cases h|.un i op k,t,h=>by rw[An]at h;cases c:An ts k with|none=>rw[c]at h;cases h|some a=>rw[BV,Nm ‹_› k a c]
 |.bin i op x y,t,h=>by rw[An]at h;cases hx:An ts x with|none=>rw[hx]at h;cases h|some a=>cases hy:An ts y with|none=>rw[hx,hy]at h;cases h|some b=>rw[BV,Nm c x a hx,Nm c y b hy]
 |.ite i x y z,t,h=>by rw[An]at h;cases hx:An ts x with|none=>rw[hx]at h;cases h|some a=>cases hy:An ts y with|none=>rw[hx,hy]at h;cases h|some b=>cases hz:An ts z with|none=>rw[hx,hy,hz]at h;cases h|some d=>rw[BV,Nm c x a hx,Nm c y b hy,Nm c z d hz]
 |.int ..,_,_=>rfl|.text ..,_,_=>rfl|.bool ..,_,_=>rfl|.set ..,_,_=>rfl|.name ..,_,_=>rfl|.attr ..,_,_=>rfl
theorem Wb{k:Nat}:∀(a:M9)(ts:M4),JD ts a->Y ts+Y (Mj a)<=k->a.map (FJ<|(List.range' 0 k).map Int.ofNat)=a
 |[],_,_,_=>rfl|x::a,ts,h,hk=>by
  have b:Wy ts x.aD->x.aD.map (BV<|(List.range' 0 k).map Int.ofNat)=x.aD:=λq=>by cases e:x.aD with|none=>rfl|some g=>rw[e]at q;rw[z0,Nm (k:=k) (ts:=ts) Oa g 4 q]
  rw[List.map_cons];obtain⟨q,e,t,h1,h2,h3,h4⟩|⟨q,⟨e,h1,h2⟩,h3,h4⟩|⟨q,h1,h3,h4⟩:=h
  .rw[Jf q]at hk;simp only[List.length_cons]at hk;rw[Wb a (ts++[t]) h4 Od];cases x;simp only at h1 h3;subst h1 h3;simp only[FJ,z0,Option.map_none,Nm (k:=k) (ts:=ts) Oa e t h2]
  .rw[Gx Oa]at hk;rw[Wb a ts h4 hk];have:=b h3;cases x;simp only at h1 this;subst h1;simp only[FJ,z0,this,Nm (k:=k) (ts:=ts) Oa e 1 h2]
  rw[Gx Oa]at hk;rw[Wb a ts h4 hk];have:=b h3;cases x;simp only at h1 this;subst h1;simp only[FJ,Option.map_none,this]
theorem Sd{l:M4}{n:Int}:∀(e:Ex),usE n e=jG->usE (Wz l n) (BV l e)=jG|.lett i m,h=>by simp only[usE,zO]at h;subst h;simp[BV,usE]|.un i op k,h=>Sd k h|.bin i op x y,h=>by simp only[usE,Z0]at h;simp only[BV,usE,Z0];exact h.imp (Sd x)<|Sd y|.ite i x y z,h=>by simp only[usE,Z0]at h;simp only[BV,usE,Z0];exact h.imp (Sd x)<|Or.imp (Sd y)<|Sd z|.int ..,h=>O6|.text ..,h=>O6|.bool ..,h=>O6|.set ..,h=>O6|.name ..,h=>O6|.attr ..,h=>O6
theorem Aly{n:Int}(h:Ii n x=jG):Ii (Wz l n) (FJ l x)=jG:=by
 have k:∀o:N5,usO n o=jG->usO (Wz l n) (o.map<|BV l)=jG:=λo h=>by cases o with|none=>cases h|some e=>exact Sd e h
 rw[Ii,Z0]at h|-;exact h.imp (k _)<|k _
theorem Ag6{ls:M8}{a:M4}{e:Ex}(c:∀m∈a,m.toNat<Y ls)(n:Nat)(d:n=Y ls):lsL (ls++[e]) (a++[(n:Int)]) b=lsL ls a ((n:Int)::b)++[BV (a++(n:Int)::b) e]:=by
 subst d;have f:(a++[(Y ls:Int)])++b=a++(Y ls:Int)::b:=Oz;rw[lsL,lsL,f,zN,List.map_cons,List.map_nil];congr 1
 .exact List.map_congr_left λm hm=>by rw[zf,zf,zp<|c m hm]
 simp
theorem Ag7{ls:M8}{a:M4}{e:Ex}(c:∀m∈a,m.toNat<Y ls):lsL (ls++[e]) a b=lsL ls a b:=List.map_congr_left λm hm=>by rw[zf,zf,zp<|c m hm]
theorem Se:∀(d:M9)(ts c:M4)(ls:M8),Y ls=Y ts->(∀m∈c,m.toNat<Y ts)->(∀q∈Cj (Y ts:Nat) d,∀m,Ii m q.1=jG->0<=m->m.toNat<Y ts->m∈c)->JD ts d->nfX ls d->∀g,g=((Cj (Y ts:Nat) d).map λq=>FJ (c++GH (Cj (Y ts:Nat) d)) q.1)->CY (lsL ls c<|GH<|Cj (Y ts:Nat) d) g=g/\(Cj (Y c:Nat) g).map Prod.fst=g/\∀y∈g,y.aF=2->La jG y.cond=jI/\La jI y.cond=jI
 |[],_,_,_,_,_,_,_,_,g,e=>by subst e;exact⟨rfl,rfl,λy hy=>by cases hy⟩|x::d,ts,c,ls,hn,hl,hu,h,hx,g,eY=>by
  obtain⟨⟨G,n2⟩,n3,i⟩:=hx;have w:∀m∈c,m.toNat<Y ls:=by rw[hn];exact hl
  have z:∀j,(∀m,Ii m x=jG->0<=m->m.toNat<Y ts->m∈c)->(∀e,x.cond=Z e->∃t,An ts e=Z t)->Wy ts x.aD->Ia (lsL ls c j) (FJ (c++j) x)=FJ (c++j) x:=λj hu hc hg=>by
   have k:∀o:N5,(∀e,o=Z e->WC ls e)->(∀e,o=Z e->∃t,An ts e=Z t)->(∀m,usO m o=jG->Ii m x=jG)->(o.map<|BV<|c++j).map (Cw<|lsL ls c j)=o.map (BV<|c++j):=λo h1 h2 h3=>by cases o with|none=>rfl|some e=>obtain⟨t,ht⟩:=h2 e rfl;exact congrArg Z (Sb _ (Sc w e (λm hm=>by obtain⟨a,b⟩:=Ki e t ht hm;exact hu m (h3 m hm) a b)<|h1 e rfl))
   have a:=k x.cond G hc λm hm=>by simp[Ii,hm]
   have b:=k x.aD n2 (λe he=>by rw[he]at hg;exact⟨4,hg⟩) λm hm=>by simp[Ii,hm]
   simp only[Ia,FJ,a,b]
  obtain⟨k,e,t,h1,h2,h3,h4⟩|⟨k,⟨e,h1,h2⟩,h3,h4⟩|⟨k,h1,h3,h4⟩:=h
  .have en:((Y ts:Nat):Int)+1=(Y (ts++[t]):Nat):=Oz;rw[Cj,K1 k]at hu eY|-;rw[en]at hu eY|-;have D:∀m∈c,m.toNat<Y (ts++[t]):=λm hm=>by have:=hl m hm;simp;omega
   have e1:KQ ls x=ls++[e]:=by rw[KQ,K1 k,h1];rfl
   rw[e1]at i;split at eY
   .rename_i n;rw[K1 n]at hu|-;have A:∀q∈Cj (Y (ts++[t]):Nat) d,Ii ((Y ts:Nat):Int) q.1=jI:=λq hq=>by simp only[zF,Bool.not_eq_true',List.any_eq_false]at n;simpa using n.1 q hq
    have:=Se d (ts++[t]) c (ls++[e]) (by simp[hn]) D (λq hq m hm h0 B=>by
     obtain a|a:=Nat.lt_or_ge m.toNat<|Y ts
     .exact hu q hq m hm h0 a
     have:m=((Y ts:Nat):Int):=by simp at B;omega
     rw[this,A q hq]at hm;cases hm) h4 i g eY;rw[Ag7 w]at this;exact this
   rename_i n;rw[K0 n]at hu|-;rw[Jc k]at eY|-;have H:c++((Y ts:Nat):Int)::GH (Cj (Y (ts++[t]):Nat) d)=(c++[((Y ts:Nat):Int)])++GH (Cj (Y (ts++[t]):Nat) d):=Oz;rw[List.map_cons]at eY;obtain⟨v,C⟩:∃v,v=(Cj (Y (ts++[t]):Nat) d).map λq=>FJ (c++((Y ts:Nat):Int)::GH (Cj (Y (ts++[t]):Nat) d)) q.1:=⟨_,rfl⟩;rw[<-C]at eY;obtain⟨r,i2,s⟩:=Se d (ts++[t]) (c++[((Y ts:Nat):Int)]) (ls++[e]) (by simp[hn]) (λm hm=>by
    obtain hm|hm:=zJ.1 hm
    .exact D m hm
    .rw[zK.1 hm];simp) (λq hq m hm h0 B=>by
    obtain a|a:=Nat.lt_or_ge m.toNat<|Y ts
    .exact z3 _ (hu q (zV _ hq) m hm h0 a)
    have:m=((Y ts:Nat):Int):=by simp at B;omega
    rw[this];simp) h4 i v (by rw[<-H];exact C);rw[Ag6 w (Y ts) hn.symm]at r;rw[zC,yF]at i2;have u:=z (((Y ts:Nat):Int)::GH (Cj (Y (ts++[t]):Nat) d)) (hu _ (zR ..)) (λE he=>by rw[h1]at he;cases he;exact⟨t,h2⟩) (by rw[h3];trivial);subst eY;refine⟨?_,?_,λy hy=>?_⟩
   .rw[CY,u,KQ,K1<|show(FJ _ x).aF=1 from k];refine congrArg _<|Eq.trans ?_ r;simp[FJ,h1]
   .rw[Cj,K1<|show(FJ _ x).aF=1 from k,K0]
    .exact congrArg _ i2
    intro q;rw[zF]at n q;have hs:Jr (FJ (c++((Y ts:Nat):Int)::GH (Cj (Y (ts++[t]):Nat) d)) x).cond=Jr x.cond:=by simp only[FJ,h1,z0,Jr,Fi]
    rw[hs]at q;refine n ⟨?_,q.2⟩;have F:=q.1;simp only[Bool.not_eq_true',List.any_eq_false]at F|-;intro p I hq;have hz:FJ (c++((Y ts:Nat):Int)::GH (Cj (Y (ts++[t]):Nat) d)) p.1∈v:=by rw[C];exact List.mem_map_of_mem (f:=λq:Sx×Int=>FJ (c++((Y ts:Nat):Int)::GH (Cj (Y (ts++[t]):Nat) d)) q.1) I
    rw[<-i2]at hz;obtain⟨J,K,L⟩:=zU.1 hz;refine F J K ?_;rw[L];have:=Aly (l:=c++((Y ts:Nat):Int)::GH (Cj (Y (ts++[t]):Nat) d)) hq;have A:((Y ts:Nat):Int)∉ c:=λhm=>by have:=hl _ hm;simp at this
    rw[Wz,List.idxOf_append,K0 A,List.idxOf_cons_self,zT]at this;exact this
   obtain rfl|hy:=zS.1 hy
   .intro q;have:x.aF=2:=q;omega
   exact s y hy
  .rw[Cj,K0 Oa]at hu eY|-;rw[CP Oa]at eY|-;rw[List.map_cons]at eY;have e1:KQ ls x=ls:=by rw[KQ,K0 Oa]
   rw[e1]at i;obtain⟨r,i2,s⟩:=Se d ts c ls hn hl (λq hq=>hu q<|zV _ hq) h4 i _ rfl;have u:=z (GH<|Cj (Y ts:Nat) d) (hu _ (zR ..)) (λE he=>by rw[h1]at he;cases he;exact⟨1,h2⟩) h3;subst eY;refine⟨?_,?_,λy hy=>?_⟩
   .rw[CY,u,KQ,K0 (Hi:(FJ _ x).aF≠1),r]
   .rw[Cj,K0 (Hi:(FJ _ x).aF≠1)];exact congrArg _ i2
   obtain rfl|hy:=zS.1 hy
   .intro _;obtain⟨a,b⟩:=n3 k;rw[h1]at a b;simp only[FJ,h1,z0,La,LW];exact⟨a,b⟩
   exact s y hy
  rw[Cj,K0 Oa]at hu eY|-;rw[CP Oa]at eY|-;rw[List.map_cons]at eY;have e1:KQ ls x=ls:=by rw[KQ,K0 Oa]
  rw[e1]at i;obtain⟨r,i2,s⟩:=Se d ts c ls hn hl (λq hq=>hu q<|zV _ hq) h4 i _ rfl;have u:=z (GH<|Cj (Y ts:Nat) d) (hu _ (zR ..)) (λE he=>by rw[h1]at he;cases he) h3;subst eY;refine⟨?_,?_,λy hy=>?_⟩
  .rw[CY,u,KQ,K0 (Hi:(FJ _ x).aF≠1),r]
  .rw[Cj,K0 (Hi:(FJ _ x).aF≠1)];exact congrArg _ i2
  obtain rfl|hy:=zS.1 hy
  .intro q;have:x.aF=2:=q;omega
  exact s y hy
theorem Ajr{X:M9}(h:JD [] X):BU (BU X)=BU X:=by have h1:=Jb X [] [] (λn c hc=>by simp at hc) rfl h;have h2:=Ib _ [] h1;obtain⟨a,i2,b⟩:=Se (Bp<|CY [] X) [] [] [] rfl (λm hm=>by cases hm) (λq hq m hm h0 d=>by simp at d) h2 (Ag4 X []) (BU X) rfl;rw[show lsL [] [] _=[]from rfl]at a;have i2:(Cj ((0:Nat):Int)<|BU X).map Prod.fst=BU X:=i2;rw[BU,a,AcT _ b,Ng,show(Cj 0<|BU X).map Prod.fst=BU X from i2,show GH (Cj 0<|BU X)=_ from Aa1 (BU X) 0 i2];exact Wb _ [] (VU h) Oz
set_option maxRecDepth 100000
set_option maxHeartbeats 6400000
def AhF(w:jD)(a:M2 Addr)(zs:M4):Prop:=∀j,(h:j<Y zs)->∃b,a=Z (jB b 0 V)/\b<R (Q w)/\jE w (jB b j V)=Z (T U zs[j])
theorem AhF.below{w':jD}{a:M2 Addr}{zs:M4}(h:AhF w a zs)(c:Ak w w'):AhF w' a zs:=λj d=>by obtain⟨b,h1,h2,h3⟩:=h j d;exact⟨b,h1,zG h2 c.size,(c.cell (p:=(jB b j V)) h2).trans h3⟩
structure RnM(w1 wr:jD)(v:jF)(X:M9):Prop where
 cC:jP wr (R<|Q w1) 88 5 v (Y X)<|Io X
 aP:Ak w1 wr
 mem:ST (λb=>jO v≠Z b) wr X
theorem RnM.out{g wr w2 c:jD}{X:M9}{g7 c7:Nat}(h:RnM g wr v X)(f:Ak wr w2)(h1:ExO (λb=>jO v≠Z b) w2 x.cond)(h2:ExO (λb=>jO v≠Z b) w2 x.aD)(O:jP c (R<|Q g) 88 5 (jd (Z<|jB g7 0 V) (Y X+1) c7) (Y X+1)<|Io X++GG x)(hg:(jK w2 o).grownBy c<|jO v)(hat:jO v=Z g7\/g7=R (Q w2)+1):RnM g c (jd (Z<|jB g7 0 V) (Y X+1) c7) (X++[x]):=by
 have A:=Ar w2 o;have j:=Ai h.cC f NLN;have K:IP (λb=>jO v=Z b) w2 c:=⟨hg.os,hg.tape,hg.output,zB A.size hg.size,λk d hS=>(hg.block k (zG d A.size) λe=>hS e.symm).trans<|A.block k d⟩;have a:=h.aP.trans<|f.mono h.aP.size;have i:∀e:Ex,e.mem (λb=>jO v≠Z b) w2->e.mem (λb=>jO (Value.slice (Z<|jB g7 0 V) (Y X+1) c7)≠Z b) c:=λe he=>by
  have l:e.mem (λb=>jO v≠Z b/\b≠g7) w2:=Ex.aY (λb f hs=>⟨hs,λm=>by
   obtain q|q:=hat
   .exact hs (by rw[m];exact q)
   omega⟩) e he;exact Ex.aY (λb _ hs e=>hs.2<|by simpa[jO]using e.symm) e<|Ex.bU K (λb hs hS=>hs.1 hS) e l
 refine⟨?_,⟨K.os.trans a.os,K.tape.trans a.tape,K.output.trans a.output,zB a.size K.size,λk d=>(K.block k (zG d a.size) λe=>G7<|(j.lt k e).1).trans<|a.block k d⟩,((h.mem.map λe he=>e.aG f NLN he).map i).cE (λe he=>i e<|h1 e he) λe he=>i e<|h2 e he⟩;rw[zC,Nv];exact O
theorem KT{X:M9}{f:Sx->Sx}{y:Sx}(h:X.map Cu=(L.map f).map Cu)(hx:Cu x=Cu (f y)):(X++[x]).map Cu=((L++[y]).map f).map Cu:=by rw[zN,zN,zN,h,List.map_cons,List.map_cons,List.map_cons,hx];rfl
theorem Sr(S:M9)(zs:M4)(m g c:Nat)(a:M2 Addr)(nz bF:Nat)(w:jD)(hm:Y S=m)(bW:m<=65535)(h:ZB w g S)(bh:Y zs=nz)(bX:nz<=65535)(bi:AhF w a zs)(bj:zs.Nodup)(hu:∀x∈S,∀q,Ii q x=jG->q∈zs)(hx:ST TT w S):Calls jZ 52 #[jd (Z<|jB g 0 V) m c,jd a nz bF] w λaH w'=>∃v X,aH=jN v/\jP w' (R<|Q w) 88 5 v (Y X) (Io X)/\X.map Cu=(S.map<|FJ zs).map Cu/\ST TT w' X/\(∀x∈X,∃s∈S,x.bZ=s.bZ)/\Ak w w':=by
 obtain⟨aS,aT,aU,aV,aW⟩:=info_parts Abg;have bk:=Ab hm;have bG:=Ab h;have bH:=Ab hu;have bl:=Ab bj;have bI:=Ab bi;have bm:=Ab bh;have bJ:=Ab<|show ST (λb=>b<R (Q w)) w S from hx.map λe he=>Ex.aY (λb aE _=>aE) e he;clear hm h hu bj bi hx bh;have bK:=@run_makeMap jZ;have bn:Jm (jK w<|.map #[] 0) (R<|Q w) []:=⟨#[],0,Lz w _,rfl,λj aX=>K4 aX Oz⟩;have a2:=Ar w<|.map #[] 0;have a3:=(Below.refl (R<|Q<|jK w<|.map #[] 0)<|jK w<|.map #[] 0).alloc NLN<|jC #[.map<|Z<|R<|Q w] 177;have aZ:=Ah.new (jK w<|.map #[] 0) #[.map<|Z<|R<|Q w] 177;have aF:=bn.below a3;have a4:=a2.trans<|a3.mono a2.size;simp only[K6]at aZ;have bL:∃bo,bo=jK (jK w<|.map #[] 0) (jC #[.map<|Z<|R<|Q w] 177):=⟨_,rfl⟩;clear a2 a3 bn;go_enter func52,ntmps52;go_wp2_with fail;obtain⟨bo,bp⟩:=bL;rw[<-bp]at aF aZ a4|-;clear bp bK;go_loopw[15] (λi wr=>∃k:Nat,k<=nz/\i=T U k/\Jm wr (R<|Q w) (zs.take k)/\Ah wr (R (Q w)+1) #[.map<|Z<|R<|Q w] 177/\Ak w wr) (λi _=>nz-(intOf i).toNat);case atStart=>exact⟨0,Oa,rfl,aF,aZ,a4⟩
 clear aF aZ a4;obtain⟨k,bY,rfl,aI,aJ,aK⟩:=hrel;by_cases ai:k<nz
 .have bM:(k:Int)<(nz:Int):=Oa;have K:k<Y zs:=by rw[Aa bm];exact ai
  obtain⟨b,rfl,b0,hc⟩:=(Aa bI).below aK k K;have bq:zs[k]∉ zs.take k:=λaL=>by obtain⟨j,aX,e⟩:=zk aL;rw[zv]at aX;rw[List.getElem_take]at e;exact(List.pairwise_iff_getElem.1<|Aa bl) j k Oa K Oa e
  obtain⟨w2,br,bs,bt,bN,bel⟩:=AhD wr (R<|Q w) (zs.take k) zs[k] aI bq;rw[show Y (zs.take k)=k by rw[zv];omega]at br;have bu:Jm w2 (R<|Q w)<|zs.take<|k+1:=by rw[zY K];exact bs
  have bO:Ah w2 (R (Q w)+1) #[.map<|Z<|R<|Q w] 177:=⟨(bt _ Oa).trans aJ.out⟩;have bP:=aK.trans<|bel (R<|Q w) NLN;have b1:jE wr ⟨R (Q w)+1,0,V⟩=Z (.map<|Z<|R<|Q w):=aJ.cell 0;generalize zs[k]=z at hc br;have L:=Ab ai;have bQ:=Ab bu;clear bq bs bt bN bel K aI ai bu;go_wp2;go_roundw;case rel=>exact⟨k+1,Aa L,O0,Aa bQ,bO,bP⟩
  have:=Aa L;simp[intOf];omega
 have bR:k=nz:=Oa;subst bR;have bv:=Ab (show Jm wr (R<|Q w) zs by rw[zh<|by rw[Aa bm];omega]at aI;exact aI);have bw:=Ab aJ;have bx:=Ab aK;clear ai aI;have a5:=aK.size;have bS:=aJ.lt;go_wp2_with fail;clear aJ aK;have bT:∃M,M=wr:=⟨_,rfl⟩;obtain⟨M,bz⟩:=bT;rw[<-bz]at bv bw bx a5 bS|-;clear bz;go_loopw[27,9] (λi o wr=>∃k:Nat,k<=m/\i=T U k/\(∃X,X.map Cu=((S.take k).map<|FJ zs).map Cu/\Y X=k/\(∀x∈X,∃s∈S,x.bZ=s.bZ)/\RnM M wr o X)) (λi _ _=>m-(intOf i).toNat);case atStart=>exact⟨0,Oa,rfl,[],rfl,rfl,(λx hx=>Q4),G8,BRN,λx hx=>Q4⟩
 obtain⟨j,aX,rfl,X,bA,bB,bC,D⟩:=hrel;have A:=Ab<|L7 bA bB;have aM:=Ab bC;clear bA bB bC;have a0:=(Aa bx).trans<|D.aP.mono a5;by_cases ai:j<m
 .have bM:(j:Int)<(m:Int):=Oa;have K:j<Y S:=by rw[Aa bk];exact ai
  have aF:=(Aa bG).below a0;obtain⟨c0,c1,c2,c3,c4⟩:=aF.at j K;have aN:=Aa bJ _<|zI K;have a6:=Aa bH _<|zI K;have a7:=zI K;have L:=Ab ai;have aO:=Ab<|show S.take (j+1)=S.take j++[S[j]]from zY K;generalize S[j]=x at c0 c1 c2 c3 c4 aN a6 aO a7;have a1:=Ab a7;clear a7;obtain⟨l,n,p,aj,ak⟩:=x;simp only at c0 c1 c2 c3 c4 aN;clear ai K aF;have ag:=Ah.new wr #[T U l,T U n,jA p,AO aj,AO ak] 88;have r:=Ar wr<|jC #[T U l,T U n,jA p,AO aj,AO ak] 88;have b2:=D.aP.size;have bD:=((Aa bw).aB D.aP NLN).aB r NLN;have bE:=((Aa bv).below D.aP).below r;have aL:∀b,b<R (Q w)->(λb=>jO u9≠Z b) b:=λb aE e=>G7<|(D.cC.lt b e).1;have I:=Abi (G:=λb=>jO u9≠Z b) bD bE (Aa bl) ⟨l,n,p,aj,ak⟩ a6 (λe he=>e.aG r NLN<|e.aG a0 NLN<|Ex.aY (λb _ aE=>aL b aE) e<|aN.1 e he) (λe he=>e.aG r NLN<|e.aG a0 NLN<|Ex.aY (λb _ aE=>aL b aE) e<|aN.2 e he);dsimp only at I;clear aL aN a6 bD bE;have e3:=Bz aj;have e4:=Bz ak;have a8:=λd=>@Nu (BV zs) d aj;have a9:=λd=>@Nu (BV zs) d ak;have ah:=Ab (λ(d f:N5) (B:d.map Ex.st=(aj.map<|BV zs).map Ex.st) (C:f.map Ex.st=(ak.map<|BV zs).map Ex.st)=>show Cu ⟨l,n,p,d,f⟩=Cu (FJ zs ⟨l,n,p,aj,ak⟩)by simp only[Cu,FJ,B,C]);generalize aj.map (BV zs)=b3 at I a8 ah;generalize ak.map (BV zs)=b4 at I a9 ah;have al:=Ab a8;have ao:=Ab a9;clear a8 a9;generalize AO aj=b5 at ag r I e3 c3 al;generalize AO ak=b6 at ag r I e4 c4 ao;obtain rfl|⟨b7,b8,rfl⟩:=e3<;>obtain rfl|⟨b9,ca,rfl⟩:=e4
  .have N:=Ab I;clear I;obtain⟨ap,aq,ar,au,av,_⟩:=Cp ag;go_wp2_with fail;refine(Aa N).mono ?_;rintro aH w2 ⟨⟨ba,bb,rfl,⟨d,rfl,B,O⟩,⟨f,rfl,C,P⟩⟩,W⟩;have E:=(Aa al) d B;have F:=(Aa ao) f C;have aa:=Ab<|L7 O P;have aw:=Ab<|Aa ah d f B C;have H:=r.trans<|W.mono r.size;have ax:=Ai D.cC H NLN;have e5:=Fm d;have J:=Fm f;clear N al ao ah B O C P W c0 c1 c2 c3 c4 ap aq ar au av ag r;have ab:=Ab<|show AO d=oV d from rfl;have ac:=Ab<|show AO f=oV f from rfl;generalize oV d=ay at ab e5 E|-;generalize oV f=az at ac J F|-;have bc:ay=jT:=E.2 (by first|rfl|trivial);subst bc;have bd:az=jT:=F.2 (by first|rfl|trivial);subst bd;clear E F e5 J;have bf:=H.size;dsimp only;go_wp2_with (at_builtin;refine J6 _ rfl _ _ 41 rfl (R<|Q M) 88 aS (jL #[T U 0,T U 0,jA jX,jT,jT]) 5 64 underlying41 aT aU aV aW rfl Ob _ _ _ rfl (K7 ax _) ⟨R<|Q w2,0,V⟩ 1 1 [T U l,T U n,jA p,jT,jT] rfl rfl ?c1 ?c2 Ob ?c3 ?c4 ?c5 (R (Q w2)+1) Oz ?_);case c1=>exact K9<|Lz w2 _
   case c2=>intro u hu;simp at hu;obtain rfl|rfl|rfl|rfl|rfl:=hu<;>rfl
   case c3=>have:=(Aa A).2;unfold maxLen;omega
   case c4=>have:=(Aa A).2;omega
   case c5=>simp;omega
   intro g7 aA aC ad ae hat bg;have af:jP aC (R<|Q M) 88 5 (jd (Z<|jB g7 0 V) (Y X+1) aA) (Y X+1)<|Io X++GG ⟨l,n,p,d,f⟩:=by rw[(Dz:GG ⟨l,n,p,d,f⟩=[T U l,T U n,jA p,jT,jT])];exact ad
   have aD:=Ab<|D.out (x:=⟨l,n,p,d,f⟩) H (Aa aa).1 (Aa aa).2 af ae hat;clear ae hat ad af;go_wp2;go_roundw;case rel=>exact⟨j+1,Aa L,O0,X++[⟨l,n,p,d,f⟩],Ht,by simp[(Aa A).2],(λy hy=>by
    obtain hy|hy:=zJ.1 hy
    .exact Aa aM y hy
    rw[zK.1 hy];exact⟨_,Aa a1,rfl⟩),G4⟩
   have:=Aa L;simp[intOf];omega
  .have N:=Ab I;clear I;obtain⟨ap,aq,ar,au,av,_⟩:=Cp ag;go_wp2_with fail;refine(Aa N).mono ?_;rintro aH w2 ⟨⟨ba,bb,rfl,⟨d,rfl,B,O⟩,⟨f,rfl,C,P⟩⟩,W⟩;have E:=(Aa al) d B;have F:=(Aa ao) f C;have aa:=Ab<|L7 O P;have aw:=Ab<|Aa ah d f B C;have H:=r.trans<|W.mono r.size;have ax:=Ai D.cC H NLN;have e5:=Fm d;have J:=Fm f;clear N al ao ah B O C P W c0 c1 c2 c3 c4 ap aq ar au av ag r;have ab:=Ab<|show AO d=oV d from rfl;have ac:=Ab<|show AO f=oV f from rfl;generalize oV d=ay at ab e5 E|-;generalize oV f=az at ac J F|-;have bc:ay=jT:=E.2 (by first|rfl|trivial);subst bc;obtain⟨aQ,u6,rfl⟩:∃t u,az=jJ t u:=J.resolve_left (λq=>by have:=F.1 q;first|cases this|exact this.elim);clear E F e5 J;have bf:=H.size;dsimp only;go_wp2_with (at_builtin;refine J6 _ rfl _ _ 41 rfl (R<|Q M) 88 aS (jL #[T U 0,T U 0,jA jX,jT,jT]) 5 64 underlying41 aT aU aV aW rfl Ob _ _ _ rfl (K7 ax _) ⟨R<|Q w2,0,V⟩ 1 1 [T U l,T U n,jA p,jT,(jJ aQ u6)] rfl rfl ?c1 ?c2 Ob ?c3 ?c4 ?c5 (R (Q w2)+1) Oz ?_);case c1=>exact K9<|Lz w2 _
   case c2=>intro u hu;simp at hu;obtain rfl|rfl|rfl|rfl|rfl:=hu<;>rfl
   case c3=>have:=(Aa A).2;unfold maxLen;omega
   case c4=>have:=(Aa A).2;omega
   case c5=>simp;omega
   intro g7 aA aC ad ae hat bg;have af:jP aC (R<|Q M) 88 5 (jd (Z<|jB g7 0 V) (Y X+1) aA) (Y X+1)<|Io X++GG ⟨l,n,p,d,f⟩:=by rw[(Dz:GG ⟨l,n,p,d,f⟩=[T U l,T U n,jA p,jT,(jJ aQ u6)])];exact ad
   have aD:=Ab<|D.out (x:=⟨l,n,p,d,f⟩) H (Aa aa).1 (Aa aa).2 af ae hat;clear ae hat ad af;go_wp2;go_roundw;case rel=>exact⟨j+1,Aa L,O0,X++[⟨l,n,p,d,f⟩],Ht,by simp[(Aa A).2],(λy hy=>by
    obtain hy|hy:=zJ.1 hy
    .exact Aa aM y hy
    rw[zK.1 hy];exact⟨_,Aa a1,rfl⟩),G4⟩
   have:=Aa L;simp[intOf];omega
  .have N:=Ab I;clear I;obtain⟨ap,aq,ar,au,av,_⟩:=Cp ag;go_wp2_with fail;refine(Aa N).mono ?_;rintro aH w2 ⟨⟨ba,bb,rfl,⟨d,rfl,B,O⟩,⟨f,rfl,C,P⟩⟩,W⟩;have E:=(Aa al) d B;have F:=(Aa ao) f C;have aa:=Ab<|L7 O P;have aw:=Ab<|Aa ah d f B C;have H:=r.trans<|W.mono r.size;have ax:=Ai D.cC H NLN;have e5:=Fm d;have J:=Fm f;clear N al ao ah B O C P W c0 c1 c2 c3 c4 ap aq ar au av ag r;have ab:=Ab<|show AO d=oV d from rfl;have ac:=Ab<|show AO f=oV f from rfl;generalize oV d=ay at ab e5 E|-;generalize oV f=az at ac J F|-;obtain⟨aR,u5,rfl⟩:∃t u,ay=jJ t u:=e5.resolve_left (λq=>by have:=E.1 q;first|cases this|exact this.elim);have bd:az=jT:=F.2 (by first|rfl|trivial);subst bd;clear E F e5 J;have bf:=H.size;dsimp only;go_wp2_with (at_builtin;refine J6 _ rfl _ _ 41 rfl (R<|Q M) 88 aS (jL #[T U 0,T U 0,jA jX,jT,jT]) 5 64 underlying41 aT aU aV aW rfl Ob _ _ _ rfl (K7 ax _) ⟨R<|Q w2,0,V⟩ 1 1 [T U l,T U n,jA p,(jJ aR u5),jT] rfl rfl ?c1 ?c2 Ob ?c3 ?c4 ?c5 (R (Q w2)+1) Oz ?_);case c1=>exact K9<|Lz w2 _
   case c2=>intro u hu;simp at hu;obtain rfl|rfl|rfl|rfl|rfl:=hu<;>rfl
   case c3=>have:=(Aa A).2;unfold maxLen;omega
   case c4=>have:=(Aa A).2;omega
   case c5=>simp;omega
   intro g7 aA aC ad ae hat bg;have af:jP aC (R<|Q M) 88 5 (jd (Z<|jB g7 0 V) (Y X+1) aA) (Y X+1)<|Io X++GG ⟨l,n,p,d,f⟩:=by rw[(Dz:GG ⟨l,n,p,d,f⟩=[T U l,T U n,jA p,(jJ aR u5),jT])];exact ad
   have aD:=Ab<|D.out (x:=⟨l,n,p,d,f⟩) H (Aa aa).1 (Aa aa).2 af ae hat;clear ae hat ad af;go_wp2;go_roundw;case rel=>exact⟨j+1,Aa L,O0,X++[⟨l,n,p,d,f⟩],Ht,by simp[(Aa A).2],(λy hy=>by
    obtain hy|hy:=zJ.1 hy
    .exact Aa aM y hy
    rw[zK.1 hy];exact⟨_,Aa a1,rfl⟩),G4⟩
   have:=Aa L;simp[intOf];omega
  have N:=Ab I;clear I;obtain⟨ap,aq,ar,au,av,_⟩:=Cp ag;go_wp2_with fail;refine(Aa N).mono ?_;rintro aH w2 ⟨⟨ba,bb,rfl,⟨d,rfl,B,O⟩,⟨f,rfl,C,P⟩⟩,W⟩;have E:=(Aa al) d B;have F:=(Aa ao) f C;have aa:=Ab<|L7 O P;have aw:=Ab<|Aa ah d f B C;have H:=r.trans<|W.mono r.size;have ax:=Ai D.cC H NLN;have e5:=Fm d;have J:=Fm f;clear N al ao ah B O C P W c0 c1 c2 c3 c4 ap aq ar au av ag r;have ab:=Ab<|show AO d=oV d from rfl;have ac:=Ab<|show AO f=oV f from rfl;generalize oV d=ay at ab e5 E|-;generalize oV f=az at ac J F|-;obtain⟨aR,u5,rfl⟩:∃t u,ay=jJ t u:=e5.resolve_left (λq=>by have:=E.1 q;first|cases this|exact this.elim);obtain⟨aQ,u6,rfl⟩:∃t u,az=jJ t u:=J.resolve_left (λq=>by have:=F.1 q;first|cases this|exact this.elim);clear E F e5 J;have bf:=H.size;dsimp only;go_wp2_with (at_builtin;refine J6 _ rfl _ _ 41 rfl (R<|Q M) 88 aS (jL #[T U 0,T U 0,jA jX,jT,jT]) 5 64 underlying41 aT aU aV aW rfl Ob _ _ _ rfl (K7 ax _) ⟨R<|Q w2,0,V⟩ 1 1 [T U l,T U n,jA p,(jJ aR u5),(jJ aQ u6)] rfl rfl ?c1 ?c2 Ob ?c3 ?c4 ?c5 (R (Q w2)+1) Oz ?_);case c1=>exact K9<|Lz w2 _
  case c2=>intro u hu;simp at hu;obtain rfl|rfl|rfl|rfl|rfl:=hu<;>rfl
  case c3=>have:=(Aa A).2;unfold maxLen;omega
  case c4=>have:=(Aa A).2;omega
  case c5=>simp;omega
  intro g7 aA aC ad ae hat bg;have af:jP aC (R<|Q M) 88 5 (jd (Z<|jB g7 0 V) (Y X+1) aA) (Y X+1)<|Io X++GG ⟨l,n,p,d,f⟩:=by rw[(Dz:GG ⟨l,n,p,d,f⟩=[T U l,T U n,jA p,(jJ aR u5),(jJ aQ u6)])];exact ad
  have aD:=Ab<|D.out (x:=⟨l,n,p,d,f⟩) H (Aa aa).1 (Aa aa).2 af ae hat;clear ae hat ad af;go_wp2;go_roundw;case rel=>exact⟨j+1,Aa L,O0,X++[⟨l,n,p,d,f⟩],Ht,by simp[(Aa A).2],(λy hy=>by
   obtain hy|hy:=zJ.1 hy
   .exact Aa aM y hy
   rw[zK.1 hy];exact⟨_,Aa a1,rfl⟩),G4⟩
  have:=Aa L;simp[intOf];omega
 have bU:j=m:=Oa;have bV:=Ab (show S.take j=S from zh<|by rw[Aa bk];omega);subst bU;clear ai;go_wp2;go_ret;exact⟨u9,X,rfl,World.ownsRow.mono D.cC a5,by rw[(Aa A).1,Aa bV],D.mem.map λe he=>Ex.aY (λ_ _ _=>trivial) e he,Aa aM,a0⟩
set_option maxHeartbeats 3200000
def Ns(U:List Bool):Ex->List Bool|.lett _ n=>U.set n.toNat jG|.un _ _ k=>Ns U k|.bin _ _ l r=>Ns (Ns U l) r|.ite _ c t e=>Ns (Ns (Ns U c) t) e|_=>U
def WE(w:jD)(ub:Nat)(U:List Bool):Prop:=Ah w ub (U.map λb=>Value.bool b).toArray 4
def IK(ub:Nat)(U:List Bool)(w:jD)(r:Ending)(w':jD):Prop:=r=jN (jS #[])/\WE w' ub U/\IP (λk=>k=ub) w w'
theorem F8{T:jR}{i:Int}(b:T≠175)(k:∀w,(method 454 T v "loop.example/s01308/impl.kids").run jZ w=.ok (227,ja U i) w)(a n:Nat)(c:List Bool)(w:jD)(h:WE w a c):Calls jZ 49 #[jJ T v,X (Z<|jB a 0 V) n n] w (IK a c w):=by have l:=AI (S:=T) (T:=175) underlying175 zeroValue175 b 86;have d:=Ar w<|jC #[ja U 0,ja U 0] 175;have f:=Ah.aB h d NLN;have j:=Ab f;clear b h f;go_enter func49,ntmps49;go_wp2_with fail;refine(KM i _).mono ?_;rintro m o ⟨rfl,g⟩;rw[g];clear g;dsimp only;go_wp2_with fail;refine wp_loop_rounds 1 ?_;rw[rounds_succ];go_wp2_with fail;go_end0;exact⟨rfl,Aa j,IP.aU d⟩
theorem Ahx(i:Int)(k c n:Nat)(a:List Bool)(w:jD)(h:WE w c a)(l:Y a=n)(q:k<n)(r:n<=65535):Calls jZ 49 #[jJ 175<|jL #[ja U i,ja U k],X (Z<|jB c 0 V) n n] w (IK c (a.set k jG) w):=by
 have s:=CK (T:=175) underlying175 86;have t:=Ur i k;have d:=Ar w<|jC #[ja U i,ja U k] 175;have R:=Ah.aB h d NLN;have c1:=R.cell k;have u:=R.frozen k;have v:(k:Int)<(n:Int):=Oa;have f:=R.set k<|.bool jG;have m:=Ab (show WE _ c (a.set k jG)from by
  have e:(a.map λb=>Value.bool b).toArray.setIfInBounds k (.bool jG)=((a.set k jG).map λb=>Value.bool b).toArray:=by simp[List.map_set]
  unfold WE;rw[<-e];exact f);have o:=Ab<|IP.setCell (IP.aU (S:=λk=>k=c) d) (p:=(jB c k V)) (λ_=>rfl)<|.bool jG;obtain⟨x,y⟩:=Ca<|Ah.new w #[ja U i,ja U k] 175;have g:k<Y a:=Oa;clear R f h l;simp only[List.getElem?_toArray,zi,zE g,Option.map]at c1;generalize a[k]=z at c1;clear g;go_enter func49,ntmps49;go_wp2_with fail;refine(KM i _).mono ?_;rintro A B ⟨rfl,j⟩;rw[j];clear j;dsimp only;go_wp2_with fail;refine wp_loop_rounds 1 ?_;rw[rounds_succ];go_wp2_with fail;go_end0;exact⟨rfl,Aa m,Aa o⟩
theorem Aka(i op:Int)(c:jR)(d:jF)(b n:Nat)(j:List Bool->List Bool)(s:Hid<|∀l a,WE l b a->Y a=n->Calls jZ 49 #[jJ c d,X (Z<|jB b 0 V) n n] l (IK b (j a) l)/\Y (j a)=n)(a:List Bool)(w:jD)(h:WE w b a)(m:Y a=n):Calls jZ 49 #[(jJ 168<|jL #[ja U i,ja U op,jJ c d]),X (Z<|jB b 0 V) n n] w (IK b (j a) w):=by have E:=Aco i op c d;have t:=Ab<|LC i op c d;have F:=AI (S:=168) (T:=175) underlying175 zeroValue175 Ob 86;have f:=Ar w<|jC #[ja U 0,ja U 0] 175;have G:=Ah.lt h;have o:=Ah.aB h f NLN;have u:=Ab m;clear h m;go_enter func49,ntmps49;go_wp2_with fail;refine(Aa t _).mono ?_;rintro v p ⟨g,rfl,hg,x,q⟩;have y:=f.trans<|q.mono f.size;have z:=Ab<|Ah.aB o q NLN;have H:¬ g=b:=G7 f.size;have A:=IP.aU (S:=λk=>k=b) y;clear o;dsimp only;go_wp2_with fail;refine wp_loop_rounds 2 ?_;rw[rounds_succ];have c1:jE p (jB g 0 V)=Z (jJ c d):=x.cell 0;have B:=Ab<|Aa s p a (Aa z)<|Aa u;go_wp2_with fail;refine(Aa B).1.mono ?_;rintro v w2 ⟨rfl,e2,r⟩;have C:=Ab e2;have D:=A.trans r λ_ _ h=>h;clear c1 e2 r;dsimp only;go_wp2_with fail;rw[rounds_succ];go_wp2_with fail;go_end0;exact⟨rfl,Aa C,D⟩
theorem Ahy(i op:Int)(d:jR)(f:jF)(j:jR)(l:jF)(b n:Nat)(m p:List Bool->List Bool)(A:Hid<|∀c a,WE c b a->Y a=n->Calls jZ 49 #[jJ d f,X (Z<|jB b 0 V) n n] c (IK b (m a) c)/\Y (m a)=n)(B:Hid<|∀c a,WE c b a->Y a=n->Calls jZ 49 #[jJ j l,X (Z<|jB b 0 V) n n] c (IK b (p a) c)/\Y (p a)=n)(a:List Bool)(w:jD)(h:WE w b a)(r:Y a=n):Calls jZ 49 #[(jJ 170<|jL #[ja U i,ja U op,jJ d f,jJ j l]),X (Z<|jB b 0 V) n n] w (IK b (p<|m a) w):=by have O:=X8 i op d f j l;have C:=Ab<|J4 i op d f j l;have P:=AI (S:=170) (T:=175) underlying175 zeroValue175 Ob 86;have o:=Ar w<|jC #[ja U 0,ja U 0] 175;have W:=Ah.lt h;have s:=Ah.aB h o NLN;have D:=Ab r;clear h r;go_enter func49,ntmps49;go_wp2_with fail;refine(Aa C _).mono ?_;rintro t u ⟨g,rfl,hg,v,x⟩;have E:=o.trans<|x.mono o.size;have F:=Ab<|Ah.aB s x NLN;have G:¬ g=b:=G7 o.size;have H:=IP.aU (S:=λk=>k=b) E;clear s;dsimp only;go_wp2_with fail;refine wp_loop_rounds 3 ?_;rw[rounds_succ];have c1:jE u (jB g 0 V)=Z (jJ d f):=v.cell 0;have y:=Ab<|Aa A u a (Aa F)<|Aa D;go_wp2_with fail;refine(Aa y).1.mono ?_;rintro t w2 ⟨rfl,e2,q⟩;have I:=Ab e2;have J:=Ah.cX v q G;have K:=H.trans q λ_ _ h=>h;clear c1 e2 q;dsimp only;go_wp2_with fail;rw[rounds_succ];have c2:jE w2 (jB g 1 V)=Z (jJ j l):=J.cell 1;have L:=Ab<|Aa B w2 (m a) (Aa I) (Aa y).2;go_wp2_with fail;refine(Aa L).1.mono ?_;rintro t aa ⟨rfl,e3,z⟩;have M:=Ab e3;have N:=K.trans z λ_ _ h=>h;clear c2 e3 z;dsimp only;go_wp2_with fail;rw[rounds_succ];go_wp2_with fail;go_end0;exact⟨rfl,Aa M,N⟩
theorem Ahz(i:Int)(d:jR)(f:jF)(j:jR)(l:jF)(m:jR)(o:jF)(b n:Nat)(p q s:List Bool->List Bool)(I:Hid<|∀c a,WE c b a->Y a=n->Calls jZ 49 #[jJ d f,X (Z<|jB b 0 V) n n] c (IK b (p a) c)/\Y (p a)=n)(J:Hid<|∀c a,WE c b a->Y a=n->Calls jZ 49 #[jJ j l,X (Z<|jB b 0 V) n n] c (IK b (q a) c)/\Y (q a)=n)(K:Hid<|∀c a,WE c b a->Y a=n->Calls jZ 49 #[jJ m o,X (Z<|jB b 0 V) n n] c (IK b (s a) c)/\Y (s a)=n)(a:List Bool)(w:jD)(h:WE w b a)(x:Y a=n):Calls jZ 49 #[(jJ 207<|jL #[ja U i,jJ d f,jJ j l,jJ m o]),X (Z<|jB b 0 V) n n] w (IK b (s<|q<|p a) w):=by have ah:=Ya i d f j l m o;have L:=Ab<|J5 i d f j l m o;have ai:=AI (S:=207) (T:=175) underlying175 zeroValue175 Ob 86;have r:=Ar w<|jC #[ja U 0,ja U 0] 175;have aj:=Ah.lt h;have y:=Ah.aB h r NLN;have M:=Ab x;clear h x;go_enter func49,ntmps49;go_wp2_with fail;refine(Aa L _).mono ?_;rintro t z ⟨g,rfl,hg,A,B⟩;have N:=r.trans<|B.mono r.size;have O:=Ab<|Ah.aB y B NLN;have C:¬ g=b:=G7 r.size;have P:=IP.aU (S:=λk=>k=b) N;clear y;dsimp only;go_wp2_with fail;refine wp_loop_rounds 4 ?_;rw[rounds_succ];have c1:jE z (jB g 0 V)=Z (jJ d f):=A.cell 0;have D:=Ab<|Aa I z a (Aa O)<|Aa M;go_wp2_with fail;refine(Aa D).1.mono ?_;rintro t w2 ⟨rfl,e2,u⟩;have W:=Ab e2;have E:=Ah.cX A u C;have aa:=P.trans u λ_ _ h=>h;clear c1 e2 u;dsimp only;go_wp2_with fail;rw[rounds_succ];have c2:jE w2 (jB g 1 V)=Z (jJ j l):=E.cell 1;have F:=Ab<|Aa J w2 (p a) (Aa W) (Aa D).2;go_wp2_with fail;refine(Aa F).1.mono ?_;rintro t G ⟨rfl,e3,v⟩;have ab:=Ab e3;have ac:=Ah.cX E v C;have ad:=aa.trans v λ_ _ h=>h;clear c2 e3 v;dsimp only;go_wp2_with fail;rw[rounds_succ];have c3:jE G (jB g 2 V)=Z (jJ m o):=ac.cell 2;have ae:=Ab<|Aa K G (q<|p a) (Aa ab) (Aa F).2;go_wp2_with fail;refine(Aa ae).1.mono ?_;rintro t ak ⟨rfl,e4,H⟩;have af:=Ab e4;have ag:=ad.trans H λ_ _ h=>h;clear c3 e4 H;dsimp only;go_wp2_with fail;rw[rounds_succ];go_wp2_with fail;go_end0;exact⟨rfl,Aa af,ag⟩
theorem PW(e:Ex):∀(a:List Bool),Y (Ns a e)=Y a:=by induction e with|lett i n=>intro a;simp[Ns]|un i op k f=>intro a;exact f a|bin i op l h b d=>intro a;rw[Ns,d,b]|ite i c t e b d g=>intro a;rw[Ns,g,d,b]|_=>intro a;rfl
def Nt(n:Nat):Ex->Prop|.lett _ m=>0<=m/\m<n|.un _ _ k=>Nt n k|.bin _ _ l r=>Nt n l/\Nt n r|.ite _ c t e=>Nt n c/\Nt n t/\Nt n e|_=>True
theorem Gz(f n:Nat)(j:n<=65535):∀(e:Ex),Nt n e->∀d b,WE d f b->Y b=n->Calls jZ 49 #[e.val,X (Z<|jB f 0 V) n n] d (IK f (Ns b e) d)/\Y (Ns b e)=n|.int i v,_,d,b,h,hU=>⟨F8 Ob (XY i v) f n b d h,hU⟩|.text i v,_,d,b,h,hU=>⟨F8 Ob (Un i v) f n b d h,hU⟩|.bool i v,_,d,b,h,hU=>⟨F8 Ob (Uo i v) f n b d h,hU⟩|.set i a v c ss,_,d,b,h,hU=>⟨F8 Ob (XZ i a v c) f n b d h,hU⟩|.name i v,_,d,b,h,hU=>⟨F8 Ob (Up i v) f n b d h,hU⟩|.attr i v,_,d,b,h,hU=>⟨F8 Ob (Uq i v) f n b d h,hU⟩|.lett i v,hl,d,b,h,hU=>by obtain⟨k,rfl⟩:∃k:Nat,v=k:=⟨v.toNat,G7 hl.1⟩;exact⟨Ahx i k f n b d h hU (G7 hl.2) j,by rw[PW];exact hU⟩|.un i op k,hl,d,b,h,hU=>by have w:=Gz f n j k hl;obtain⟨m,p,g⟩:=k.form;rw[g]at w;simp only[Ex.val,g];exact⟨Aka i op m p f n (λb=>Ns b k) (Ab w) b d h hU,by rw[PW];exact hU⟩|.bin i op k l,hl,d,b,h,hU=>by have q:=Gz f n j k hl.1;have r:=Gz f n j l hl.2;obtain⟨m,p,g⟩:=k.form;obtain⟨t,u,s⟩:=l.form;rw[g]at q;rw[s]at r;simp only[Ex.val,g,s];exact⟨Ahy i op m p t u f n (λb=>Ns b k) (λb=>Ns b l) (Ab q) (Ab r) b d h hU,by rw[PW];exact hU⟩|.ite i k l o,hl,d,b,h,hU=>by have q:=Gz f n j k hl.1;have r:=Gz f n j l hl.2.1;have x:=Gz f n j o hl.2.2;obtain⟨m,p,g⟩:=k.form;obtain⟨t,u,s⟩:=l.form;obtain⟨z,A,y⟩:=o.form;rw[g]at q;rw[s]at r;rw[y]at x;simp only[Ex.val,g,s,y];exact⟨Ahz i m p t u z A f n (λb=>Ns b k) (λb=>Ns b l) (λb=>Ns b o) (Ab q) (Ab r) (Ab x) b d h hU,by rw[PW];exact hU⟩
theorem AhA(a:jF)(w:jD):Calls jZ 49 #[jT,a] w λb w'=>b=jN (jS #[])/\w'=w:=by go_enter func49,ntmps49;go_wp2;exact K8 (results_none rfl _ _ _) rfl ⟨rfl,rfl⟩
theorem L8{m:Nat}:∀(e:Ex),Nt m e->∀(a:List Bool)(n:Nat),(Ns a e)[n]?=(a[n]?).map λb=>b||usE n e
 |.lett i k,h,a,n=>by
  obtain⟨j,rfl⟩:∃j:Nat,k=j:=⟨k.toNat,G7 h.1⟩;simp only[Ns,usE,zP,List.getElem?_set];by_cases d:j=n
  .subst d;by_cases f:j<Y a
   .simp[f]
   simp[f]
  have g:¬ ((j:Int)=(n:Int)):=Oa;simp[d,g]|.un i op k,h,a,n=>L8 k h a n|.bin i op k l,h,a,n=>by rw[Ns,L8 l h.2,L8 k h.1,Option.map_map];simp only[usE];cases a[n]?<;>simp[Bool.or_assoc]|.ite i k l o,h,a,n=>by rw[Ns,L8 o h.2.2,L8 l h.2.1,L8 k h.1,Option.map_map,Option.map_map];simp only[usE];cases a[n]?<;>simp[Bool.or_assoc]|.int ..,h,a,n=>D7|.text ..,h,a,n=>D7|.bool ..,h,a,n=>D7|.set ..,h,a,n=>D7|.name ..,h,a,n=>D7|.attr ..,h,a,n=>D7
theorem EN{ts:M4}:∀(e:Ex),(∃t,An ts e=Z t)->Nt (Y ts) e
 |.lett i k,⟨t,h⟩=>by
  rw[An]at h;split at h
  .rename_i h0;have:=(zL.1 h).1;exact⟨h0,Oa⟩
  cases h|.un i op k,⟨t,h⟩=>by rw[An]at h;cases d:An ts k with|none=>rw[d]at h;cases h|some a=>exact EN k ⟨a,d⟩
 |.bin i op k l,⟨t,h⟩=>by rw[An]at h;cases d:An ts k with|none=>rw[d]at h;cases h|some a=>cases f:An ts l with|none=>rw[d,f]at h;cases h|some b=>exact⟨EN k ⟨a,d⟩,EN l ⟨b,f⟩⟩
 |.ite i k l o,⟨t,h⟩=>by rw[An]at h;cases d:An ts k with|none=>rw[d]at h;cases h|some a=>cases f:An ts l with|none=>rw[d,f]at h;cases h|some b=>cases g:An ts o with|none=>rw[d,f,g]at h;cases h|some c=>exact⟨EN k ⟨a,d⟩,EN l ⟨b,f⟩,EN o ⟨c,g⟩⟩
 |.int ..,_=>trivial|.text ..,_=>trivial|.bool ..,_=>trivial|.set ..,_=>trivial|.name ..,_=>trivial|.attr ..,_=>trivial
def Ss(X:M9)(k:Nat):List<|Sx×Int:=Cj ((AT (X.take<|Y X-k):Nat):Int)<|X.drop<|Y X-k
theorem Su(X:M9):Ss X 0=[]:=by rw[Ss,Nat.sub_zero,List.drop_length];rfl
theorem Ac0(X:M9):Ss X (Y X)=Cj 0 X:=by rw[Ss,Nat.sub_self,List.drop_zero,List.take_zero];rfl
theorem Akb{X:M9}{k:Nat}(b:k<Y X)(j:Nat)(c:j=Y X-1-k)(a:j<Y X)(hx:X[j].aF=1):AT (X.take<|Y X-k)=AT (X.take j)+1/\Y X-(k+1)=j/\(!((Ss X k).any λq=>Ii (AT (X.take j):Nat) q.1)&&Jr X[j].cond=jG->Ss X (k+1)=Ss X k)/\(¬(!((Ss X k).any λq=>Ii (AT (X.take j):Nat) q.1)&&Jr X[j].cond)=jG->Ss X (k+1)=(X[j],((AT (X.take j):Nat):Int))::Ss X k):=by
 have e1:Y X-k=j+1:=Oa;have e2:Y X-(k+1)=j:=Oa;have e3:AT (X.take<|j+1)=AT (X.take j)+1:=by rw[zY a,L6,K1 hx]
 have e4:X.drop j=X[j]::X.drop (j+1):=Z7 a;have e5:Ss X k=Cj (((AT (X.take j):Nat):Int)+1) (X.drop<|j+1):=by rw[Ss,e1,e3];rfl
 refine⟨by rw[e1,e3],e2,λh=>?_,λh=>?_⟩
 .rw[Ss,e2,e4,Cj,K1 hx,<-e5,K1 P4]
 rw[Ss,e2,e4,Cj,K1 hx,<-e5,K0 h]
theorem Aet{X:M9}{k:Nat}(b:k<Y X)(j:Nat)(c:j=Y X-1-k)(a:j<Y X)(hx:X[j].aF≠1):AT (X.take<|Y X-k)=AT (X.take j)/\Y X-(k+1)=j/\Ss X (k+1)=(X[j],-1)::Ss X k:=by
 have e1:Y X-k=j+1:=Oa;have e2:Y X-(k+1)=j:=Oa;have e3:AT (X.take<|j+1)=AT (X.take j):=by rw[zY a,L6,K0 hx];rfl
 have e4:X.drop j=X[j]::X.drop (j+1):=Z7 a;have e5:Ss X k=Cj ((AT (X.take j):Nat):Int) (X.drop<|j+1):=by rw[Ss,e1,e3]
 exact⟨by rw[e1,e3],e2,by rw[Ss,e2,e4,Cj,K0 hx,<-e5]⟩
def YN(U:List Bool):N5->List Bool|none=>U|some e=>Ns U e
theorem Abj{m:Nat}{o:N5}(h:∀e,o=Z e->Nt m e)(a:List Bool)(n:Nat):(YN a o)[n]?=(a[n]?).map λb=>b||usO n o:=by cases o with|none=>cases c:a[n]?<;>simp[YN,usO,c]|some e=>exact L8 e (h e rfl) a n
theorem YO(c n:Nat)(g:n<=65535)(o:N5)(h:∀e,o=Z e->Nt n e)(a:jD)(b:List Bool)(d:WE a c b)(f:Y b=n):Calls jZ 49 #[AO o,X (Z<|jB c 0 V) n n] a (IK c (YN b o) a)/\Y (YN b o)=n:=by cases o with|none=>exact⟨(AhA _ a).mono λi w' h=>⟨h.1,by rw[h.2];exact d,by rw[h.2];exact IP.refl _ _⟩,f⟩|some e=>exact Gz c n g e (h e rfl) a b d f
structure NdP(X:M9)(n k:Nat)(N:Int)(U:List Bool)(Kl:M9)(Zl:M4):Prop where
 num:N=(AT (X.take<|Y X-k):Nat)kl:Kl=((Ss X k).map Prod.fst).reverse
 zl:Zl=(GH<|Ss X k).reverse
 ul:Y U=n
 us:∀i:Nat,i<n->U[i]?=Z ((Ss X k).any λq=>Ii i q.1)dZ:Y Kl<=k/\Y Zl<=k
theorem Ac1{K:List (Sx×Int)}{n:Nat}{a:List Bool}(h:∀i:Nat,i<n->a[i]?=Z (K.any λq=>Ii i q.1))(h1:∀e,x.cond=Z e->Nt n e)(h2:∀e,x.aD=Z e->Nt n e):∀i:Nat,i<n->(YN (YN a x.cond) x.aD)[i]?=Z (((x,N)::K).any λq=>Ii i q.1):=λi hi=>by rw[Abj h2,Abj h1,h i hi];simp only[z0,List.any_cons,Ii];congr 1;cases usO (i:Int) x.cond<;>cases usO (i:Int) x.aD<;>simp
theorem Abk(X:M9)(i:Nat):AT (X.take i)<=AT X:=by unfold AT;exact((List.take_sublist i X).filter _).length_le
theorem NdP.lett{X:M9}{n k:Nat}{b:List Bool}{c:M9}{d:M4}(h:NdP X n k N b c d)(m:AT X=n)(p:k<Y X)(j:Nat)(r:j=Y X-1-k)(s:j<Y X)(hx:X[j].aF=1)(h1:∀e,X[j].cond=Z e->Nt n e)(h2:∀e,X[j].aD=Z e->Nt n e):∃(nn:Nat)(f:Bool),N=(nn:Int)+1/\nn<n/\b[nn]?=Z f/\((!f&&Jr X[j].cond)=jG->NdP X n (k+1) nn b c d)/\((!f&&Jr X[j].cond)=jI->NdP X n (k+1) nn (YN (YN b X[j].cond) X[j].aD) (c++[X[j]]) (d++[(nn:Int)])):=by
 obtain⟨e1,e2,e3,e4⟩:=Akb p j r s hx;have u:AT (X.take j)+1<=n:=by rw[<-e1,<-m];exact Abk X _
 refine⟨AT<|X.take j,(Ss X k).any λq=>Ii (AT (X.take j):Nat) q.1,by rw[h.num,e1];rfl,Oa,h.us _ Oa,λg=>?_,λg=>?_⟩
 .have e5:=e3 (by simpa using g);exact⟨by rw[e2],by rw[e5];exact h.kl,by rw[e5];exact h.zl,h.ul,by rw[e5];exact h.us,⟨Nat.le_succ_of_le h.dZ.1,Nat.le_succ_of_le h.dZ.2⟩⟩
 have e5:=e4 (by rw[g];decide);refine⟨by rw[e2],by rw[e5,h.kl];simp,by rw[e5,Jc hx,h.zl];simp,?_,by rw[e5];exact Ac1 h.us h1 h2,?_⟩
 .have:∀(V:List Bool) (o:N5),Y V=n->(∀e,o=Z e->Nt n e)->Y (YN V o)=n:=λV o v t=>by
   have hat:=λi=>Abj t V i;apply Nat.le_antisymm
   .obtain q|q:=Nat.lt_or_ge n (Y<|YN V o)
    .have a:=hat n;rw[zw (l:=V) Oa,zE q]at a;cases a
    exact q
   obtain q|q:=Nat.lt_or_ge (Y<|YN V o) n
   .have a:=hat<|Y<|YN V o;rw[zE (l:=V) Oa,zw NLN]at a;cases a
   exact q
  exact this _ _ (this _ _ h.ul h1) h2
 simp;exact h.dZ
theorem NdP.cW{X:M9}{n k:Nat}{a:List Bool}{b:M9}{c:M4}(h:NdP X n k N a b c)(d:k<Y X)(j:Nat)(f:j=Y X-1-k)(g:j<Y X)(hx:X[j].aF≠1)(h1:∀e,X[j].cond=Z e->Nt n e)(h2:∀e,X[j].aD=Z e->Nt n e)(i:Y (YN (YN a X[j].cond) X[j].aD)=n):NdP X n (k+1) N (YN (YN a X[j].cond) X[j].aD) (b++[X[j]]) c:=by obtain⟨e1,e2,e5⟩:=Aet d j f g hx;exact⟨by rw[h.num,e1,e2],by rw[e5,h.kl];simp,by rw[e5,CP hx];exact h.zl,i,by rw[e5];exact Ac1 h.us h1 h2,by simp;exact⟨h.dZ.1,Nat.le_succ_of_le h.dZ.2⟩⟩
structure YP(bn:Nat)(W W':jD):Prop where
 cX:IP (λb=>b=bn\/b=bn+1\/b=bn+3\/b=bn+4\/bn+6<=b) W W'
 oth:KeepsOthers W W'
theorem YP.refl(b:Nat)(a:jD):YP b a a:=⟨IP.refl _ _,KeepsOthers.refl _⟩
theorem YP.trans{a:Nat}{A B C:jD}(h:YP a A B)(k:YP a B C):YP a A C:=⟨h.cX.trans k.cX λ_ _ t=>t,h.oth.trans k.oth⟩
theorem YP.aU{d:Nat}{a b:jD}(h:Ak a b):YP d a b:=⟨IP.aU h,⟨h.size,λk o c _=>(h.block k (yG.1 c).1).trans c⟩⟩
theorem YP.kp{b c w:jD}(h:YP a b c)(d:R (Q w)<=a)(hs:a+6<=R (Q b)):KpB (R<|Q w) (a+5) b c:=⟨⟨h.cX.os,h.cX.tape,h.cX.output,h.cX.size,λk f=>h.cX.block k Oa Oa⟩,h.cX.block _ Oa Oa⟩
structure Ty(bn n:Nat)(w:jD)(N:Int)(U:List Bool)(vk:jF)(Kl:M9)(vn:jF)(Zl:M4)(W:jD):Prop where
 num:Ah W bn #[T jb N] 3
 use:WE W (bn+1) U
 ubx:Ah W (bn+2) #[X (Z ⟨bn+1,0,V⟩) n n] 100
 kbx:Ah W (bn+3) #[vk] 41
 nbx:Ah W (bn+4) #[vn] 101
 cG:jP W (bn+6) 88 5 vk (Y Kl)<|Io Kl
 cD:jP W (bn+6) 2 1 vn (Y Zl)<|Zl.map λx=>Value.int jb x
 aP:Ak w W
 sz:bn+6<=R (Q W)
theorem Ty.below{b:Nat}{d f:jF}{i:M4}{j k:jD}(h:Ty b n w N c d g f i j)(a:Ak j k):Ty b n w N c d g f i k:=⟨h.num.aB a NLN,Ah.aB h.use a NLN,h.ubx.aB a NLN,h.kbx.aB a NLN,h.nbx.aB a NLN,Ai h.cG a NLN,Ai h.cD a NLN,h.aP.trans<|a.mono h.aP.size,zB h.sz a.size⟩
theorem Ov{a:jD}{b:Nat}{cs:Array jF}(R:Ah a b cs t)(h:(Q a)[b]?=Z o)(c:o.isCells=jI):False:=by rw[R.out]at h;cases h;cases c
theorem F9{b:jD}{B size n:Nat}{e:jR}{c:N4}(O:jP b B e size v n c){q:Nat}(hq:jO v=Z q)(h:(Q b)[q]?=Z o)(d:o.isCells=jI):False:=by
 obtain⟨a,_⟩|⟨g,cap,f,a,_,hg,_⟩:=O.2
 .rw[a]at hq;cases hq
 rw[a]at hq;obtain rfl:g=q:=P1;rw[hg]at h;cases h;cases d
theorem Ty.grown{d n:Nat}{w:jD}{N:Int}{j:List Bool}{l m:jF}{p:M9}{r:M4}{a f:jD}{row:Wa}(u:jh (Q w)<=d)(h:Ty d n w N j l p m r a)(hg:a.grownBy f row)(g:∀i,row=Z i->d+6<=i/\∃o:Obj,(Q a)[i]?=Z o/\o.isCells=jI):Ty d n w N j l p m r f:=by have c:∀{b:Nat}{cs:Array jF}{t:jR},Ah a b cs t->Ah f b cs t:=λR=>IF R hg (λe=>by obtain⟨_,o,h1,h2⟩:=g _ e.symm;exact Ov R h1 h2);have ok:∀{B size k:Nat}{e:jR}{v:jF}{s:N4},jP a B e size v k s->jP f B e size v k s:=λO=>Ac O (λq hq=>hg.block q (O.lt q hq).2 (λe=>by obtain⟨_,o,h1,h2⟩:=g _ e.symm;exact F9 O hq h1 h2));exact⟨c h.num,c h.use,c h.ubx,c h.kbx,c h.nbx,ok h.cG,ok h.cD,h.aP.grown hg h.aP.size λk e=>G7<|(g k e).1,zB h.sz hg.size⟩
theorem Ty.setN{d f:jF}{i:M4}{b:jD}(j:R (Q w)<=a)(h:Ty a n w N c d g f i b)(M:Int):Ty a n w M c d g f i (jM b (jB a 0 V)<|T U M)/\YP a b (jM b (jB a 0 V)<|T U M):=⟨⟨h.num.set 0 _,Ah.aJ (p:=(jB a 0 V)) h.use (Oa:a+1≠a) _,h.ubx.aJ (p:=(jB a 0 V)) (Oa:a+2≠a) _,h.kbx.aJ (p:=(jB a 0 V)) (Oa:a+3≠a) _,h.nbx.aJ (p:=(jB a 0 V)) (Oa:a+4≠a) _,Ag h.cG _ _ (λq hq=>by have:=(h.cG.lt q hq).1;show q≠a;omega),Ag h.cD _ _ λq hq=>by have:=(h.cD.lt q hq).1;show q≠a;omega,h.aP.setCell (p:=(jB a 0 V)) j _,by simpa using h.sz⟩,⟨(IP.refl _ b).setCell (p:=(jB a 0 V)) (λ_=>.inl rfl) _,KeepsOthers.setCell _ _ _⟩⟩
theorem Ty.mark{l V:List Bool}{f g:jF}{i:M9}{j:M4}{d c:jD}(r:R (Q w)<=a)(h:Ty a n w N l f i g j d)(m:WE c (a+1) V)(K:IP (λk=>k=a+1) d c):Ty a n w N V f i g j c/\YP a d c:=⟨⟨h.num.cX K Oa,m,h.ubx.cX K Oa,h.kbx.cX K Oa,h.nbx.cX K Oa,Ac h.cG λq hq=>K.block q (h.cG.lt q hq).2<|G7<|(h.cG.lt q hq).1,Ac h.cD λq hq=>K.block q (h.cD.lt q hq).2<|G7<|(h.cD.lt q hq).1,h.aP.trans ⟨K.os,K.tape,K.output,K.size,λk b=>K.block k (G7 h.sz) Oa⟩,zB h.sz K.size⟩,⟨⟨K.os,K.tape,K.output,K.size,λk b s=>K.block k b Oa⟩,⟨K.size,λk o b p=>(K.block k (yG.1 b).1 λe=>by subst e;exact Ov h.use b p).trans b⟩⟩⟩
theorem Ty.cS{s:List Bool}{r:jF}{l:M9}{m:M4}{z:Int}(F:jh (Q w)<=a)(h:Ty a n w N s r l i m f)(O:jP d (a+6) 2 1 v' (Y m+1)<|(m.map λx=>Value.int U x)++[T U z])(hg:(jK f o).grownBy d<|jO i):Ty a n w N s r l v' (m++[z]) (jM d ⟨a+4,0,V⟩ v')/\YP a f (jM d ⟨a+4,0,V⟩ v')/\Ah d (a+4) #[i] 101:=by
 have A:=Ar f o;have c:=h.below A;have lo:∀q,jO i=Z q->a+6<=q:=λq hq=>(h.cD.lt q hq).1;have g:∀{b:Nat}{cs:Array jF}{t:jR},Ah (jK f o) b cs t->b<a+6->Ah d b cs t:=λR G=>IF R hg λe=>G7<|lo _ e.symm;have u:jP d (a+6) 88 5 r (Y l)<|Io l:=Ac c.cG λq hq=>hg.block q (c.cG.lt q hq).2 λe=>Fe c.cG c.cD Ob hq e.symm;have y:IP (λb=>b=a\/b=a+1\/b=a+3\/b=a+4\/a+6<=b) f d:=⟨hg.os,hg.tape,hg.output,zB A.size hg.size,λk v hS=>(hg.block k (zG v A.size) λe=>hS<|G7<|lo _ e.symm).trans<|A.block k v⟩;have B:KeepsOthers f d:=(KeepsOthers.alloc f o).trans (KeepsOthers.of_grownBy hg (λj C e D=>by cases hc:C.isCells with|true=>rfl|false=>exact(F9 c.cD e D hc).elim));have E:a+6<=jh (Q d):=zB c.sz hg.size;refine⟨⟨(g c.num Oa).aJ (p:=⟨a+4,0,V⟩) (Oa:a≠a+4) _,Ah.aJ (p:=⟨a+4,0,V⟩) (g c.use Oa) (Oa:a+1≠a+4) _,(g c.ubx Oa).aJ (p:=⟨a+4,0,V⟩) (Oa:a+2≠a+4) _,(g c.kbx Oa).aJ (p:=⟨a+4,0,V⟩) (Oa:a+3≠a+4) _,(g c.nbx Oa).set 0 _,Ag u _ _ (λq hq=>by have:=(u.lt q hq).1;show q≠a+4;omega),?_,?_,by simpa using E⟩,⟨y.setCell (p:=⟨a+4,0,V⟩) (λ_=>.inr (.inr<|.inr<|.inl rfl)) _,B.trans<|KeepsOthers.setCell _ _ _⟩,g c.nbx Oa⟩
 .rw[zC,zN];exact Ag O _ _ (λq hq=>by have:=(O.lt q hq).1;show q≠a+4;omega)
 exact(c.aP.grown hg c.aP.size λk e=>G7<|lo _ e).setCell (p:=⟨a+4,0,V⟩) (Oa:jh (Q w)<=a+4) _
theorem Ty.pushK{s:List Bool}{i r:jF}{l:M9}{m:M4}(E:jh (Q w)<=a)(h:Ty a n w N s i l r m f)(O:jP d (a+6) 88 5 v' (Y l+1)<|Io l++GG x)(hg:(jK f o).grownBy d<|jO i):Ty a n w N s v' (l++[x]) r m (jM d ⟨a+3,0,V⟩ v')/\YP a f (jM d ⟨a+3,0,V⟩ v')/\Ah d (a+3) #[i] 41:=by
 have A:=Ar f o;have c:=h.below A;have lo:∀q,jO i=Z q->a+6<=q:=λq hq=>(h.cG.lt q hq).1;have g:∀{b:Nat}{cs:Array jF}{t:jR},Ah (jK f o) b cs t->b<a+6->Ah d b cs t:=λR F=>IF R hg λe=>G7<|lo _ e.symm;have u:jP d (a+6) 2 1 r (Y m)<|m.map λx=>Value.int U x:=Ac c.cD λq hq=>hg.block q (c.cD.lt q hq).2 λe=>Fe c.cD c.cG Ob hq e.symm;have y:IP (λb=>b=a\/b=a+1\/b=a+3\/b=a+4\/a+6<=b) f d:=⟨hg.os,hg.tape,hg.output,zB A.size hg.size,λk v hS=>(hg.block k (zG v A.size) λe=>hS<|G7<|lo _ e.symm).trans<|A.block k v⟩;have z:KeepsOthers f d:=(KeepsOthers.alloc f o).trans (KeepsOthers.of_grownBy hg (λj B e C=>by cases hc:B.isCells with|true=>rfl|false=>exact(F9 c.cG e C hc).elim));have D:a+6<=jh (Q d):=zB c.sz hg.size;refine⟨⟨(g c.num Oa).aJ (p:=⟨a+3,0,V⟩) (Oa:a≠a+3) _,Ah.aJ (p:=⟨a+3,0,V⟩) (g c.use Oa) (Oa:a+1≠a+3) _,(g c.ubx Oa).aJ (p:=⟨a+3,0,V⟩) (Oa:a+2≠a+3) _,(g c.kbx Oa).set 0 _,(g c.nbx Oa).aJ (p:=⟨a+3,0,V⟩) (Oa:a+4≠a+3) _,?_,Ag u _ _ λq hq=>by have:=(u.lt q hq).1;show q≠a+3;omega,?_,by simpa using D⟩,⟨y.setCell (p:=⟨a+3,0,V⟩) (λ_=>.inr (.inr<|.inl rfl)) _,z.trans<|KeepsOthers.setCell _ _ _⟩,g c.kbx Oa⟩
 .rw[zC,Nv];exact Ag O _ _ (λq hq=>by have:=(O.lt q hq).1;show q≠a+3;omega)
 exact(c.aP.grown hg c.aP.size λk e=>G7<|lo _ e).setCell (p:=⟨a+3,0,V⟩) (Oa:jh (Q w)<=a+3) _
section
open Go.RowKit Go.Lib Go.Sort Go.Shelf
instance:Inhabited Sx:=⟨⟨0,0,⟨#[]⟩,V,V⟩⟩
theorem WG  [Inhabited α](enc:α->jF){B g n c size q:Nat}{e:jR}(O:jP w B e size (X (Z<|jB g 0 V) n c) n h)(d:Array α)(hd:d.size=n*size):(putRow enc (Sort.ahead w q) g 0 d).ownsRow B e size (X (Z<|jB g 0 V) n c) n (d.toList.map enc)/\IP (λb=>b=g) w (putRow enc (Sort.ahead w q) g 0 d):=by
 obtain⟨a,_⟩|⟨p,cap,f,a,h1,i,h3,h4,h5,h6⟩:=O.2
 .cases a
 cases a;refine⟨⟨by simp[hd],.inr ⟨g,c,putCells enc 0 d f,rfl,h1,?_,h3,h4,by simp[putCells,h5],?_⟩⟩,⟨rfl,rfl,rfl,by simp[putRow,mapBlock,Sort.ahead],λk r l=>?_⟩⟩
 .simp[putRow,mapBlock,Sort.ahead,Array.getElem?_modify,i,onCells]
 .have s:n*size<=f.size:=by rw[h5];exact Nat.mul_le_mul_right _ h3
  apply List.ext_getElem?;intro j;by_cases m:j<n*size
  .rw[List.getElem?_take_of_lt m,Array.getElem?_toList];have o:j<d.size:=Oa;simp[putCells,o,(Oa:j<f.size)]
  rw[List.getElem?_take_eq_none Oa,zw Od]
 have:¬ g=k:=λe=>l e.symm;simp[putRow,mapBlock,Sort.ahead,Array.getElem?_modify,this]
theorem TF  [Inhabited α](enc:α->jF){B g n c size:Nat}{e:jR}{d:Array α}(O:jP w B e size (X (Z<|jB g 0 V) n c) n<|d.toList.map enc):Holds enc w g 0 d:=by
 obtain⟨a,_⟩|⟨i,cap,f,a,h1,b,h3,h4,h5,h6⟩:=O.2
 .cases a
 cases a;intro j h;refine⟨?_,by simp[jY,b]⟩;have k:n*size=d.size:=by have:=O.1;simpa using this.symm
 have hq:(f.toList.take<|n*size)[j]?=(d.toList.map enc)[j]?:=by rw[h6]
 rw[List.getElem?_take_of_lt Oa]at hq;simp only[jE,b,zT];simp only[Option.isSome_none,Bool.false_eq_true,if_false];rw[<-Array.getElem?_toList,hq];simp[h]
theorem AbN(S:M9):(flatK GG 5 S.toArray).toList=Io S:=by
 apply List.ext_getElem?;intro t;by_cases ht:t<Y S*5
 .have b:t/5<Y S:=Oa;have a:t%5<5:=Nat.mod_lt _ Ob;have e:=PZ S (t/5) b (t%5) a;rw[(Oa:t/5*5+t%5=t)]at e;rw[e];have g:=get_flatK GG 5 S.toArray t (by simpa using ht);rw[Array.getElem?_toList,Array.getElem?_eq_getElem<|by simpa using ht];rw[getElem!_pos (flatK GG 5 S.toArray) t<|by simpa using ht]at g;rw[g];have c:Y (GG S[t/5])=5:=rfl;have e2:S.toArray[t/5]! =S[t/5]:=by simp[b]
  rw[e2,zE<|by rw[c];exact a,getElem!_pos (GG S[t/5]) (t%5)<|by rw[c];exact a]
 rw[zw Od,zw<|by rw[AbO];omega]
theorem Zx(S:M9)(B g c:Nat)(w:jD)(O:jP w B 88 5 (X (Z<|jB g 0 V) (Y S) c) (Y S)<|Io S)(hs:Y S<=65535):Calls jZ 50 #[X (Z<|jB g 0 V) (Y S) c] w λa w'=>a=jN (jS #[])/\jP w' B 88 5 (X (Z<|jB g 0 V) (Y S) c) (Y S) (Io S.reverse)/\IP (λb=>b=g) w w':=by
 have h1:∀(x:Sx),∀v∈GG x,v.oneCell'=jG:=λx v d=>by
  simp[GG]at d;obtain rfl|rfl|rfl|rfl|rfl:=d
  .rfl
  .rfl
  .rfl
  .obtain e|⟨t,u,e⟩:=Bz x.cond<;>rw[e]<;>rfl
  obtain e|⟨t,u,e⟩:=Bz x.aD<;>rw[e]<;>rfl
 have f:HoldsK GG 5 w g 0 S.toArray:=TF id (size:=5) (n:=Y S) (c:=c) (B:=B) (e:=88) (by rw[List.map_id,AbN];exact O);refine(Tryz.slices_ReverseK 5 Tryz.isAgg88 Tryz.sizeOf88 GG (λx=>rfl) h1 g 0 c S.toArray w f Od).mono ?_;rintro a w' ⟨rfl,q,rfl⟩;have P:=WG id (q:=q) O (flatK GG 5 S.reverse.toArray) Oz;rw[List.map_id,AbN]at P;have e:putRowK GG 5 (Sort.ahead w q) g 0 S.toArray.reverse=putRow id (Sort.ahead w q) g 0 (flatK GG 5 S.reverse.toArray):=by rw[putRowK,List.reverse_toArray]
 rw[e];exact⟨rfl,P⟩
theorem WH(zs:M4)(B g c:Nat)(w:jD)(O:jP w B 2 1 (X (Z<|jB g 0 V) (Y zs) c) (Y zs)<|zs.map λx=>Value.int U x)(hs:Y zs<=65535):Calls jZ 51 #[X (Z<|jB g 0 V) (Y zs) c] w λa w'=>a=jN (jS #[])/\jP w' B 2 1 (X (Z<|jB g 0 V) (Y zs) c) (Y zs) (zs.reverse.map λx=>Value.int U x)/\IP (λb=>b=g) w w':=by refine(Tryz.slices_Reverse (Value.int U) (λx=>rfl) g 0 c zs w (TF (Value.int U) (size:=1) (n:=Y zs) (c:=c) (B:=B) (e:=2) O) Oa).mono ?_;rintro a w' ⟨rfl,q,rfl⟩;exact⟨rfl,WG (Value.int U) (q:=q) O zs.reverse.toArray Oz⟩
theorem Zy(a:M2 Addr)(c:Nat)(w:jD):Calls jZ 51 #[X a 0 c] w λb w'=>b=jN (jS #[])/\w'=w:=Tryz.slices_Reverse_empty (α:=Int) a c w
theorem OG(zs:M4)(B:Nat)(v:jF)(w:jD)(O:jP w B 2 1 v (Y zs)<|zs.map λx=>Value.int U x)(hs:Y zs<=65535):∃a c,v=X a (Y zs) c/\Calls jZ 51 #[X a (Y zs) c] w λd w'=>d=jN (jS #[])/\jP w' B 2 1 v (Y zs) (zs.reverse.map λx=>Value.int U x)/\IP (λb=>jO v=Z b) w w':=by
 obtain⟨rfl,h0⟩|⟨g,cap,i,rfl,_⟩:=O.2
 .have hz:zs=[]:=List.length_eq_zero_iff.1 h0;subst hz;exact⟨V,0,rfl,(Zy V 0 w).mono λd w' h=>⟨h.1,by rw[h.2];exact O,by rw[h.2];exact IP.refl _ _⟩⟩
 exact⟨_,_,rfl,(WH zs B g cap w O hs).mono λd w' h=>⟨h.1,h.2.1,⟨h.2.2.os,h.2.2.tape,h.2.2.output,h.2.2.size,λk f hS=>h.2.2.block k f λe=>hS G1⟩⟩⟩
theorem PF{B g n c:Nat}{S:M9}(O:jP w B 88 5 (X (Z<|jB g 0 V) n c) n<|Io S):ZB w g S:=by
 obtain⟨a,_⟩|⟨i,cap,b,a,h1,d,h3,h4,h5,h6⟩:=O.2
 .cases a
 cases a;refine⟨b,⟨d⟩,λf u hu=>?_⟩;rw[<-h6]at hu;have h:f<n*5:=by have:=(zL.1 hu).1;rw[zv]at this;omega
 rw[List.getElem?_take_of_lt h,Array.getElem?_toList]at hu;exact hu
end
section
open Go.RowKit Go.Shelf
attribute [local go_sem] Oper.semAt_some
theorem AlS:(jZ.info? 4).map (λi=>(i.zero,i.size,i.bytes))=Z (Z<|.bool jI,1,1):=Ok
theorem Akc:(jZ.info? 2).map (λi=>(i.zero,i.size,i.bytes))=Z (Z<|T U 0,1,8):=Ok
theorem Abl(z:jF)(n:Nat):madeCells #[z] n=(List.replicate n z).toArray:=by
 apply Array.ext
 .rw[size_madeCells];simp
 intro i h1 h2;simp[madeCells,Nat.mod_one]
def Tz(wA:jD)(n g m c:Nat):jD:=jK (jK (jK (jK (jK (jK wA<|jC #[T U n] 3)<|jC (madeCells #[.bool jI] n) 4)<|jC #[X (Z ⟨R (Q wA)+1,0,V⟩) n n] 100)<|jC #[X V 0 0] 41)<|jC #[X V 0 0] 101)<|jC #[X (Z<|jB g 0 V) m c] 41
theorem AhG(w a:jD)(d:Ak w a)(n g m c:Nat):Ty (R<|Q a) n w n (List.replicate n jI) (X V 0 0) [] (X V 0 0) [] (Tz a n g m c)/\Ah (Tz a n g m c) (R (Q a)+5) #[X (Z<|jB g 0 V) m c] 41/\(Tz a n g m c).heap.size=R (Q a)+6/\Ak a (Tz a n g m c):=by
 have B:Ak a<|Tz a n g m c:=(((((Ar a _).alloc Oz _).alloc Od _).alloc Od _).alloc Od _).alloc Od _;have j:=(((((Ah.new a #[T U n] 3).alloc<|jC (madeCells #[.bool jI] n) 4).alloc<|jC #[X (Z ⟨R (Q a)+1,0,V⟩) n n] 100).alloc<|jC #[X V 0 0] 41).alloc<|jC #[X V 0 0] 101).alloc<|jC #[X (Z<|jB g 0 V) m c] 41;have f:=((((Ah.new (jK a<|jC #[T U n] 3) (madeCells #[.bool jI] n) 4).alloc<|jC #[X (Z ⟨R (Q a)+1,0,V⟩) n n] 100).alloc<|jC #[X V 0 0] 41).alloc<|jC #[X V 0 0] 101).alloc<|jC #[X (Z<|jB g 0 V) m c] 41;have r2:=(((Ah.new (jK (jK a<|jC #[T U n] 3)<|jC (madeCells #[.bool jI] n) 4) #[X (Z ⟨R (Q a)+1,0,V⟩) n n] 100).alloc<|jC #[X V 0 0] 41).alloc<|jC #[X V 0 0] 101).alloc<|jC #[X (Z<|jB g 0 V) m c] 41;have r3:=((Ah.new (jK (jK (jK a<|jC #[T U n] 3)<|jC (madeCells #[.bool jI] n) 4)<|jC #[X (Z ⟨R (Q a)+1,0,V⟩) n n] 100) #[X V 0 0] 41).alloc<|jC #[X V 0 0] 101).alloc<|jC #[X (Z<|jB g 0 V) m c] 41;have h:=(Ah.new (jK (jK (jK (jK a<|jC #[T U n] 3)<|jC (madeCells #[.bool jI] n) 4)<|jC #[X (Z ⟨R (Q a)+1,0,V⟩) n n] 100)<|jC #[X V 0 0] 41) #[X V 0 0] 101).alloc<|jC #[X (Z<|jB g 0 V) m c] 41;have i:=Ah.new (jK (jK (jK (jK (jK a<|jC #[T U n] 3)<|jC (madeCells #[.bool jI] n) 4)<|jC #[X (Z ⟨R (Q a)+1,0,V⟩) n n] 100)<|jC #[X V 0 0] 41)<|jC #[X V 0 0] 101) #[X (Z<|jB g 0 V) m c] 41;simp only[K6]at f r2 r3 h i;have hs:(Tz a n g m c).heap.size=R (Q a)+6:=by simp only[Tz,K6]
 refine⟨⟨j,?_,r2,r3,h,G8,G8,d.trans<|B.mono d.size,by rw[hs];exact NLN⟩,i,hs,B⟩;show Ah _ _ ((List.replicate n jI).map λb=>Value.bool b).toArray 4;rw[List.map_replicate,<-Abl];exact f
theorem Sv:∀(a:M9)(n:Int)(q:Sx×Int),q∈Cj n a->q.1∈a
 |[],n,q,h=>O6|x::a,n,q,h=>by
  rw[Cj]at h;split at h
  .split at h
   .exact zV _ (Sv a _ q h)
   obtain rfl|h:=zS.1 h
   .exact zR ..
   exact zV _ (Sv a _ q h)
  obtain rfl|h:=zS.1 h
  .exact zR ..
  exact zV _ (Sv a _ q h)
theorem Akd{B:Nat}{a:M2 Addr}{c:Nat}{zs:M4}(O:jP w B 2 1 (X a (Y zs) c) (Y zs)<|zs.map λx=>Value.int U x):AhF w a zs:=λj b=>by obtain⟨x,f,e1,e2⟩:=Af O;cases e1;obtain⟨g,rfl,_,hc⟩:=e2<|Nat.lt_of_le_of_lt (zH _) b;have d:=hc j (T U zs[j]) (by simp[b]);exact⟨g,rfl,World.block_lt_of_cell? w _ d,d⟩
theorem Ex.cB{w:jD}{k:Nat}{o:Obj}(d:(Q w)[k]?=Z o)(i:o.isCells=jI)(o':Obj):∀(e:Ex),e.mem TT w->e.mem TT (w.putObj k o')
 |.int ..,h=>h|.text ..,h=>h|.bool ..,h=>h|.set _ a n c ss,h=>⟨⟨h.1.len,h.1.cap,h.1.aH,h.1.bE,λj m=>by
   obtain⟨b,p,r,s,hc⟩:=h.1.cells j m;obtain⟨q,hq,l⟩:=cells_of_cell hc;have t:b≠k:=λe=>by subst e;rw[show(Q w)[b]?=Z q from hq]at d;cases d;rw[i]at l;cases l
   exact⟨b,p,r,by simpa using s,by rw[<-hc];exact L0<|World.putObj_heap_other λe=>t e⟩⟩,h.2⟩|.name ..,h=>h|.attr ..,h=>h|.lett ..,h=>h|.un _ _ e,h=>Ex.cB d i o' e h|.bin _ _ e f,h=>⟨Ex.cB d i o' e h.1,Ex.cB d i o' f h.2⟩|.ite _ e f g,h=>⟨Ex.cB d i o' e h.1,Ex.cB d i o' f h.2.1,Ex.cB d i o' g h.2.2⟩
def xAt(X:M9)(j:Nat):Sx:=(X[j]?).getD ⟨0,0,⟨#[]⟩,V,V⟩
theorem AhH{X:M9}{j:Nat}(h:j<Y X):xAt X j=X[j]:=by simp[xAt,h]
theorem Wh(X:M9)(m g c:Nat)(w:jD)(hm:je X=m)(bv:m<=65535)(h:ZB w g X)(hx:ST TT w X)(h1:∀x∈X,x.aF=1->∃e,x.cond=Z e)(K:∀x∈X,(∀e,x.cond=Z e->Nt (AT X) e)/\(∀e,x.aD=Z e->Nt (AT X) e))(cv:Cj 0 X≠[])(hu:∀q∈Cj 0 X,∀m,Ii m q.1=jG->m∈GH (Cj 0 X))(cw:(GH<|Cj 0 X).Nodup):Calls jZ 18 #[jd (Z<|jB g 0 V) m c] w λcx w'=>∃v Y,cx=jN v/\jP w' (R<|Q w) 88 5 v (je Y) (Io Y)/\Y.map Cu=(Tu X).map Cu/\ST TT w' Y/\(∀y∈Y,∃s∈X,y.bZ=s.bZ)/\Ak w w':=by
 obtain⟨cy,cz,cA,cC,cE⟩:=info_parts Abg;obtain⟨cF,cH,cI,cJ,cK⟩:=info_parts Akc;have bw:=Ab<|Wd X m g c w hm bv h;have a3:AT X<=65535:=G7<|YK X;refine(callsIn_wide (n:=5)).1 ?_;refine callsIn_of_wp_marks func18 rfl trivial ?_ rfl;simp only[ntmps18,List.size_toArray,List.length_cons,List.length_nil,Nat.reduceAdd,Nat.reduceSub,Array.replicate_succ,Array.replicate_zero,List.push_toArray,List.append_toArray,List.nil_append,List.cons_append];have cL:=run_make_row' (P:=jZ) 100 4 (.bool jI) 1 underlying100 AlS rfl U U (AT X) Oa Oa;have cM:=Ab h1;have bx:=Ab K;have cN:=Ab hx;have cO:=Ab h;have ab:=Ab hm;have cP:=h.lt;clear h1 K hx h hm;generalize bz:AT X=n at bw a3 cL bx;have bA:=Ab bz;clear bz;gi_wp2;refine⟨trivial,?_⟩;refine(callsIn_wide.2<|Aa bw).mono ?_;rintro e b ⟨rfl,aI⟩;dsimp only;gi_wp2;refine⟨trivial,?_⟩;refine(Vh 4 _ _ _ _).mono ?_;rintro e dz ⟨rfl,rfl⟩;dsimp only;obtain⟨cQ,cT,ag,cU⟩:=AhG w b aI n g m c;gi_wp2;simp only[K6,Nat.add_assoc,Nat.reduceAdd];change Code.wpIn _ _ _ _ _ _ (Tz b n g m c);have L:=aI.size;have cV:StC (Tz b n g m c) g m<|xAt X:=λj ah=>by have:=((Aa cO).below<|aI.trans<|cU.mono aI.size).at j (by rw[Aa ab];exact ah);rw[AhH<|by rw[Aa ab];exact ah];exact this
 refine Vg (F:=Fence.wide) (n:=5) (P:=jZ) rfl Oa (gf:=101) (lb:=#[.pointer<|Z ⟨R (Q b)+5,0,V⟩]) rfl trivial (N:=m) (Kp:=KpB (R<|Q w)<|R (Q b)+5) (enc:=λk=>#[T U ((m-1-k:Nat):Int),sxA<|xAt X<|m-1-k]) (enters_of func101 Ok rfl) (λh k=>KpB.trans h k) (KpB.putObj (n0:=R<|Q w) (Bs:=R (Q b)+5) (by rw[ag];omega)<|by rw[ag];omega) (Pt 4 (R (Q b)+5) (R<|Q w) g m c (xAt X) bv cP (Tz b n g m c) (by rw[ag];omega) cT cV) (λk=>rfl) (λk d=>∃N D S C M r,NdP X n k N D C r/\Ty (R<|Q b) n w N D S C M r d) (λk d dA row a4 hg ar=>by obtain⟨N,D,S,C,M,r,p,q⟩:=a4;exact⟨N,D,S,C,M,r,p,q.grown L hg<|by rw[ag]at ar;exact ar⟩) ⟨n,List.replicate n jI,_,[],_,[],⟨by rw[<-Aa bA,Nat.sub_zero,zq],by rw[Su];rfl,by rw[Su];rfl,Oz,λi hi=>by rw[Su];simp[hi],Oz⟩,cQ⟩ ?round ?done;case round=>
  intro l k d K a4 cY;obtain⟨N,D,S,C,M,r,H,f⟩:=a4;obtain⟨j,ah⟩:∃j,j=m-1-k:=⟨_,rfl⟩;have ai:j<je X:=by rw[Aa ab];omega
  rw[ag]at K|-;rw[<-ah,AhH ai];have O:=Aa bx _<|zI ai;have aK:=Aa cM _<|zI ai;have a5:k<je X:=by rw[Aa ab];exact cY
  have a6:j=je X-1-k:=by rw[Aa ab];exact ah
  have au:=Ab λhx=>H.lett (Aa bA) a5 j a6 ai hx O.1 O.2;have av:=Ab λhx K=>H.cW a5 j a6 ai hx O.1 O.2 K;have cZ:=H.dZ.1;have c1:=H.dZ.2;have bB:=H.ul;have bC:=Ab bB;clear a5 a6 H;generalize X[j]=x at O aK au av|-;clear ah ai;obtain⟨aj,ac,ak,E,W⟩:=x;simp only at O aK au av;have a7:=Ab (λd D h K=>YO (R (Q b)+1) n a3 E O.1 d D h K);have a8:=Ab λd D h K=>YO (R (Q b)+1) n a3 W O.2 d D h K;have aL:=Ab (λ(e:Ex) (he:E=Z e) (d:jD)=>show Calls jZ 48 #[AO E] d (Bb (Jr E) d)by rw[he];exact DI e d);have aM:=Ab aK;clear O aK;have al:=Ah.new d #[T U aj,T U ac,jA ak,AO E,AO W] 88;have aw:=Ar d<|jC #[T U aj,T U ac,jA ak,AO E,AO W] 88;have dB:R (Q b)+6<=R (Q d):=f.sz;unfold sxA;have e3:=Bz E;have e4:=Bz W;have bD:=Ab (λ(ax ay:jF) (h3:AO E=ax) (h4:AO W=ay)=>show GG ⟨aj,ac,ak,E,W⟩=[T U aj,T U ac,jA ak,ax,ay]by simp only[GG,h3,h4]);generalize a9:AO E=ax at al aw e3 a7 aL|-;generalize bE:AO W=ay at al aw e4 a8|-;have bF:=Ab<|Aa bD ax ay a9 bE;have ba:=Ab a9;clear bD a9 bE;obtain⟨cs,bb⟩:∃cs,cs=#[T U aj,T U ac,jA ak,ax,ay]:=⟨_,rfl⟩;rw[<-bb]at al;have aN:=Ab bb;clear bb;obtain rfl|⟨dC,dD,rfl⟩:=e3<;>obtain rfl|⟨dE,dF,rfl⟩:=e4;all_goals
   gi_wp2;refine⟨(KeepsOthers.alloc _ _).from _,(YP.aU aw).kp L f.sz,λ_ z=>Ty (R<|Q b) n w N D S C M r z/\Ah z (R<|Q d) cs 88,λ_ A B row hs hg ar=>⟨hs.1.grown L hg ar,IF hs.2 hg (λe=>by obtain⟨_,o,h1,h2⟩:=ar _ e.symm;exact Ov hs.2 h1 h2)⟩,⟨f.below aw,by rw[Aa aN]at al|-;exact al⟩,?_⟩;clear al aw f;rintro z ⟨ao,ap⟩;rw[Aa aN]at ap;have bG:=ao.sz;obtain⟨dG,z1,z2,dH,dI,_⟩:=Cp ap;have bc:=YP.refl (R<|Q b) z;by_cases hx:ac=1;case' pos=>first
     |obtain⟨e,he⟩:=Aa aM hx;have h3:=Aa ba;rw[he]at h3;obtain⟨t,u,q⟩:=e.form;rw[show AO (Z e)=_ from q]at h3;cases h3;done
     |subst hx;obtain⟨nn,bH,rfl,dJ,bI,bJ,bK⟩:=Aa au rfl;obtain⟨e,he⟩:=Aa aM rfl;have bd:=Ab<|Aa aL e he;clear au av aL aM aN ba;have dK:(nn:Int)<(n:Int):=Oa;have c0:jE z ⟨R<|Q b,0,V⟩=Z (T U<|(nn:Int)+1):=ao.num.cell 0;have dL:=λj=>ao.num.frozen j;obtain⟨G,ad⟩:=ao.setN L (nn:Int);have aa:=ap.aJ (p:=⟨R<|Q b,0,V⟩) (Oa:R (Q d)≠R (Q b))<|T U nn;have n3:jE (jM z ⟨R<|Q b,0,V⟩<|T U nn) ⟨R<|Q b,0,V⟩=Z (T U nn):=G.num.cell 0;have bL:jE (jM z ⟨R<|Q b,0,V⟩<|T U nn) ⟨R (Q b)+2,0,V⟩=Z (jd (Z ⟨R (Q b)+1,0,V⟩) n n):=G.ubx.cell 0;have b3:jE (jM z ⟨R<|Q b,0,V⟩<|T U nn) ⟨R (Q b)+1,nn,V⟩=Z (.bool bH):=by rw[Ah.cell G.use];simp[bI]
      obtain⟨bM,bN,bO,bP,bQ,_⟩:=Cp aa;clear bI bB ap bc;have az:=Ab bK;have aO:=Ab bJ;clear bK bJ;cases bH;case' false=>
       gi_wp2;refine⟨trivial,?_⟩;refine(CallsIn.inRound l<|callsIn_wide.2<|Aa bd _).mono ?_;rintro e4 aQ ⟨rfl,aR⟩;dsimp only;replace G:=G.below aR;replace aa:=aa.aB aR NLN;replace ad:=ad.trans<|YP.aU aR;clear aR n3 bL b3 bM bN bO bP bQ bd;cases bR:Jr E;case true=>have c2:=Ab (Aa aO<|by rw[bR];rfl);clear az aO;gi_wp2;exact⟨ad.oth.from _,ad.kp L bG,_,_,_,_,_,_,Aa c2,G⟩
       have aS:=Ab (Aa az<|by rw[bR];rfl);clear az aO
      case' true=>have aS:=Ab<|Aa az rfl;clear az aO bd;gi_wp2;refine⟨trivial,?_⟩;clear n3 bL b3 bM bN bO bP bQ;generalize jM z ⟨R (Q b),0,V⟩ (T U nn)=aQ at G aa ad|-
      all_goals have c3:jE aQ ⟨R (Q b)+4,0,V⟩=Z M:=G.nbx.cell 0;have c4:jE aQ ⟨R<|Q b,0,V⟩=Z (T U nn):=G.num.cell 0;obtain⟨c6,s1,s2,c7,c8,_⟩:=Cp aa;have dM:=G.sz;gi_wp2_with (gi_at_builtin;refine wpListIn_append_own _ rfl _ _ 101 rfl (R (Q b)+6) 2 cF (T U 0) 1 8 underlying101 cH cI cJ cK rfl Ob _ _ _ rfl (K7 G.cD _) ⟨R<|Q aQ,0,V⟩ 1 1 [T U nn] rfl rfl (L4 _ _ _) (by simp[Value.oneCell']) O3 Oa Od ?_;intro dN bf bg bh _;obtain⟨bS,c5,rfl⟩:=ownsRow_succ bg;obtain⟨aq,S5,bi⟩:=G.cS L bg bh;have dO:jE bf ⟨R (Q b)+4,0,V⟩=Z M:=bi.cell 0;have dP:jY bf ⟨R (Q b)+4,0,V⟩=jI:=bi.frozen 0;have aA:=(IF (aa.alloc _) bh λe=>Ad aa G.cD Ob e.symm).aJ (p:=⟨R (Q b)+4,0,V⟩) (Oa:R (Q d)≠R (Q b)+4)<|jd (Z<|jB bS 0 V) (je r+1) c5;obtain⟨c9,da,db,dc,dd,_⟩:=Cp aA;have de:=aq.ubx.cell 0);have aT:=ad.trans S5;clear bg bh bi S5 ad aa c3 c4 c6 s1 s2 c7 c8;generalize jM bf ⟨R (Q b)+4,0,V⟩ (jd (Z (jB bS 0 V)) (je r+1) c5)=bj at aq aA aT c9 da db dc dd de|-;refine⟨trivial,?_⟩
   case' neg=>have e1:(ac==1)=jI:=zA.2 hx;have aS:=Ab<|Aa av hx;clear au av aL aM hx aN ba;have dQ:jE z ⟨R (Q b)+2,0,V⟩=Z (jd (Z ⟨R (Q b)+1,0,V⟩) n n):=ao.ubx.cell 0;gi_wp2;refine⟨trivial,?_⟩;obtain⟨bj,rfl⟩:∃d,d=z:=⟨_,rfl⟩;have aT:=bc;have aq:=ao;have aA:=ap;clear bc ap
   all_goals refine(CallsIn.inRound l<|callsIn_wide.2 (Aa a7 bj D aq.use<|Aa bC).1).mono ?_;rintro dR bk ⟨rfl,bT,bl⟩;dsimp only;have bm:=Ab (Aa a7 bj D aq.use<|Aa bC).2;obtain⟨aC,bU⟩:=aq.mark L bT bl;have bn:=aA.cX bl Oa;have bV:=aT.trans bU;clear bT bl bU aT aA;obtain⟨bW,bX,x2,x3,bY,_⟩:=Cp bn;have df:jE bk ⟨R (Q b)+2,0,V⟩=Z (jd (Z ⟨R (Q b)+1,0,V⟩) n n):=aC.ubx.cell 0;generalize dg:YN D E=b0 at aC bm;gi_wp2;refine⟨trivial,?_⟩;refine(CallsIn.inRound l<|callsIn_wide.2 (Aa a8 bk b0 aC.use<|Aa bm).1).mono ?_;rintro dS bo ⟨rfl,b1,bp⟩;dsimp only;have dh:=Ab (Aa a8 bk b0 aC.use<|Aa bm).2;obtain⟨aV,b2⟩:=aC.mark L b1 bp;have di:=bn.cX bp Oa;have dj:=bV.trans b2;clear b1 bp b2 bV bn bW bX x2 x3 bY df;obtain⟨bW,bX,x2,x3,bY,_⟩:=Cp di;have dT:jE bo ⟨R (Q b)+3,0,V⟩=Z S:=aV.kbx.cell 0;have dU:=aV.sz;gi_wp2_with (gi_at_builtin;refine wpListIn_append_own _ rfl _ _ 41 rfl (R (Q b)+6) 88 cy (jL #[T U 0,T U 0,jA jX,jT,jT]) 5 64 underlying41 cz cA cC cE rfl Ob _ _ _ rfl (K7 aV.cG _) ⟨R<|Q bo,0,V⟩ 1 1 (GG ⟨aj,_,ak,E,W⟩) rfl rfl (by rw[Aa bF];exact K9<|Lz bo _) (by rw[Aa bF];intro u hu;simp at hu;obtain rfl|rfl|rfl|rfl|rfl:=hu<;>rfl) O3 Oa Od ?_;intro dV b4 b5 dk _;obtain⟨dW,dX,rfl⟩:=ownsRow_succ b5;obtain⟨dl,dm,b6⟩:=aV.pushK L b5 dk;have dY:jE b4 ⟨R (Q b)+3,0,V⟩=Z S:=b6.cell 0;have d0:jY b4 ⟨R (Q b)+3,0,V⟩=jI:=b6.frozen 0);have b7:=dj.trans dm;exact⟨b7.oth.from _,b7.kp L bG,_,_,_,_,_,_,by subst dg;first|exact Aa aS (Aa dh)|exact Aa aS,dl⟩
 rintro ae d dn ⟨N,D,S,C,M,r,H,f⟩aW;rw[ag]at dn;have aX:C.reverse=(Cj 0 X).map Prod.fst:=by rw[H.kl,List.reverse_reverse,<-Aa ab,Ac0]
 have b8:r.reverse=GH (Cj 0 X):=by rw[H.zl,List.reverse_reverse,<-Aa ab,Ac0]
 have cZ:=H.dZ.1;have c1:=H.dZ.2;have dp:0<je C:=by
  obtain q|q:=Nat.eq_zero_or_pos<|je C
  .rw[List.length_eq_zero_iff.1 q]at aX;exact K4 (List.map_eq_nil_iff.1 aX.symm) cv
  exact q
 have b9:=(yG.1 aW).1;obtain⟨gk,aZ,rfl,d1,d2⟩:=f.cG.form dp;obtain⟨a,ca,rfl,_⟩:=OG r (R (Q b)+6) M d f.cD Oa;have dq:jE d ⟨R (Q b)+3,0,V⟩=Z (jd (Z<|jB gk 0 V) (je C) aZ):=f.kbx.cell 0;have cb:=Ab<|Zx C (R (Q b)+6) gk aZ d f.cG Oa;have a0:=Ab aX;have bq:=Ab b8;clear aX b8 H;gi_wp2;refine⟨trivial,?_⟩;refine(callsIn_wide.2<|Aa cb).mono ?_;rintro e1 a1 ⟨rfl,a2,I⟩;dsimp only;have br:=f.nbx.cX I Oa;have cc:=f.kbx.cX I Oa;have af:=Ac f.cD (λq hq=>I.block q (f.cD.lt q hq).2 λe=>by subst e;exact Fe f.cD f.cG Ob hq rfl);have bs:(Q a1)[ae]?=Z (.deferred<|Z []):=(I.block ae b9 λe=>by subst e;exact F9 f.cG rfl aW rfl).trans aW;have cd:Ak w a1:=f.aP.trans ⟨I.os,I.tape,I.output,I.size,λq hq=>I.block q (G7 f.sz) Oa⟩;obtain⟨d3,d4,dr,ce⟩:=OG r (R (Q b)+6) _ a1 af Oa;cases dr;have cf:=Ab ce;have ds:jE a1 ⟨R (Q b)+4,0,V⟩=Z (jd a (je r) ca):=br.cell 0;have cg:=zG b9 I.size;clear cb f I ce aW dq;gi_wp2;refine⟨trivial,?_⟩;refine(callsIn_wide.2<|Aa cf).mono ?_;rintro e2 z ⟨rfl,ch,J⟩;dsimp only;have ci:=br.cX J λe=>G7<|(af.lt _ e).1;have cj:=cc.cX J λe=>G7<|(af.lt _ e).1;have ck:=Ac a2 λq hq=>J.block q (a2.lt q hq).2 λe=>Fe a2 af Ob hq e;have dt:(Q z)[ae]?=Z (.deferred<|Z []):=(J.block ae cg λe=>F9 af e bs rfl).trans bs;have aE:Ak w z:=cd.trans ⟨J.os,J.tape,J.output,J.size,λq hq=>J.block q Oa λe=>G7<|(af.lt _ e).1⟩;have du:=zG cg J.size;have d5:jE z ⟨R (Q b)+3,0,V⟩=Z (jd (Z<|jB gk 0 V) (je C) aZ):=cj.cell 0;have d6:jE z ⟨R (Q b)+4,0,V⟩=Z (jd a (je r) ca):=ci.cell 0;have cl:=Ab (Sr C.reverse r.reverse (je C) gk aZ a (je r) ca z (List.length_reverse) Oa (PF ck) (List.length_reverse) Oa (by have:=ch;rw[(Oz:je r=je r.reverse)]at this;exact Akd this) (by rw[Aa bq];exact cw) (λx hx q hq=>by rw[Aa a0]at hx;rw[Aa bq];obtain⟨p,aH,rfl⟩:=zU.1 hx;exact hu p aH q hq) (λx hx=>by rw[Aa a0]at hx;obtain⟨p,aH,rfl⟩:=zU.1 hx;have hm:=Aa cN _<|Sv X 0 p aH;have cm:∀e:Ex,e.mem TT w->e.mem TT z:=λe he=>Ex.aY (λ_ _ _=>trivial) e<|e.aG aE NLN he;exact⟨λe he=>cm e<|hm.1 e he,λe he=>cm e<|hm.2 e he⟩));clear br cc af a2 bs cd cf J ds ci cj ch ck;gi_wp2;refine⟨trivial,?_⟩;refine(callsIn_wide.2<|Aa cl).mono ?_;rintro e3 bt ⟨v,Y,rfl,cn,co,cp,cq,cr⟩;dsimp only;have bu:(Q bt)[ae]?=Z (.deferred<|Z []):=(cr.block ae du).trans dt;have dv:=Ab (show Y.map Cu=(Tu X).map Cu by rw[co,Aa a0,Aa bq,Tu];simp only[z6];rfl);have ct:=Ab cn;have dw:=Ab cq;clear cq;have dx:=Ab cp;have cu:=aE.trans<|cr.mono aE.size;have dy:=aE.size;clear cl co cn cp aE;gi_wp2;refine⟨Oz,.inl ⟨_,_,rfl,run_takeDeferred bu,?_⟩⟩;refine⟨_,results_tmp rfl _ _ _,v,Y,rfl,?_,Aa dv,?_,λy hy=>?_,?_⟩
 .exact World.ownsRow.mono (Ac (Aa ct) λq hq=>World.putObj_heap_other λe=>by subst e;exact F9 (Aa ct) hq bu rfl) dy
 .exact(Aa dx).map λe he=>Ex.cB bu rfl _ e he
 .obtain⟨s,hs,e⟩:=Aa dw y hy;rw[Aa a0]at hs;obtain⟨p,aH,rfl⟩:=zU.1 hs;exact⟨_,Sv X 0 p aH,e⟩
 exact cu.trans ((Below.refl _ bt).grown (grownBy_putObj' bt ae _) (G7 cu.size) λq e=>by cases e;omega)
end
end Go.Proofs.YtlcfoihgfcmfeaaGreatDoor

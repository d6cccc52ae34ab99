import Derived.Test.YteiieikcjcfkkaaGreatDoorMXAB
import Derived.Lib.ItoaNum
import Derived.Stop.Asserts
import Derived.RowKitTokens
open Go.Proofs.Tryz
open Option renaming none->T,some->X
open Go.Value renaming int->U,slice->Y,string->Q,iface->jB,agg->jG,pointer->jK,tuple->jO
open Go.IntKind renaming i64->V
open Go renaming World->Z,Value->R,Addr->jD,Calls->jE,TypeId->jJ,maxLen->jM,below_drewN->jg,run_underlying->jl
open Bool renaming true->jA,false->jC
open Go.Obj renaming cells->jF
open Go.Ending renaming returned->jH
open Go.Op renaming bytesLess->ju
open Go.Proofs.Tryz renaming prog->j4
namespace Go.Proofs.YteiieikcjcfkkaaGreatDoor
open Go.RowKit
set_option linter.unusedVariables false
set_option maxRecDepth 100000
set_option maxHeartbeats 6400000
variable {ops:Array Oper}{first c:Bool}{s a x:ByteArray}{b:Exit->Act->Z->Prop}{v:Int}{p:Int×Int}{l K:List ByteArray}{N:List Nd}{rest:List Oper}{i:Nat}{o:Oper}{t u:jJ}{w:Z}{P:Z->Prop}
inductive Ex where
 |int (i n:Int)
 |text (i:Int) (s:ByteArray)
 |bool (i:Int) (b:Bool)
 |set (i:Int) (a:Option jD) (n c:Nat) (ss:List ByteArray)
 |name (i:Int) (s:ByteArray)
 |attr (i n:Int)
 |lett (i n:Int)
 |un (i op:Int) (k:Ex)
 |bin (i op:Int) (l r:Ex)
 |ite (i:Int) (c t e:Ex)
def Ex.val:Ex->R
 |.int i n=> jB 220 (jG #[U V i,U V n])
 |.text i s=> jB 222 (jG #[U V i,Q s])
 |.bool i b=> jB 177 (jG #[U V i,.bool b])
 |.set i a n c _=> jB 218 (jG #[U V i,Y a n c])
 |.name i s=> jB 224 (jG #[U V i,Q s])
 |.attr i n=> jB 225 (jG #[U V i,U V n])
 |.lett i n=> jB 173 (jG #[U V i,U V n])
 |.un i op k=> jB 166 (jG #[U V i,U V op,k.val])
 |.bin i op l r=> jB 168 (jG #[U V i,U V op,l.val,r.val])
 |.ite i c t e=> jB 213 (jG #[U V i,c.val,t.val,e.val])
def Ex.cnt:Ex->Nat
 |.un _ _ k=>k.cnt+1
 |.bin _ _ l r=>l.cnt+r.cnt+1
 |.ite _ c t e=>c.cnt+t.cnt+e.cnt+1
 |_=>1
inductive Cg (N:List Nd):Nat->Ex->Prop
 |int {i:Nat} {x:Nd} (h:N[i]? =X x) (ho:x.op=1) (hk:x.kids=[]):Cg N i (.int i x.num)
 |text {i:Nat} {x:Nd} (h:N[i]? =X x) (ho:x.op=2) (hk:x.kids=[]):Cg N i (.text i x.text)
 |bool {i:Nat} {x:Nd} (h:N[i]? =X x) (ho:x.op=3) (hk:x.kids=[]):Cg N i (.bool i (decide (x.num=1)))
 |set {i:Nat} {x:Nd} (h:N[i]? =X x) (ho:x.op=4) (hk:x.kids=[]) (a:Option jD) (n c:Nat):Cg N i (.set i a n c x.names)
 |name {i:Nat} {x:Nd} (h:N[i]? =X x) (ho:x.op=5) (hk:x.kids=[]):Cg N i (.name i x.text)
 |attr {i:Nat} {x:Nd} (h:N[i]? =X x) (ho:x.op=6) (hk:x.kids=[]):Cg N i (.attr i x.num)
 |lett {i:Nat} {x:Nd} (h:N[i]? =X x) (ho:x.op=7) (hk:x.kids=[]):Cg N i (.lett i x.num)
 |un {i k:Nat} {x:Nd} {e:Ex} (h:N[i]? =X x) (ho: 8<=x.op/\x.op<=10) (hk:x.kids=[(k:Int)]) (hi:k<i) (t:Cg N k e):Cg N i (.un i x.op e)
 |bin {i k l:Nat} {x:Nd} {e f:Ex} (h:N[i]? =X x) (ho: 11<=x.op/\x.op<=26) (hk:x.kids=[(k:Int),(l:Int)]) (hi:k<i/\l<i) (t:Cg N k e) (u:Cg N l f):Cg N i (.bin i x.op e f)
 |ite {i k l m:Nat} {x:Nd} {e f g:Ex} (h:N[i]? =X x) (ho:x.op=27) (hk:x.kids=[(k:Int),(l:Int),(m:Int)]) (hi:k<i/\l<i/\m<i) (t:Cg N k e) (u:Cg N l f) (v:Cg N m g):Cg N i (.ite i e f g)
theorem Cg.lt {e:Ex}(h:Cg N i e):i<N.length:=by
 cases h<;>exact(zd.1 (by assumption)).1
def KM (Es:List Ex):Nat:=(Es.map Ex.cnt).sum
theorem KO {a b:Nat}{B:List (Nat×Nat)}(h:Au (N.map Nd.kids) a B b):∀(Es:List Ex),Es.length=B.length->(∀j,(h1:j<B.length)->(h2:j<Es.length)->Cg N B[j].1 Es[j])->a+KM Es=b:=by
 induction h with
 |nil a=>
  intro Es C _;have:Es=[]:=z9 C;subst this;simp[KM]
 |@cons a t b ks B d D hf G H=>
  intro Es C F
  match Es,C with
  |e ::Es,C=>
   have he:Cg N t e:=F 0 (by simp) (by simp);have M:=H Es (by simpa using C) (fun j h1 h2=>F (j+1) (by simpa using h1) (by simpa using h2));have I:∃x,N[t]? =X x/\x.kids=Am ks:=by
    rw[zZ]at D;cases hx:N[t]? with
    |none=>rw[hx]at D;cases D
    |some x=>rw[hx]at D;exact⟨x,rfl,Option.some.inj D⟩
   obtain⟨x,hx,J⟩:=I;have O:a+e.cnt=t+1:=by
    have E:∀(s:List Ex) (w:List Nat),x.kids=w.map (fun (q:Nat)=>(q:Int))->s.length=w.length->(∀j,(h1:j<w.length)->(h2:j<s.length)->Cg N w[j] s[j])->a+KM s=t:=by
     intro s w hq K L;have e1:ks.map (fun p=>p.1)=w:=by
      have:=J.symm.trans hq;rw[Am]at this;have h2:=congrArg (List.map Int.toNat) this;simpa[List.map_map,Function.comp_def]using h2
     have e2:ks.length=s.length:=by rw[K,<-e1,ze]
     exact(G s e2.symm (fun j h1 h2=>by
      have:=L j (by rw[<-e1,ze];exact h1) h2;have e3:w[j]'(by rw[<-e1,ze];exact h1)=ks[j].1:=by simp[<-e1]
      rw[<-e3];exact this))
    have o:∀{y:Nd},N[t]? =X y->y=x:=fun h=>Option.some.inj (h.symm.trans hx);have A:x.kids=[]->a=t:=fun h0=>by
     have:=E [] [] (by rw[h0];rfl) rfl (fun j h=>absurd h (by simp));simpa[KM]using this
    cases he with
    |int h r d=>rw[A (o h ▸ d)];rfl
    |text h r d=>rw[A (o h ▸ d)];rfl
    |bool h r d=>rw[A (o h ▸ d)];rfl
    |set h r d a n c=>rw[A (o h ▸ d)];rfl
    |name h r d=>rw[A (o h ▸ d)];rfl
    |attr h r d=>rw[A (o h ▸ d)];rfl
    |lett h r d=>rw[A (o h ▸ d)];rfl
    |@un i k y e h r d hi u=>
     have:=E [e] [k] (by rw[<-o h,d];rfl) rfl (fun j h1 h2=>by
      have:j=0:=by simpa using h1
      subst this;exact u)
     simp[KM]at this;simp only[Ex.cnt];omega
    |@bin i k l y e f h r d hi u v=>
     have:=E [e,f] [k,l] (by rw[<-o h,d];rfl) rfl (fun j h1 h2=>by
      match j,h1 with
      |0,_=>exact u
      |1,_=>exact v)
     simp[KM]at this;simp only[Ex.cnt];omega
    |@ite i k l m y e f g h r d hi u v z=>
     have:=E [e,f,g] [k,l,m] (by rw[<-o h,d];rfl) rfl (fun j h1 h2=>by
      match j,h1 with
      |0,_=>exact u
      |1,_=>exact v
      |2,_=>exact z)
     simp[KM]at this;simp only[Ex.cnt];omega
   have e5:KM (e ::Es)=e.cnt+KM Es:=by simp[KM]
   rw[e5];omega
def Bw (n:Int):Int:=if n<2 then 3 else if n<4 then 2 else 4
def Ba (op:Int):List Int->Int
 |[a]=>if op=8/\a=2 then 2 else if op=9/\a=1 then 1 else if op=10/\a=4 then 2 else 0
 |[a,b]=>if (11<=op/\op<=15)/\a=2/\b=2 then 2 else if (16<=op/\op<=18)/\a=4/\b=4 then 4
  else if (op=19\/op=20)/\a=b then 1 else if (op=21\/op=22)/\a=2/\b=2 then 1 else if op=23/\a=3/\b=4 then 1
  else if op=24/\a=4/\b=4 then 1 else if (op=25\/op=26)/\a=1/\b=1 then 1 else 0
 |[a,b,c]=>if a=1/\b=c then b else 0
 |_=>0
def nz (t:Int):Option Int:=if t=0 then T else X t
theorem YK (n:Int): 1<=Bw n/\Bw n<=4:=by unfold Bw;repeat' split<;>try decide
theorem EU {t a:Int}(h:nz t=X a):t=a/\a≠0:=by
 unfold nz at h;split at h
 ·cases h
 ·cases h;exact⟨rfl,by assumption⟩
theorem Ek {P:Program}{a:Act}(f:o.guard=T)(ty:jJ)(x:Operand)(k:o.op= .load ty x)
  (g:Nat)(hx:a.eval x=jK (X ⟨g,0,T⟩))(cs:Array R)(d:TypeDesc)(hc:∀j,w.cell? ⟨g,j,T⟩=cs[j]?)
  (l:P.underlying ty=X d)(r:(match d with| .struct _| .array _ _=>jA|_=>jC)=jA)(hi:(P.info? ty).map (·.size)=X cs.size)
  (h:wpList P ops b rest (a.put o.dst (jG cs)) w):wpList P ops b (o ::rest) a w:=
 wpList_plain f fun _ m=>by
  have c:(loadCells ⟨g,0,T⟩ cs.toList.length).run P w= .ok cs.toList.toArray w:=
   run_loadCells_list (P:=P) w ⟨g,0,T⟩ cs.toList (fun j v hv=>by
    have n:(⟨g,0,T⟩:jD).add j=⟨g,j,T⟩:=by unfold Addr.add;split<;>simp_all
    rw[n,hc j];simpa using hv)
  have p:(loadVar ty ⟨g,0,T⟩).run P w= .ok (jG cs) w:=by
   cases hq:P.info? ty with
   |none=>simp[hq]at hi
   |some i=>
    have hs:i.size=cs.size:=by simpa[hq]using hi
    have q:(isAgg ty).run P w= .ok jA w:=by
     unfold isAgg;rw[Sem.run_bind,jl l w];cases d<;>simp_all
    simp only[Array.length_toList,Array.toArray_toList]at c;simp[loadVar,Sem.run_bind,q,sizeOf,typeInfo,hq,hs,c]
  unfold Oper.wp execOp;simp only[k,hx,Instr.loadAt,Instr.sureAddr,Sem.run_bind,Sem.run_pure,Result.andThen_ok,p];exact m _ _ h
theorem Bq {P:Program}{a:Act}{c:Exit->Act->Z->Prop}(f:o.guard=T)(ty:jJ)(x y:Operand)(g:o.op= .index ty x y)
  (cs:Array R)(hx:a.eval x=jG cs)(k:Nat)(hy:a.eval y=U V k)(n:Nat)(e:jJ)(j:P.underlying ty=X (.array n e))(l:k<n)(d:TypeDesc)(m:P.underlying e=X d)
  (t:(match d with| .struct _| .array _ _=>jA|_=>jC)=jA)(sz:Nat)(hi:(P.info? e).map (·.size)=X sz)(b:Array R)(p:cs.extract (k*sz) (k*sz+sz)=b)
  (h:wpList P ops c rest (a.put o.dst (jG b)) w):wpList P ops c (o ::rest) a w:=
 wpList_plain f fun _ q=>by
  have hq:(Instr.index ty (jG cs) (U V k)).run P w= .ok (jG b) w:=by
   cases hq:P.info? e with
   |none=>simp[hq]at hi
   |some i=>
    have hs:i.size=sz:=by simpa[hq]using hi
    have r:(isAgg e).run P w= .ok jA w:=by
     unfold isAgg;rw[Sem.run_bind,jl m w];cases d<;>simp_all
    have s:(0 :Int)<=(k:Int)/\(k:Int)<(n:Int):=⟨by omega,by omega⟩
    simp[Instr.index,jl j,asIntOf,s,l,part,Sem.run_bind,r,sizeOf,typeInfo,hq,hs,p]
  unfold Oper.wp execOp;simp only[g,hx,hy,Sem.run_bind,hq,Sem.run_pure,Result.andThen_ok];exact q _ _ h
set_option maxHeartbeats 1600000
def okB (first:Bool) (s x:ByteArray):Bool:=first||sl s x
structure DG (names:List ByteArray) (first:Bool) (s best:ByteArray) (found:Bool):Prop where
 yes:found=jA->best∈names/\okB first s best=jA/\∀x∈names,okB first s x=jA->sl x best=jC
 no:found=jC->∀x∈names,okB first s x=jC
theorem DG.start (first:Bool)(s a:ByteArray):DG [] first s a jC:=⟨(fun h=>by cases h),(fun _ x hx=>by cases hx)⟩
theorem DG.skip {b:ByteArray}(h:DG l first s b c)(hx:okB first s x=jC):DG (l++[x]) first s b c:=by
 refine⟨fun hf=>?_,fun hf y hy=>?_⟩
 ·obtain⟨h1,h2,h3⟩:=h.yes hf;refine⟨Z7 _ h1,h2,fun y hy a=>?_⟩;rcases zN.1 hy with hy|hy
  ·exact h3 y hy a
  ·simp only[zS]at hy;subst hy;rw[hx]at a;cases a
 ·rcases zN.1 hy with hy|hy
  ·exact h.no hf y hy
  ·simp only[zS]at hy;subst hy;exact hx
theorem DG.keep (h:DG l first s a jA)(hx:sl x a=jC):DG (l++[x]) first s a jA:=by
 obtain⟨h1,h2,h3⟩:=h.yes rfl;refine⟨fun _=>⟨Z7 _ h1,h2,fun y hy b=>?_⟩,fun hf=>by cases hf⟩;rcases zN.1 hy with hy|hy
 ·exact h3 y hy b
 ·simp only[zS]at hy;subst hy;exact hx
theorem DG.take {c:ByteArray}{a:Bool}(h:DG l first s c a)(hx:okB first s x=jA)(d:a=jA->sl x c=jA):DG (l++[x]) first s x jA:=by
 refine⟨fun _=>⟨by simp,hx,fun y hy b=>?_⟩,fun hf=>by cases hf⟩;rcases zN.1 hy with hy|hy
 ·cases a with
  |false=>rw[h.no rfl y hy]at b;cases b
  |true=>
   have h3:=(h.yes rfl).2.2 y hy b;rw[zv]at h3|-;intro f;exact h3 (Ju f (d rfl))
 ·simp only[zS]at hy;subst hy;exact Dx _
theorem Ahq (first:Bool)(s x:ByteArray)(hf:first=jC)(h:(ju x.toList s.toList||x.toList==s.toList)=jA):okB first s x=jC:=by
 subst hf;simp only[okB,Bool.false_or];rw[Bool.or_eq_true]at h;rcases h with h|h
 ·exact XL h
 ·have:x=s:=(FG x s).1 h;subst this;exact Dx _
theorem AiL (first:Bool)(s x:ByteArray)(h:(ju x.toList s.toList||x.toList==s.toList)=jC):okB first s x=jA:=by
 rw[Bool.or_eq_false_iff]at h;have h1:sl x s=jC:=h.1;have h2:eqS x s=jC:=h.2;have:sl s x=jA:=by
  cases a:sl s x with
  |true=>rfl
  |false=>
   have:=Uy _ _ h1 a;rw[(FG _ _).2 this]at h2;cases h2
 simp[okB,this]
def Ahr (ss:List ByteArray) (first:Bool) (s:ByteArray) (e:Ending):Prop:=∃best found,e=jH (jO #[Q best,.bool found])/\DG ss first s best found
theorem Rt (a:Option jD)(n c:Nat)(ss:List ByteArray)(s:ByteArray)(first:Bool)(w:Z)(h:Ap w a n c ss):
  jE j4 191 #[Y a n c,Q s,.bool first] w fun e w'=>Ahr ss first s e/\w'=w:=by
 have u:n<=9223372036854775807:=by have:=h.cap;have:=h.small;unfold jM at this;omega
 have p:=Ab h.len;go_enter func191,ntmps191
 go_wp2
 go_loop [8,9,11,14] (fun b f _ i=>∃ (k:Nat) (l:ByteArray) (d:Bool),k<=n/\i=U V k/\b=Q l/\f= .bool d/\DG (ss.take k) first s l d) (fun _ _ _ i=>n-(intOf i).toNat)
 case atStart=>exact⟨0,_,jC,zD _,rfl,rfl,rfl,DG.start _ _ _⟩
 case round=>
  obtain⟨k,l,d,v,rfl,rfl,rfl,hi⟩:=hrel;by_cases r:k<n
  ·obtain⟨b,x,t,_,hc⟩:=h.cells k r;subst t;have g:=Ab (Cq ss k (by have:=Aa p;omega));cases q:(ju (Aw ss k).toList s.toList||(Aw ss k).toList==s.toList)
   ·have m:=AiL first s (Aw ss k) q
    have j:=Ab m;clear m;cases d
    ·cases first
     all_goals
      go_wp2
      go_round
      case rel=>exact⟨k+1,_,jA,by omega,by go_num,rfl,rfl,by rw[Aa g];exact hi.take (Aa j) (fun h=>by cases h)⟩
      case measure=>simp[intOf];omega
    ·cases o:ju (Aw ss k).toList l.toList
     ·cases first
      all_goals
       go_wp2
       go_round
       case rel=>exact⟨k+1,_,jA,by omega,by go_num,rfl,rfl,by rw[Aa g];exact hi.keep o⟩
       case measure=>simp[intOf];omega
     ·cases first
      all_goals
       go_wp2
       go_round
       case rel=>exact⟨k+1,_,jA,by omega,by go_num,rfl,rfl,by rw[Aa g];exact hi.take (Aa j) (fun _=>o)⟩
       case measure=>simp[intOf];omega
   ·cases first
    ·have j:=Ab (Ahq jC s (Aw ss k) rfl q);go_wp2
     go_round
     case rel=>exact⟨k+1,_,d,by omega,by go_num,rfl,rfl,by rw[Aa g];exact hi.skip (Aa j)⟩
     case measure=>simp[intOf];omega
    ·have m:okB jA s (Aw ss k)=jA:=rfl;have j:=Ab m;clear m;cases d
     ·go_wp2
      go_round
      case rel=>exact⟨k+1,_,jA,by omega,by go_num,rfl,rfl,by rw[Aa g];exact hi.take (Aa j) (fun h=>by cases h)⟩
      case measure=>simp[intOf];omega
     ·cases o:ju (Aw ss k).toList l.toList
      ·go_wp2
       go_round
       case rel=>exact⟨k+1,_,jA,by omega,by go_num,rfl,rfl,by rw[Aa g];exact hi.keep o⟩
       case measure=>simp[intOf];omega
      ·go_wp2
       go_round
       case rel=>exact⟨k+1,_,jA,by omega,by go_num,rfl,rfl,by rw[Aa g];exact hi.take (Aa j) (fun _=>o)⟩
       case measure=>simp[intOf];omega
  ·have e1:ss.take k=ss:=zY (by have:=Aa p;omega);rw[e1]at hi;go_wp2
   go_ret2
   exact⟨⟨l,d,rfl,hi⟩,rfl⟩
theorem ZI {K:List ByteArray}(h:By K=jA):K.Nodup:=by
 rw[By,zI]at h;exact h.imp (fun {a b} hab e=>by subst e;rw[Dx]at hab;cases hab)
theorem XP:∀(K l:List ByteArray),K.Nodup->(∀x∈K,x∈l)->K.length<=l.length
 |[],_,_,_=>zD _
 |x ::K,l,hn,hs=>by
  obtain⟨l1,a,rfl⟩:=List.append_of_mem (hs x (by simp));rw[List.nodup_cons]at hn;have:=XP K (l1++a) hn.2 (fun y hy=>by
   have b:y≠x:=fun e=>hn.1 (by rw[<-e];exact hy);have hm:=hs y (by simp[hy]);simp only[zN,zP]at hm|-;rcases hm with h|h|h
   ·exact .inl h
   ·exact absurd h b
   ·exact .inr h)
  simp only[zC,List.length_cons]at this|-;omega
theorem Ow:∀(K M:List ByteArray),By K=jA->By M=jA->(∀x,x∈K↔x∈M)->K=M
 |[],[],_,_,_=>rfl
 |[],y ::M,_,_,h=>by have:=(h y).2 (by simp);cases this
 |x ::K,[],_,_,h=>by have:=(h x).1 (by simp);cases this
 |x ::K,y ::M,hK,hM,h=>by
  rw[By,zI,List.pairwise_cons]at hK hM;have b:x=y:=by
   rcases zP.1 ((h x).1 (by simp))with e|hx
   ·exact e
   ·rcases zP.1 ((h y).2 (by simp))with e|hy
    ·exact e.symm
    ·have h1:=hM.1 x hx;have h2:=hK.1 y hy;rw[XL h1]at h2;cases h2
  subst b
  congr 1
  refine Ow K M (by rw[By,zI];exact hK.2) (by rw[By,zI];exact hM.2) fun z=>?_;constructor
  ·intro a;rcases zP.1 ((h z).1 (by simp[a]))with e|hz'
   ·subst e;have:=hK.1 z a;rw[Dx]at this;cases this
   ·exact hz'
  ·intro a;rcases zP.1 ((h z).2 (by simp[a]))with e|hz'
   ·subst e;have:=hM.1 z a;rw[Dx]at this;cases this
   ·exact hz'
structure DL (l K:List ByteArray):Prop where
 rise:By K=jA
 mem:∀x,x∈K↔x∈l
theorem DL.unique {M:List ByteArray}(h:DL l K)(k:DL l M):K=M:=Ow K M h.rise k.rise fun x=>(h.mem x).trans (k.mem x).symm
structure UZ (l K:List ByteArray) (s:ByteArray) (ok:Bool):Prop where
 rise:By K=jA
 yes:ok=jA->s∈l/\∀x,x∈K↔x∈l/\sl x s=jA
 no:ok=jC->∀x,x∈K↔x∈l
theorem UZ.start {t s:ByteArray}(h:DG l jA t s first):UZ l [] s first:=by
 refine⟨rfl,fun a=>⟨(h.yes a).1,fun x=>⟨(fun hx=>by cases hx),fun ⟨hx,b⟩=>?_⟩⟩,fun a x=>⟨(fun hx=>by cases hx),fun hx=>?_⟩⟩
 ·have:=(h.yes a).2.2 x hx rfl;rw[this]at b;cases b
 ·have:=h.no a x hx;cases this
theorem XQ (x s:ByteArray):sl x s=jA\/x=s\/sl s x=jA:=by
 cases h1:sl x s with
 |true=>exact .inl rfl
 |false=>cases h2:sl s x with
  |true=>exact .inr (.inr rfl)
  |false=>exact .inr (.inl (Uy _ _ h1 h2))
theorem UZ.step (h:UZ l K s jA)(k:DG l jC s a first):UZ l (K++[s]) a first:=by
 obtain⟨hs,hm⟩:=h.yes rfl;have rise:By (K++[s])=jA:=by
  rw[By,zI,List.pairwise_append];refine⟨by have:=h.rise;rwa[By,zI]at this,by simp,fun x hx y hy=>?_⟩;simp only[zS]at hy;subst hy;exact((hm x).1 hx).2
 refine⟨rise,fun b=>?_,fun b=>?_⟩
 ·obtain⟨h1,h2,h3⟩:=k.yes b;have c:sl s a=jA:=by simpa[okB]using h2
  refine⟨h1,fun x=>⟨fun hx=>?_,fun ⟨hx,d⟩=>?_⟩⟩
  ·rcases zN.1 hx with hx|hx
   ·exact⟨((hm x).1 hx).1,Ju ((hm x).1 hx).2 c⟩
   ·simp only[zS]at hx;subst hx;exact⟨hs,c⟩
  ·rcases XQ x s with hc|hc|hc
   ·exact Z7 _ ((hm x).2 ⟨hx,hc⟩)
   ·subst hc;simp
   ·have:=h3 x hx (by simpa[okB]using hc);rw[this]at d;cases d
 ·intro x;constructor
  ·intro hx;rcases zN.1 hx with hx|hx
   ·exact((hm x).1 hx).1
   ·simp only[zS]at hx;subst hx;exact hs
  ·intro hx;rcases XQ x s with hc|hc|hc
   ·exact Z7 _ ((hm x).2 ⟨hx,hc⟩)
   ·subst hc;simp
   ·have:=k.no b x hx;simp[okB,hc]at this
theorem UZ.lt (h:UZ l K s jA):K.length<l.length:=by
 obtain⟨hs,hm⟩:=h.yes rfl;have a:s ∉ K:=fun b=>by have:=((hm s).1 b).2;rw[Dx]at this;cases this
 have:=XP (s ::K) l (List.nodup_cons.2 ⟨a,ZI h.rise⟩) (fun x hx=>by
  rcases zP.1 hx with e|hx
  ·subst e;exact hs
  ·exact((hm x).1 hx).1)
 simp only[List.length_cons]at this;omega
def AhM:R->Nat|Y _ n _=>n|_=>0
theorem U0 (h:DL l K)(hs:∀j,j<l.length->(Aw l j).size<=jM):∀j,j<K.length->(Aw K j).size<=jM:=by
 intro j a;have hm:Aw K j∈l:=by
  rw[Bv _ j a];exact(h.mem _).1 (zH a)
 obtain⟨i,hi,e⟩:=(LY _ _).1 hm;rw[<-e];exact hs i hi
def Ahs (w:Z) (ss:List ByteArray) (e:Ending) (w':Z):Prop:=
 ∃x cx K,e=jH (Y x K.length cx)/\w'.ownsRow w.heap.size 9 1 (Y x K.length cx) K.length (K.map Q)/\Ah w w'/\DL ss K
theorem Uq (a:Option jD)(n c:Nat)(ss:List ByteArray)(w:Z)(h:Ap w a n c ss)(O:n<=1048576):
  jE j4 179 #[Y a n c] w fun e w'=>Ahs w ss e w':=by
 obtain⟨i,hi,z,A,B⟩:=info_parts Jc;have C:=Ab h.len;go_enter func179,ntmps179
 go_wp2_with fail
 refine(Rt _ _ _ _ _ _ _ h).mono ?_;rintro e m ⟨⟨D,E,rfl,d⟩,o⟩;rw[o];clear o;have F:=UZ.start d;clear d;go_wp2_with fail
 go_loopw [3,4,5] (fun v s ok wr=>∃ (K:List ByteArray) (t:ByteArray) (q:Bool) (x:Option jD) (f:Nat),s=Q t/\ok= .bool q/\v=Y x K.length f/\wr.ownsRow w.heap.size 9 1 (Y x K.length f) K.length (K.map Q)/\UZ ss K t q/\Ah w wr) (fun v _ _ _=>n-AhM v)
 case atStart=>exact⟨[],D,E,T,0,rfl,rfl,rfl,World.ownsRow_nil _ _ _ _,F,BRN⟩
 case round=>
  obtain⟨K,t,q,x,f,rfl,rfl,rfl,g,b,j⟩:=hrel;cases q
  ·go_wp2
   go_ret
   exact⟨x,f,K,rfl,g,j,⟨b.rise,b.no rfl⟩⟩
  ·have P:K.length<n:=by have:=b.lt;have:=Aa C;omega
   have G:=j.size;go_wp2_with (at_builtin;refine wpList_append_own _ rfl _ _ 46 rfl w.heap.size 9 i (Q ByteArray.empty) 1 16 underlying46 hi z A B rfl (by decide) _ _ _ rfl (g.alloc _) ⟨wr.heap.size,0,T⟩ 1 1 [Q t] rfl rfl ?c1 ?c2 ?c3 ?c4 ?c5 ?_)
   case c1=>exact cell_one_new _ _ _
   case c2=>intro u b;simp at b;subst b;rfl
   case c3=>unfold jM;omega
   case c4=>omega
   case c5=>simp;omega
   intro S m l p _;have r:Ah w m:=(j.alloc G _).grown p (by simp;omega) (fun k H=>(g.lt k H).1);obtain⟨I,J,hf⟩:=Bo l;rw[hf]at l|-;clear p g hf;go_wp2_with fail
   refine(Rt _ _ _ _ _ _ _ (h.below r NLN)).mono ?_;rintro e W ⟨⟨L,M,rfl,d⟩,y⟩;rw[y];clear y;have N:=b.step d;clear d b;go_wp2
   go_roundw
   case rel=>exact⟨K++[t],L,M,I,J,rfl,rfl,by rw[zC];rfl,by rw[zR,zC];exact l,N,r⟩
   case measure=>simp[AhM];omega
section
open Go.RowKit Go.Extern.Stop Go.Stop Go.Extern
end
section
variable {aS aO aZ aW : jD}
end
section
structure Di (a:Int):Prop where
 lo: -9223372036854775808<=a
 hi:a<=9223372036854775807
variable {aS aO aZ aW : jD}
def fit (v:Int):Int×Int:=if -9223372036854775808<=v/\v<=9223372036854775807 then (v,0)else (0,1)
theorem DN (h1: -9223372036854775808<=v)(h2:v<=9223372036854775807):fit v=(v,0):=if_pos ⟨h1,h2⟩
theorem Je (h:v< -9223372036854775808\/9223372036854775807<v):fit v=(0,1):=if_neg (by omega)
def Eg (aS aO aZ aW:jD) (p:Int×Int):R:= jO #[U V p.1,Sb aS aO aZ aW p.2]
theorem Du (h:p=(v,0)):jH (jO #[U V v,.nilIface])=jH (Eg aS aO aZ aW p):=by subst h;rfl
theorem GS (h:p=(0,1)):jH (jO #[U V 0,jB 297 (jK (X aO))])=jH (Eg aS aO aZ aW p):=by subst h;rfl
theorem Vo (h:p=(0,2)):jH (jO #[U V 0,jB 297 (jK (X aZ))])=jH (Eg aS aO aZ aW p):=by subst h;rfl
theorem Abv (h:p=(0,4)):jH (jO #[U V 0,jB 297 (jK (X aS))])=jH (Eg aS aO aZ aW p):=by subst h;rfl
theorem Af1 (a b:Int)(w:Z)(hs:CZ w aS aO aZ aW)(c:Di a)(d:Di b):
  jE j4 196 #[U V a,U V b] w fun e w'=>e=jH (Eg aS aO aZ aW (fit (a+b)))/\Ah w w':=by
 obtain⟨g,h⟩:=c;obtain⟨i,j⟩:=d;have hg:=hs.g1;by_cases h0: 0<b
 ·by_cases h1: 9223372036854775807-b<a
  ·go_enter func196,ntmps196
   go_wp2
   go_quiet (fail)
   go_wp2
   go_ret2
   exact⟨GS (Je (by omega)),jg BRN _⟩
  ·have f:a<=9223372036854775807-b:=by omega
   have h2: ¬ b<0:=by omega
   go_enter func196,ntmps196
   go_wp2
   go_ret2
   exact⟨Du (DN (by omega) (by omega)),BRN⟩
 ·have k:b<=0:=by omega
  by_cases h2:b<0
  ·by_cases h1:a< -9223372036854775808-b
   ·go_enter func196,ntmps196
    go_wp2
    go_quiet (fail)
    go_wp2
    go_ret2
    exact⟨GS (Je (by omega)),jg BRN _⟩
   ·have f: -9223372036854775808-b<=a:=by omega
    go_enter func196,ntmps196
    go_wp2
    go_ret2
    exact⟨Du (DN (by omega) (by omega)),BRN⟩
  ·have e:b=0:=by omega
   subst e;go_enter func196,ntmps196
   go_wp2
   go_ret2
   exact⟨Du (by rw[DN]<;>first|omega|simp),BRN⟩
theorem LE (a b:Int)(w:Z)(hs:CZ w aS aO aZ aW)(c:Di a)(d:Di b):
  jE j4 197 #[U V a,U V b] w fun e w'=>e=jH (Eg aS aO aZ aW (fit (a-b)))/\Ah w w':=by
 obtain⟨g,h⟩:=c;obtain⟨i,j⟩:=d;have hg:=hs.g1;by_cases h0:b<0
 ·by_cases h1: 9223372036854775807+b<a
  ·go_enter func197,ntmps197
   go_wp2
   go_quiet (fail)
   go_wp2
   go_ret2
   exact⟨GS (Je (by omega)),jg BRN _⟩
  ·have f:a<=9223372036854775807+b:=by omega
   have h2: ¬ 0<b:=by omega
   go_enter func197,ntmps197
   go_wp2
   go_ret2
   exact⟨Du (DN (by omega) (by omega)),BRN⟩
 ·have k: 0<=b:=by omega
  by_cases h2: 0<b
  ·by_cases h1:a< -9223372036854775808+b
   ·go_enter func197,ntmps197
    go_wp2
    go_quiet (fail)
    go_wp2
    go_ret2
    exact⟨GS (Je (by omega)),jg BRN _⟩
   ·have f: -9223372036854775808+b<=a:=by omega
    go_enter func197,ntmps197
    go_wp2
    go_ret2
    exact⟨Du (DN (by omega) (by omega)),BRN⟩
  ·have e:b=0:=by omega
   subst e;go_enter func197,ntmps197
   go_wp2
   go_ret2
   exact⟨Du (by rw[DN]<;>first|omega|simp),BRN⟩
theorem Ui (a b:Int)(w:Z)(hs:CZ w aS aO aZ aW)(d:Di a)(g:Di b):
  jE j4 198 #[U V a,U V b] w fun e w'=>e=jH (Eg aS aO aZ aW (fit (a*b)))/\Ah w w':=by
 have q:=d;have i:=g;obtain⟨j,k⟩:=d;obtain⟨l,m⟩:=g;have hg:=hs.g1;by_cases h0:a=0
 ·subst h0;go_enter func198,ntmps198
  go_wp2
  go_ret2
  exact⟨Du (by rw[Int.zero_mul];rfl),BRN⟩
 ·have e0:(a==0)=jC:=zA.2 h0;by_cases h1:a= -1
  ·subst h1;go_enter func198,ntmps198
   go_wp2_with fail
   refine(LE 0 b w hs ⟨by omega,by omega⟩ i).mono ?_;rintro e r ⟨rfl,n⟩;have e5:(0 :Int)-b= -1*b:=by omega
   rw[e5,Eg];generalize hf:fit (-1*b)=f;have c:=Ab hf;clear hf;go_wp2
   go_ret2
   exact⟨by rw[Aa c];rfl,n⟩
  ·have e1:(a== -1)=jC:=zA.2 h1;by_cases hf: -9223372036854775808<=a*b/\a*b<=9223372036854775807
   ·obtain⟨hv,h⟩:=AhQ h0 l m hf.1 hf.2;have c:=Ab (DN hf.1 hf.2);have o:=Ab h;clear hf h;go_enter func198,ntmps198
    go_wp2
    go_ret2
    exact⟨by rw[Aa o];exact Du (Aa c),BRN⟩
   ·have hf':a*b< -9223372036854775808\/9223372036854775807<a*b:=by generalize a*b=p at*;omega
    have hv:=Af0 j k h0 h1 hf';have c:=Ab (Je hf');clear hf hf';go_enter func198,ntmps198
    go_wp2
    go_quiet (fail)
    go_wp2
    go_ret2
    exact⟨GS (Aa c),jg BRN _⟩
def Vp (a b:Int):Int×Int:=if b=0 then (0,2)else fit (a.tdiv b)
def Uj (a b:Int):Int×Int:=if b=0 then (0,2)else fit (a.tmod b)
theorem Yw (a b:Int)(w:Z)(hs:CZ w aS aO aZ aW)(g:Di a)(h:Di b):
  jE j4 199 #[U V a,U V b] w fun e w'=>e=jH (Eg aS aO aZ aW (Vp a b))/\Ah w w':=by
 obtain⟨i,j⟩:=g;obtain⟨k,l⟩:=h;have hg:=hs.g1;have m:=hs.g2;by_cases h0:b=0
 ·subst h0;go_enter func199,ntmps199
  go_wp2
  go_quiet (fail)
  go_wp2
  go_ret2
  exact⟨Vo rfl,jg BRN _⟩
 ·have e0:(b==0)=jC:=zA.2 h0;by_cases hm:a= -9223372036854775808/\b= -1
  ·obtain⟨rfl,rfl⟩:=hm;go_enter func199,ntmps199
   go_wp2
   go_quiet (fail)
   go_wp2
   go_ret2
   exact⟨GS (by decide),jg BRN _⟩
  ·have c:=Py i j h0 (by omega);have d:=Ab (show Vp a b=(a.tdiv b,0) by rw[Vp,if_neg h0,DN c.1 c.2]);have f:=Ab (LD c.1 c.2);clear c;by_cases h1:a= -9223372036854775808
   ·have e1:(a== -9223372036854775808)=jA:=zM.2 h1;have e2:(b== -1)=jC:=zA.2 (fun e=>hm ⟨h1,e⟩);clear h1 hm;go_enter func199,ntmps199
    go_wp2
    go_ret2
    exact⟨by rw[Aa f];exact Du (Aa d),BRN⟩
   ·have e1:(a== -9223372036854775808)=jC:=zA.2 h1;clear h1 hm;go_enter func199,ntmps199
    go_wp2
    go_ret2
    exact⟨by rw[Aa f];exact Du (Aa d),BRN⟩
theorem Yx {x a:Int}(h1: -9223372036854775808<=x)(h2:x<=9223372036854775807): -9223372036854775808<=x.tmod a/\x.tmod a<=9223372036854775807:=by
 have b:(x.tmod a).natAbs<=x.natAbs:=by rw[Int.natAbs_tmod];exact Nat.mod_le _ _
 have hs: 0<=x->0<=x.tmod a:=fun h=>Int.tmod_nonneg a h;have c:x<=0->x.tmod a<=0:=fun h=>by
  have:=Int.tmod_nonneg a (show 0<=-x by omega);rw[Int.neg_tmod]at this;omega
 omega
theorem Sc (a b:Int)(w:Z)(hs:CZ w aS aO aZ aW)(f:Di a)(g:Di b):
  jE j4 200 #[U V a,U V b] w fun e w'=>e=jH (Eg aS aO aZ aW (Uj a b))/\Ah w w':=by
 obtain⟨h,i⟩:=f;obtain⟨k,l⟩:=g;have m:=hs.g2;by_cases h0:b=0
 ·subst h0;go_enter func200,ntmps200
  go_wp2
  go_quiet (fail)
  go_wp2
  go_ret2
  exact⟨Vo rfl,jg BRN _⟩
 ·have e0:(b==0)=jC:=zA.2 h0;by_cases h1:b= -1
  ·subst h1;go_enter func200,ntmps200
   go_wp2
   go_ret2
   exact⟨Du (by rw[Uj,if_neg h0,Int.tmod_neg,Int.tmod_one];rfl),BRN⟩
  ·have e1:(b== -1)=jC:=zA.2 h1;have c:=Yx (a:=b) h i;have d:=Ab (show Uj a b=(a.tmod b,0) by rw[Uj,if_neg h0,DN c.1 c.2]);have j:=Ab (LD c.1 c.2);clear c;go_enter func200,ntmps200
   go_wp2
   go_ret2
   exact⟨by first|(rw[Aa j];exact Du (Aa d))|exact Du (Aa d),BRN⟩
def AZ (op a b:Int):Int×Int:=
 if op=1 then fit (a+b)else if op=2 then fit (a-b)else if op=3 then fit (a*b)else if op=4 then Vp a b else if op=5 then Uj a b else (0,4)
theorem Ki (op a b:Int)(w:Z)(hs:CZ w aS aO aZ aW)(d:Di a)(f:Di b):
  jE j4 192 #[U V op,U V a,U V b] w fun e w'=>e=jH (Eg aS aO aZ aW (AZ op a b))/\Ah w w':=by
 have hg:=hs.g0;by_cases h1:op=1
 ·subst h1;go_enter func192,ntmps192
  go_wp2_with fail
  refine(Af1 a b w hs d f).mono ?_;rintro e g ⟨rfl,c⟩;rw[Eg];go_wp2
  go_ret2
  exact⟨rfl,c⟩
 by_cases h2:op=2
 ·subst h2;go_enter func192,ntmps192
  go_wp2_with fail
  refine(LE a b w hs d f).mono ?_;rintro e g ⟨rfl,c⟩;rw[Eg];go_wp2
  go_ret2
  exact⟨rfl,c⟩
 by_cases h3:op=3
 ·subst h3;go_enter func192,ntmps192
  go_wp2_with fail
  refine(Ui a b w hs d f).mono ?_;rintro e g ⟨rfl,c⟩;rw[Eg];go_wp2
  go_ret2
  exact⟨rfl,c⟩
 by_cases h4:op=4
 ·subst h4;go_enter func192,ntmps192
  go_wp2_with fail
  refine(Yw a b w hs d f).mono ?_;rintro e g ⟨rfl,c⟩;rw[Eg];go_wp2
  go_ret2
  exact⟨rfl,c⟩
 by_cases h5:op=5
 ·subst h5;go_enter func192,ntmps192
  go_wp2_with fail
  refine(Sc a b w hs d f).mono ?_;rintro e g ⟨rfl,c⟩;rw[Eg];go_wp2
  go_ret2
  exact⟨rfl,c⟩
 have e1:(op==1)=jC:=zA.2 h1;have e2:(op==2)=jC:=zA.2 h2;have e3:(op==3)=jC:=zA.2 h3;have e4:(op==4)=jC:=zA.2 h4;have e5:(op==5)=jC:=zA.2 h5;have h:=Ab (show AZ op a b=(0,4) by rw[AZ,if_neg h1,if_neg h2,if_neg h3,if_neg h4,if_neg h5]);clear h1 h2 h3 h4 h5;go_enter func192,ntmps192
 go_wp2
 go_quiet (fail)
 go_wp2
 go_ret2
 exact⟨Abv (Aa h),jg BRN _⟩
end
theorem EC {a:Array R}(h:∀b:Z,Below w.heap.size w b->Ag b w.heap.size a t->P b):P (w.alloc (jF a t)):=
 h _ ((Below.refl w.heap.size w).alloc NLN _) (Ag.new w _ _)
theorem Adu {a b:Array Value}(h:∀c:Z,Below w.heap.size w c->Ag c w.heap.size a t->Ag c (w.heap.size+1) b u->P c):P ((w.alloc (jF a t)).alloc (jF b u)):=
 EC (P:=P) fun c B R=>by
  have e:(w.alloc (jF a t)).heap.size=w.heap.size+1:=by simp
  exact h c (((Below.refl w.heap.size w).alloc NLN _).trans (B.mono (by simp))) ((Ag.new w _ _).after B NLN) (by rw[<-e];exact R)
theorem VQ {a b c:Array Value}{v:jJ}(h:∀d:Z,Below w.heap.size w d->Ag d w.heap.size a t->Ag d (w.heap.size+1) b u->Ag d (w.heap.size+1+1) c v->P d):P (((w.alloc (jF a t)).alloc (jF b u)).alloc (jF c v)):=
 Adu (P:=P) fun d B R S=>by
  have e:(w.alloc (jF a t)).heap.size=w.heap.size+1:=by simp
  rw[e]at R S;exact h d (((Below.refl w.heap.size w).alloc NLN _).trans (B.mono (by simp))) ((Ag.new w _ _).after B NLN) R S
theorem Un (x s:ByteArray):(x.toList==s.toList)=jA↔x=s:=by
 rw[zM];constructor
 ·intro h;rw[zw,zw]at h;cases x;cases s;simp only[ByteArray.mk.injEq];exact Array.toList_inj.1 h
 ·rintro rfl;rfl
theorem Uo {ss:List ByteArray}{j:Nat}(h:j<ss.length):Aw ss j=ss[j]:=by simp[Aw,h]
theorem PC {A B:List ByteArray}(a:A.length=B.length):A=B↔∀j,j<A.length->Aw A j=Aw B j:=by
 constructor
 ·rintro rfl j _;rfl
 ·intro h;refine yD a (fun j h1 h2=>?_);have:=h j h1
  rwa[Uo h1,Uo h2]at this
section
open Classical in
noncomputable def eqP (num num':Int) (text text':ByteArray) (A A':List ByteArray):Bool:=decide (num=num'/\text=text'/\A=A')
open Classical in
theorem EL (c0 num:Int) (text:ByteArray) (a:Option jD) (n c:Nat) (A:List ByteArray) (c0' num':Int) (text':ByteArray) (a':Option jD) (n' c':Nat) (A':List ByteArray) (w:Z) (h:Ap w a n c A) (h':Ap w a' n' c' A'):
  jE j4 81 #[jG #[U V c0,U V num,Q text,Y a n c],jG #[U V c0',U V num',Q text',Y a' n' c']] w fun r w'=>r=jH (.bool (eqP num num' text text' A A'))/\Ah w w':=by
 have B0:=(Av w (jF #[U V c0,U V num,Q text,Y a n c] 139)).alloc (by simp) (jF #[U V c0',U V num',Q text',Y a' n' c'] 139);have R0:=(Ag.new w #[U V c0,U V num,Q text,Y a n c] 139).alloc (jF #[U V c0',U V num',Q text',Y a' n' c'] 139);have R1:=Ag.new (w.alloc (jF #[U V c0,U V num,Q text,Y a n c] 139)) #[U V c0',U V num',Q text',Y a' n' c'] 139;simp only[World.size_alloc]at R1;have H0:=h.below B0 NLN;have H1:=h'.below B0 NLN;have s1:n<=9223372036854775807:=by have:=h.cap;have:=h.small;unfold jM at this;omega
 have HA:=Ab h.len;have HB:=Ab h'.len;clear h h';by_cases hn:num=num'
 ·have en:(num !=num')=jC:=by rw[hn];simp
  by_cases ht:text=text'
  ·have et:(text.toList !=text'.toList)=jC:=by rw[ht];simp
   have et2:(text.toList==text'.toList)=jA:=by rw[ht];simp
   by_cases hl:n=n'
   ·have el:((n:Int)!=(n':Int))=jC:=by rw[hl];simp
    have HE:=Ab (PC (A:=A) (B:=A') (by rw[<-Aa HA,<-Aa HB,hl]));have HQ:=Ab (show eqP num num' text text' A A'=decide (A=A') by simp[eqP,hn,ht]);have Hnm:=Ab hl;clear hn ht hl;go_enter func81,ntmps81
    go_wp2_with fail
    generalize ((w.alloc (jF #[U V c0,U V num,Q text,Y a n c] 139)).alloc (jF #[U V c0',U V num',Q text',Y a' n' c'] 139))=W1 at B0 R0 R1 H0 H1|-;go_loopw [31] (fun i wr=>∃k:Nat,k<=n/\i=U V k/\Ah W1 wr/\Hid (∀j,j<k->Aw A j=Aw A' j)) (fun i _=>n-(intOf i).toNat)
    case atStart=>exact⟨0,by omega,rfl,BRN,Ab (fun j h=>absurd h (by omega))⟩
    case round=>
     obtain⟨k,hk,rfl,D1,Ha⟩:=hrel;have B1:=B0.trans (D1.mono B0.size);by_cases hlt:k<n
     ·have ilt:(k:Int)<(n:Int):=by omega
      have ilm:(k:Int)<(n':Int):=by have:=Aa Hnm;omega
      obtain⟨b1,o1,rfl,hl1,c1⟩:=(H0.below D1 NLN).cells k hlt;obtain⟨b2,o2,rfl,hl2,c2⟩:=(H1.below D1 NLN).cells k (by have:=Aa Hnm;omega);have q3:wr.cell? ⟨w.heap.size+1,3,T⟩=X (Y (X ⟨b2,o2,T⟩) n' c'):=(R1.after D1 NLN).cell 3;have Hno:=Ab (show Aw A k≠Aw A' k->decide (A=A')=jC from fun e=>zJ (fun e'=>e ((Aa HE).1 e' k (by rw[<-Aa HA];exact hlt))));have HN:=Ab (show Aw A k=Aw A' k->∀j,j<k+1->Aw A j=Aw A' j from fun e j h'=>by
       by_cases ej:j=k
       ·subst ej;exact e
       ·exact Aa Ha j (by omega))
      have Hlt:=Ab hlt;clear Ha hlt;generalize Aw A k=x at c1 Hno HN;generalize Aw A' k=y at c2 Hno HN;by_cases hxy:x=y
      ·have exy:(y.toList==x.toList)=jA:=(Un y x).2 hxy.symm;have nxy:(y.toList !=x.toList)=jC:=by rw[bne,exy];rfl
       have HN2:=Ab (Aa HN hxy);clear hxy Hno HN;go_wp2_with fail
       go_roundw
       case rel=>exact⟨k+1,Aa Hlt,by go_num,D1,HN2⟩
       case measure=>have:=Aa Hlt;simp[intOf];omega
      ·have exy:(y.toList==x.toList)=jC:=by rw[zv];exact fun h=>hxy ((Un y x).1 h).symm
       have HX:=Ab (Aa Hno hxy);clear hxy Hno HN;go_wp2_with fail
       go_ret
       exact⟨Ad ((Aa HQ).trans (Aa HX)).symm,B1⟩
     ·have e:k=n:=by omega
      subst e;have HX:=Ab (show decide (A=A')=jA from zL ((Aa HE).2 (fun j hj=>Aa Ha j (by have:=Aa HA;omega))));go_wp2_with fail
      go_ret
      exact⟨Ad ((Aa HQ).trans (Aa HX)).symm,B1⟩
   ·have el:((n:Int)!=(n':Int))=jA:=zc.2 (by omega);have HX:=Ab (show eqP num num' text text' A A'=jC from zJ (fun e=>hl (by rw[Aa HA,Aa HB,e.2.2])));clear hn ht hl;go_enter func81,ntmps81
    go_wp2_with fail
    go_ret
    exact⟨Ad (Aa HX).symm,B0⟩
  ·have et:(text.toList !=text'.toList)=jA:=by rw[bne,zv.2 (fun k=>ht ((Un _ _).1 k))];rfl
   have et2:(text.toList==text'.toList)=jC:=zv.2 (fun k=>ht ((Un _ _).1 k));have HX:=Ab (show eqP num num' text text' A A'=jC from zJ (fun e=>ht e.2.1));clear hn ht;go_enter func81,ntmps81
   go_wp2_with fail
   go_ret
   exact⟨Ad (Aa HX).symm,B0⟩
 ·have en:(num !=num')=jA:=zc.2 hn;have HX:=Ab (show eqP num num' text text' A A'=jC from zJ (fun e=>hn e.1));clear hn;go_enter func81,ntmps81
  go_wp2_with fail
  go_ret
  exact⟨Ad (Aa HX).symm,B0⟩
end
end Go.Proofs.YteiieikcjcfkkaaGreatDoor

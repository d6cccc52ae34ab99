import Derived.Test.YtppafecmccdplaaGreatMXAA
import Derived.BigQuiet
import Derived.Deep.RegionHeld3
open Option renaming none->T,some->Y
open Go renaming World->Z,Value->jB,TypeId->jI
open Bool renaming true->R,false->jA
open Go.Ending renaming returned->jF
open Go.Proofs.Tryz renaming prog->jL
namespace Go.Proofs.YtppafecmccdplaaGreat
open Go.RowKit
variable {ops:Array Oper}{a:Array jB}{s:ByteArray}{K:List (List Int)}{c f:List (Nat×Nat)}{ss:List ByteArray}{b n:Nat}{o:Oper}{P:Program}{E:Prop}{t:jI}{p:UInt8->Bool}{i j:jB}{w w':Z}
structure Ah (w:Z) (b:Nat) (cs:Array jB) (t:jI):Prop where
 out:w.heap[b]? =Y (.cells cs t (0,0))
theorem Ah.lt (h:Ah w b a t):b<w.heap.size:=(Array.getElem?_eq_some_iff.1 h.out).1
theorem Ah.below {B b:Nat}(h:Ah w b a t)(c:Below B w w')(d:b<B):Ah w' b a t:=⟨(c.block b d).trans h.out⟩
theorem Ah.after {B b:Nat}(h:Ah w b a t)(c:Below B w w')(d:w.heap.size<=B):Ah w' b a t:=h.below c (Nat.lt_of_lt_of_le h.lt d)
theorem Ah.alloc {w:Z}{b:Nat}{a:Array jB}{t:jI}(h:Ah w b a t)(o:Obj):Ah (w.alloc o) b a t:=⟨(Below.heap_alloc w o b h.lt).trans h.out⟩
theorem Ah.new (w:Z)(a:Array jB)(t:jI):Ah (w.alloc (.cells a t)) w.heap.size a t:=⟨heap_alloc_new w _⟩
theorem Ah.set (h:Ah w b a t)(j:Nat)(u:jB):Ah (w.setCell ⟨b,j,T⟩ u) b (a.setIfInBounds j u) t:=⟨heap_setCell_same w b j a t u h.out⟩
theorem Ah.setFar (h:Ah w b a t){p:Addr}(hp:b≠p.block)(u:jB):Ah (w.setCell p u) b a t:=⟨(heap_setCell_other w p b u hp).trans h.out⟩
theorem Ah.cell {w:Z}{b:Nat}{a:Array jB}{t:jI}(h:Ah w b a t)(j:Nat):w.cell? ⟨b,j,T⟩=a[j]? :=by
 have:=cell_of_row w b j a t (0,0) h.out;simpa using this
theorem Ah.frozen {w:Z}{b:Nat}{a:Array jB}{t:jI}(h:Ah w b a t)(j:Nat):w.frozen? ⟨b,j,T⟩=jA:=frozen_of_row w b j a t h.out
def Uq (W:Z) (b:Nat) (v0 v1 v2 v3:jB):Z:=(((W.setCell ⟨b,0,T⟩ v0).setCell ⟨b,1,T⟩ v1).setCell ⟨b,2,T⟩ v2).setCell ⟨b,3,T⟩ v3
theorem JK {g:Z}{k l:jB}(h:Ah g b #[i,j,k,l] t)(a c d f:jB):Ah (Uq g b a c d f) b #[a,c,d,f] t:=by
 have e:((((#[i,j,k,l].setIfInBounds 0 a).setIfInBounds 1 c).setIfInBounds 2 d).setIfInBounds 3 f)= #[a,c,d,f]:=rfl;have:=(((h.set 0 a).set 1 c).set 2 d).set 3 f;rw[e]at this;exact this
def Ck (ss:List ByteArray) (k:Nat):ByteArray:=ss.getD k ByteArray.empty
theorem BM (ss:List ByteArray)(k:Nat)(h:k<ss.length):Ck ss k=ss[k]:=by
 simp[Ck,List.getD,h]
structure AJ (w:Z) (a:Option Addr) (n c:Nat) (ss:List ByteArray):Prop where
 len:n=ss.length
 cap:n<=c
 small:c<=maxLen
 sizes:∀j,j<n->(Ck ss j).size<=maxLen
 cells:∀j,j<n->∃b off,a=Y ⟨b,off,T⟩/\b<w.heap.size/\w.cell? ⟨b,off+j,T⟩=Y (.string (Ck ss j))
theorem AJ.below {B:Nat}{a:Option Addr}{c:Nat}(h:AJ w a n c ss)(d:Below B w w')(i:w.heap.size<=B):AJ w' a n c ss:=
 ⟨h.len,h.cap,h.small,h.sizes,fun j k=>by
  obtain⟨b,f,l,g,hc⟩:=h.cells j k;exact⟨b,f,l,zR g d.size,by rw[<-hc];exact d.cell (p:=⟨b,f+j,T⟩) (zR g i)⟩⟩
theorem AJ.at {a:Option Addr}{n c:Nat}(h:AJ w a n c ss)(i: 0<n):
  ∃b d,a=Y ⟨b,d,T⟩/\b<w.heap.size/\∀j,j<n->w.cell? ⟨b,d+j,T⟩=Y (.string (Ck ss j)):=by
 obtain⟨b,d,g,k,_⟩:=h.cells 0 i;refine⟨b,d,g,k,fun j l=>?_⟩;obtain⟨o,p,f,_,m⟩:=h.cells j l;rw[g]at f;simp only[Option.some.injEq,Addr.mk.injEq,and_true]at f;obtain⟨rfl,rfl⟩:=f;exact m
def sl (a b:ByteArray):Bool:=Op.bytesLess a.toList b.toList
theorem MU:∀(x y:List UInt8),Op.bytesLess x y=decide (x<y)
 |[],[]=>by simp[Op.bytesLess]
 |_ ::_,[]=>by simp[Op.bytesLess]
 |[],_ ::_=>by simp[Op.bytesLess]
 |a ::x,b ::y=>by
  rw[Op.bytesLess,MU x y];simp only[List.cons_lt_cons_iff];by_cases h1:a<b<;>by_cases c:a=b<;>by_cases d:x<y<;>simp[h1,c,d]
theorem YO (a b:ByteArray):sl a b=R↔a.data.toList<b.data.toList:=by
 rw[sl,MU,zy,zy];simp
theorem MV {a b c:ByteArray}(h:sl a b=R)(k:sl b c=R):sl a c=R:=by
 rw[YO]at*;exact List.lt_trans h k
theorem FI (a:ByteArray):sl a a=jA:=by
 rw[Z0];intro h;rw[YO]at h;exact List.lt_irrefl _ h
theorem IN {a b:ByteArray}(h:a.data.toList=b.data.toList):a=b:=by
 cases a with|mk x=>cases b with|mk y=>cases x;cases y;simp at h;subst h;rfl
theorem AdW (a b:ByteArray)(h1:sl a b=jA)(c:sl b a=jA):a=b:=by
 apply IN;rw[Z0]at h1 c;rw[Ne,YO]at h1 c;exact List.le_antisymm (List.not_lt.1 c) (List.not_lt.1 h1)
theorem Xi {a b:ByteArray}(h:sl a b=R):sl b a=jA:=by
 rw[Z0];intro k;have:=MV h k;rw[FI]at this;cases this
def Fo (ss:List ByteArray):Bool:=decide (ss.Pairwise fun a b=>sl a b=R)
def JF (ss:List ByteArray):Bool:=ss.all vnB
def AR (ss:List ByteArray):Bool:=decide (ss.length<=64)&&(JF ss&&Fo ss)
theorem Qp (ss:List ByteArray):JF ss=R↔∀j,j<ss.length->vnB (Ck ss j)=R:=by
 rw[JF,zt];constructor
 ·intro h j a;rw[BM ss j a];exact h _ (zH a)
 ·intro h x hx;obtain⟨j,a,rfl⟩:=z9 hx;rw[<-BM ss j a];exact h j a
theorem Aae (ss:List ByteArray)(h:∀j,j<ss.length->vnB (Ck ss j)=R):JF ss=R:=(Qp ss).2 h
theorem Xj (ss:List ByteArray)(j:Nat)(a:j<ss.length)(h:vnB (Ck ss j)=jA):JF ss=jA:=by
 rw[Z0];intro k;rw[(Qp ss).1 k j a]at h;cases h
theorem Sb (ss:List ByteArray):Fo ss=R↔∀i j,i<j->j<ss.length->sl (Ck ss i) (Ck ss j)=R:=by
 rw[Fo,zG,List.pairwise_iff_getElem];constructor
 ·intro h i j b a;rw[BM ss i (by omega),BM ss j a];exact h i j (by omega) a b
 ·intro h i j hi a b;rw[<-BM ss i hi,<-BM ss j a];exact h i j b a
theorem Xk (ss:List ByteArray)(i j:Nat)(a:i<j)(b:j<ss.length)(h:sl (Ck ss i) (Ck ss j)=jA):Fo ss=jA:=by
 rw[Z0];intro k;rw[(Sb ss).1 k i j a b]at h;cases h
theorem AdX (ss:List ByteArray)(n:Nat)(h:∀i,0<i->i<n->sl (Ck ss (i-1)) (Ck ss i)=R):∀d i,i+d+1<n->sl (Ck ss i) (Ck ss (i+d+1))=R:=by
 intro d
 induction d with
 |zero=>intro i hi;have:=h (i+1) (by omega) hi;simpa using this
 |succ d b=>
  intro i hi;have h1:=b i (by omega);have a:=h (i+(d+1)+1) (by omega) hi;rw[show i+(d+1)+1-1=i+d+1 from by omega]at a;exact MV h1 a
theorem UV (ss:List ByteArray)(h:∀i,0<i->i<ss.length->sl (Ck ss (i-1)) (Ck ss i)=R):Fo ss=R:=by
 rw[Sb];intro i j a b;have:=AdX ss ss.length h (j-i-1) i (by omega);rw[show i+(j-i-1)+1=j from by omega]at this;exact this
theorem Nv (ss:List ByteArray)(h: 64<ss.length):AR ss=jA:=by
 have: ¬ ss.length<=64:=by omega
 simp[AR,this]
theorem Lz (ss:List ByteArray)(h:ss.length<=64):AR ss=(JF ss&&Fo ss):=by
 simp[AR,h]
theorem UG {k:IntKind}{a b:Int}(h:a=b):jF (.int k a)=jF (.int k b):=by rw[h]
theorem AJ.of_owns {base e:Nat}{a:Option Addr}{n c:Nat}(h:w.ownsRow base e 1 (.slice a n c) n (ss.map Value.string))(hs:∀j,j<n->(Ck ss j).size<=maxLen):
  AJ w a n c ss:=by
 have b:ss.length=n:=by simpa using h.1
 have h':=h;rcases h.2 with⟨hv,h0⟩|⟨g,cap,k,hv,l,hg,f,i,m,o⟩
 ·simp only[Value.slice.injEq]at hv;obtain⟨rfl,rfl,rfl⟩:=hv;exact⟨b.symm,NLN,zE _,hs,fun j d=>by omega⟩
 ·simp only[Value.slice.injEq,true_and]at hv;obtain⟨rfl,rfl⟩:=hv;refine⟨b.symm,f,i,hs,fun j d=>⟨g,0,rfl,?_,?_⟩⟩
  ·exact(Array.getElem?_eq_some_iff.1 hg).1
  ·have:=h'.cellAt j (by omega);rw[zP,this,BM ss j (by omega)];simp[b,d]
theorem JH:(jL.info? 9).map (fun i=>(i.zero,i.size,i.bytes))=Y (Y (.string ByteArray.empty),1,16):=by kernel_rfl
set_option linter.unusedVariables false
def Cq:List (Nat×Nat)->Nat
 |[]=>0
 |p ::ps=>max p.2 (Cq ps)
theorem AgW {a:List (Nat×Nat)}{p:Nat×Nat}(h:p∈a):p.2<=Cq a:=by
 induction a with
 |nil=>cases h
 |cons q c b=>
  rw[Cq];rcases zT.1 h with e|e
  ·subst e;omega
  ·have:=b e;omega
def As (ks:List (Nat×Nat)):List Int:=ks.map fun p=>(p.1:Int)
inductive Ay (K:List (List Int)):Nat->List (Nat×Nat)->Nat->Prop
 |nil (a:Nat):Ay K a [] a
 |cons {a t b:Nat} {ks fs:List (Nat×Nat)} (hk:Ay K a ks t) (ht:K[t]? =Y (As ks)) (hf:Ay K (t+1) fs b):Ay K a ((t,Cq ks+1) ::fs) b
theorem Ay.le {a b:Nat}(h:Ay K a c b):a<=b:=by
 induction h with
 |nil a=>exact NLN
 |cons hk d f g i=>omega
theorem Ay.lt {a b:Nat}(h:Ay K a c b):∀p∈c,a<=p.1/\p.1<b:=by
 induction h with
 |nil a=>intro p hp;cases hp
 |cons hk g d i f=>
  intro p hp;have h1:=hk.le;have j:=d.le;rcases zT.1 hp with e|e
  ·subst e;exact⟨h1,by show _<_;omega⟩
  ·have:=f p e;omega
theorem Ay.join {a b c:Nat}{d:List (Nat×Nat)}(h:Ay K a d b)(k:Ay K b f c):Ay K a (d++f) c:=by
 induction h with
 |nil a=>exact k
 |cons hk g j l i=>exact .cons hk g (i k)
theorem Ay.split {K:List (List Int)} :∀{f d:List (Nat×Nat)} {a c:Nat},Ay K a (f++d) c->∃b,Ay K a f b/\Ay K b d c
 |[],d,a,c,h=>⟨a,.nil a,h⟩
 |p ::f,d,a,c,h=>by
  cases h with
  |cons hk g i=>
   obtain⟨b,h1,j⟩:=Ay.split i;exact⟨b,.cons hk g h1,j⟩
def Sh (S:List (Nat×Nat)) (i:Nat) (ks:List Int):Option (List (Nat×Nat)):=
 if S.length<ks.length then T
 else if As (S.drop (S.length-ks.length))≠ks then T
 else if Cq (S.drop (S.length-ks.length))=64 then T
 else Y (S.take (S.length-ks.length)++[(i,Cq (S.drop (S.length-ks.length))+1)])
def EK (K:List (List Int)):Nat->List (Nat×Nat)->Nat->Option (List (Nat×Nat))
 |0,S,_=>Y S
 |n+1,S,i=>match K[i]? with
  |none=>T
  |some ks=>match Sh S i ks with
   |none=>T
   |some S'=>EK K n S' (i+1)
theorem Si (K:List (List Int)):∀(m n:Nat) (S:List (Nat×Nat)) (i:Nat),EK K (m+n) S i=(EK K m S i).bind fun a=>EK K n a (i+m)
 |0,n,S,i=>by simp[EK]
 |m+1,n,S,i=>by
  rw[show m+1+n=(m+n)+1 by omega,EK,EK];cases K[i]? with
  |none=>rfl
  |some b=>
   dsimp only;cases Sh S i b with
   |none=>rfl
   |some a=>
    dsimp only;rw[Si K m n a (i+1),show i+1+m=i+(m+1) by omega]
theorem Uc (a:List (Nat×Nat)):(As a).length=a.length:=by simp[As]
theorem Abs (S a:List (Nat×Nat))(i:Nat)(h:Cq a+1<=64):Sh (S++a) i (As a)=Y (S++[(i,Cq a+1)]):=by
 have e:(S++a).length-(As a).length=S.length:=by rw[Uc,zB];omega
 rw[Sh,if_neg (by rw[Uc,zB];omega),e,List.drop_left,if_neg (by simp),if_neg (by omega),List.take_left]
theorem Ad1 {S b:List (Nat×Nat)}{i:Nat}{a:List Int}(h:Sh S i a=Y b):∃A B,S=A++B/\As B=a/\Cq B≠64/\b=A++[(i,Cq B+1)]:=by
 rw[Sh]at h;split at h
 ·cases h
 ·split at h
  ·cases h
  ·split at h
   ·cases h
   ·rename_i h1 c d;rw[ne_eq,Decidable.not_not]at c;exact⟨_,_,(Z9 (S.length-a.length) S).symm,c,d,(Option.some.inj h).symm⟩
theorem Pl {a b:Nat}(h:Ay K a c b):∀(S:List (Nat×Nat)),(∀p∈c,p.2<=64)->EK K (b-a) S a=Y (S++c):=by
 induction h with
 |nil a=>intro S _;simp[EK]
 |@cons a t b d c hk f g i j=>
  intro S hd;have h1:=hk.le;have l:=g.le;have k:Cq d+1<=64:=hd _ (zS ..);rw[show b-a=(t-a)+(1+(b-(t+1))) by omega,Si,i S (fun p hp=>by have:=AgW hp;omega),Z7,show a+(t-a)=t by omega,Si];have e1:EK K 1 (S++d) t=Y (S++[(t,Cq d+1)]):=by
   rw[EK,f];dsimp only;rw[Abs S d t k];rfl
  rw[e1,Z7,j _ (fun p hp=>hd p (za _ hp)),zJ];rfl
theorem Dd {K:List (List Int)} :∀(n:Nat) {S a:List (Nat×Nat)} {i:Nat},Ay K 0 S i->(∀p∈S,p.2<=64)->EK K n S i=Y a->Ay K 0 a (i+n)/\∀p∈a,p.2<=64
 |0,S,a,i,h,hd,hr=>by
  rw[EK]at hr;obtain rfl:=Option.some.inj hr;exact⟨h,hd⟩
 |n+1,S,a,i,h,hd,hr=>by
  rw[EK]at hr;cases b:K[i]? with
  |none=>rw[b]at hr;cases hr
  |some d=>
   rw[b]at hr;dsimp only at hr;cases hs:Sh S i d with
   |none=>rw[hs]at hr;cases hr
   |some o=>
    rw[hs]at hr;dsimp only at hr;obtain⟨A,B,rfl,f,r,rfl⟩:=Ad1 hs;obtain⟨m,f1,f2⟩:=h.split;have g:Ay K 0 (A++[(i,Cq B+1)]) (i+1):=f1.join (.cons f2 (by rw[b,f]) (.nil _));have s:Cq B<=64:=by
     have:∀(L:List (Nat×Nat)),(∀p∈L,p.2<=64)->Cq L<=64:=by
      intro L
      induction L with
      |nil=>intro _;simp[Cq]
      |cons q t j=>
       intro c;have h1:=c q (zS ..);have u:=j (fun p hp=>c p (za _ hp));rw[Cq];omega
     exact this B (fun p hp=>hd p (List.mem_append_right _ hp))
    have l:∀p∈A++[(i,Cq B+1)],p.2<=64:=fun p hp=>by
     rcases zM.1 hp with k|k
     ·exact hd p (Z8 _ k)
     ·rw[zO.1 k];show Cq B+1<=64;omega
    have:=Dd n g l hr;rw[show i+(n+1)=i+1+n by omega];exact this
def ltI (c:Int):Bool:=decide (97<=c/\c<=122)
def ltB (c:UInt8):Bool:=ltI (c.toNat:Int)
def wdI (c:Int):Bool:=ltI c||dgI c||decide (c=95)
def Vb (c:UInt8):Bool:=wdI (c.toNat:Int)
def nmB (c:UInt8):Bool:=nmI (c.toNat:Int)
def Of (p:UInt8->Bool) (s:ByteArray) (j:Nat):Nat:=j+(((LY s).drop j).takeWhile p).length
theorem Og (s:ByteArray)(j:Nat)(h:j<s.size):(LY s).drop j=s[j] ::(LY s).drop (j+1):=by
 have h':j<(LY s).length:=by rw[MX];exact h
 rw[Z4 h'];rfl
theorem Abh {j:Nat}(h:j<s.size)(hp:p s[j]=R):Of p s j=Of p s (j+1):=by
 rw[Of,Of,Og s j h,List.takeWhile_cons,if_pos hp];simp;omega
theorem Abi {j:Nat}(h:j<s.size)(hp:p s[j]=jA):Of p s j=j:=by
 rw[Of,Og s j h,List.takeWhile_cons,if_neg (by simp[hp])];rfl
theorem AdY {j:Nat}(h:s.size<=j):Of p s j=j:=by
 rw[Of,yG (by rw[MX];exact h)];rfl
def PA (p:UInt8->Bool) (r:List UInt8):Nat:=(r.takeWhile p).length
theorem Abj (p:UInt8->Bool)(s:ByteArray)(j:Nat):Of p s j=j+PA p ((LY s).drop j):=rfl
theorem Abk (p:UInt8->Bool)(s:ByteArray):Of p s 0=PA p (LY s):=by simp[Abj]
def Oh:List (List UInt8):= [[108,101,116],[119,104,101,110],[101,108,115,101],[100,101,110,121],[103,114,97,110,116],[105,102],[116,104,101,110],[110,111,116],[97,110,100],[111,114],[105,110],[119,105,116,104,105,110],[115,105,122,101],[116,114,117,101],[102,97,108,115,101]]
def Abl (l:List UInt8):Bool:=Oh.contains l
inductive One where
 |bad (code:Int)
 |tok (kind num:Int) (text:List UInt8) (w:Nat)
theorem AdZ (p:UInt8->Bool)(r:List UInt8):(r.take (PA p r)).all p=R:=by
 have:r.take (PA p r)=r.takeWhile p:=by
  obtain⟨t,a⟩:=List.takeWhile_prefix p (l:=r);rw[PA];have e:(r.takeWhile p++t).take (r.takeWhile p).length=r.takeWhile p:=by simp
  rw[a]at e;exact e
 rw[this,List.all_takeWhile]
theorem EI {a:Act}{K:Act->Z->Prop}{Q:Exit->Act->Z->Prop}(g:o.guard=T)(f:FuncId)(b:Func)(i:P.funcs[f]? =Y b)(j:(b.name== "runtime.NumGoroutine")=jA)(d:b.body.isNone=jA)(x:Operand)(k:Array jI)
  (l:o.op= .call { callee:= .value (.func f),args:=#[x],argTypes:=k })(c:jB)(hx:a.eval x=c)
  (R:jB->Z->Prop)(hc:Calls P f #[c] w fun e w'=>∃v,e=jF v/\R v w')(h:∀v w',R v w'->K (a.put o.dst v) w'):
  if Region.wanted o (yielded ops a.tmps)=true then Oper.wp P o a w K Q else E:=by
 have m:Region.wanted o (yielded ops a.tmps)=true:=by simp[Region.wanted,g]
 rw[if_pos m];unfold Oper.wp;have n:(execOp a.eval o).run P w= .ok (.enter f #[c]) w:=by
  subst hx;have h1:b.name≠ "runtime.NumGoroutine" :=by simpa using j
  have p:(callFunc f #[a.eval x]).run P w= .ok (.enter f #[a.eval x]) w:=by
   have q:b.body≠T:=fun e=>by rw[e]at d;cases d
   simp[callFunc,i,h1,q]
  simpa[execOp,l,resolve,invoke,Act.eval,Result.andThen,go_sem]using p
 rw[n,Oper.upon_enter];refine hc.mono ?_;rintro e w' ⟨v,rfl,r⟩;exact h v w' r
theorem Fd {f:FuncId}{args:Array jB}{A:Ending->Z->Prop}(h:Calls P f args w A)(b:∀e w',A e w'->∃v,e=jF v):Calls P f args w fun e w'=>∃v,e=jF v/\A (jF v) w':=
 h.mono fun e w' a=>by
  obtain⟨v,rfl⟩:=b e w' a;exact⟨v,rfl,a⟩
theorem AS {v u:jB}(h:jF v=jF u):v=u:=by cases h;rfl
theorem Bf {a:Act}{K:Act->Z->Prop}{Q:Exit->Act->Z->Prop}(i:o.guard=T)(f:FuncId)(b:Func)(j:P.funcs[f]? =Y b)(k:(b.name== "runtime.NumGoroutine")=jA)(g:b.body.isNone=jA)(x y:Operand)(l:Array jI)
  (m:o.op= .call { callee:= .value (.func f),args:=#[x,y],argTypes:=l })(c d:jB)(hx:a.eval x=c)(hy:a.eval y=d)
  (R:jB->Z->Prop)(hc:Calls P f #[c,d] w fun e w'=>∃v,e=jF v/\R v w')(h:∀v w',R v w'->K (a.put o.dst v) w'):
  if Region.wanted o (yielded ops a.tmps)=true then Oper.wp P o a w K Q else E:=by
 have n:Region.wanted o (yielded ops a.tmps)=true:=by simp[Region.wanted,i]
 rw[if_pos n];unfold Oper.wp;have p:(execOp a.eval o).run P w= .ok (.enter f #[c,d]) w:=by
  subst hx hy;have h1:b.name≠ "runtime.NumGoroutine" :=by simpa using k
  have q:(callFunc f #[a.eval x,a.eval y]).run P w= .ok (.enter f #[a.eval x,a.eval y]) w:=by
   have r:b.body≠T:=fun e=>by rw[e]at g;cases g
   simp[callFunc,j,h1,r]
  simpa[execOp,m,resolve,invoke,Act.eval,Result.andThen,go_sem]using q
 rw[p,Oper.upon_enter];refine hc.mono ?_;rintro e w' ⟨v,rfl,s⟩;exact h v w' s
end Go.Proofs.YtppafecmccdplaaGreat

import Derived.Test.YteiieikcjcfkkaaGreatDoorMXAQ
import Derived.Test.YteiieikcjcfkkaaGreatDoorMXAT
import Derived.Test.YteiieikcjcfkkaaGreatDoorMXAU
open Go.Proofs.Tryz
open Option renaming none->T,some->X
open Go.Value renaming int->U,slice->Y,string->Q,ownBlock->ja
open Go.IntKind renaming i64->V
open Go renaming World->Z,Value->R,Addr->jD,Calls->jE,heap_setCell_other->jc
open Go.World renaming ownsRow_nil->jX,cell?_of_block->j0
open Go.Proofs.Tryz renaming prog->j4
namespace Go.Proofs.YteiieikcjcfkkaaGreatDoor
set_option maxRecDepth 100000
set_option maxHeartbeats 3200000
open Go.RowKit
set_option linter.unusedVariables false
variable {text:ByteArray}{b:Ex}{op num:Int}{k:K5}{i:List (Sx×Int)}{ss:List ByteArray}{bs:List Ex}{a:List K5}{B hi cap lo:Nat}{o:Obj}{ka:Option jD}{lv h:R}{w0 w c:Z}
def Cw (w W:Z):Prop:=∀b cs,Ag w b cs 9->Ag W b cs 9
theorem Cw.set {w:Z}{F:Nat}{c:Array Value}{t:TypeId}(R:Ag w F c t)(d:t≠9)(j:Nat)(u:Value):Cw w (w.setCell ⟨F,j,T⟩ u):=fun b cs a=>a.setFar (fun e=>d (by
 have f:b=F:=e;subst f;have e:=R.out.symm.trans a.out;simp only[Option.some.injEq,Obj.cells.injEq]at e;exact e.2.1)) u
def Tl (P:Nat->Prop) (w:Z):Ex->K5->Prop
 |.un _ op c,k=>k.op=op/\k.num=0/\k.text=⟨#[]⟩/\k.nn=0/\k.kn=1/\(∀b o,k.ka=X ⟨b,o,T⟩->P b)/\∃k1,BT w k.ka [k1]/\Tl P w c k1
 |.bin _ op l r,k=>k.op=op/\k.num=0/\k.text=⟨#[]⟩/\k.nn=0/\k.kn=2/\(∀b o,k.ka=X ⟨b,o,T⟩->P b)/\∃k1 k2,BT w k.ka [k1,k2]/\Tl P w l k1/\Tl P w r k2
 |.ite _ c t e,k=>k.op=27/\k.num=0/\k.text=⟨#[]⟩/\k.nn=0/\k.kn=3/\(∀b o,k.ka=X ⟨b,o,T⟩->P b)/\∃k1 k2 k3,BT w k.ka [k1,k2,k3]/\Tl P w c k1/\Tl P w t k2/\Tl P w e k3
 |e,k=>Tq w e k
theorem Tl.tq {P:Nat->Prop}{w:Z} :∀{e:Ex} {k:K5},Tl P w e k->Tq w e k
 |.un ..,k,⟨h1,h2,h3,h4,h5,_,k1,h6,h7⟩=>⟨h1,h2,h3,h4,h5,k1,h6,h7.tq⟩
 |.bin ..,k,⟨h1,h2,h3,h4,h5,_,k1,k2,h6,h7,h8⟩=>⟨h1,h2,h3,h4,h5,k1,k2,h6,h7.tq,h8.tq⟩
 |.ite ..,k,⟨h1,h2,h3,h4,h5,_,k1,k2,k3,h6,h7,h8,h9⟩=>⟨h1,h2,h3,h4,h5,k1,k2,k3,h6,h7.tq,h8.tq,h9.tq⟩
 |.int ..,k,h=>h
 |.text ..,k,h=>h
 |.bool ..,k,h=>h
 |.set ..,k,h=>h
 |.name ..,k,h=>h
 |.attr ..,k,h=>h
 |.lett ..,k,h=>h
theorem Tl.mono {P c:Nat->Prop}{w:Z}(a:∀b,P b->c b):∀{e:Ex} {k:K5},Tl P w e k->Tl c w e k
 |.un ..,k,⟨h1,h2,h3,h4,h5,h0,k1,h6,h7⟩=>⟨h1,h2,h3,h4,h5,fun b o e=>a b (h0 b o e),k1,h6,h7.mono a⟩
 |.bin ..,k,⟨h1,h2,h3,h4,h5,h0,k1,k2,h6,h7,h8⟩=>⟨h1,h2,h3,h4,h5,fun b o e=>a b (h0 b o e),k1,k2,h6,h7.mono a,h8.mono a⟩
 |.ite ..,k,⟨h1,h2,h3,h4,h5,h0,k1,k2,k3,h6,h7,h8,h9⟩=>⟨h1,h2,h3,h4,h5,fun b o e=>a b (h0 b o e),k1,k2,k3,h6,h7.mono a,h8.mono a,h9.mono a⟩
 |.int ..,k,h=>h
 |.text ..,k,h=>h
 |.bool ..,k,h=>h
 |.set ..,k,h=>h
 |.name ..,k,h=>h
 |.attr ..,k,h=>h
 |.lett ..,k,h=>h
theorem Ns {w d:Z}(k:w.heap.size<=d.heap.size)(hS:Cw w d){a:Option jD}{n c:Nat}(h:Ap w a n c ss)(z:ZS w a c):Ap d a n c ss/\ZS d a c:=
 ⟨⟨h.len,h.cap,h.small,h.sizes,fun j l=>by
  obtain⟨b,g,i,m,hc⟩:=h.cells j l;obtain⟨cs,f⟩:=z.2 _ i;exact⟨b,g,i,zE m k,(j0 (w:=w) (a:=⟨b,g+j,T⟩) ((hS _ _ f).out.trans f.out.symm)).trans hc⟩⟩,z.1,fun o e=>by
  obtain⟨cs,f⟩:=z.2 o e;exact⟨cs,hS _ _ f⟩⟩
theorem g5 {w a:Z}(f:w.heap.size<=a.heap.size){c:List K5}(h:BT w ka c)(g:∀b o,ka=X ⟨b,o,T⟩->b<w.heap.size->a.heap[b]? =w.heap[b]?):BT a ka c:=fun j i=>by
 obtain⟨b,d,e,h2,h3⟩:=h j i;exact⟨b,d,e,zE h2 f,fun k l=>(j0 (w:=w) (g b d e h2)).trans (h3 k l)⟩
theorem IK {w a:Z}(b:w.heap.size<=a.heap.size)(hS:Cw w a)(h:k.op=op/\k.num=num/\k.text=text/\k.kn=0/\Ap w k.an k.nn k.cn ss/\ss.length<=1048576/\ZS w k.an k.cn):k.op=op/\k.num=num/\k.text=text/\k.kn=0/\Ap a k.an k.nn k.cn ss/\ss.length<=1048576/\ZS a k.an k.cn:=
 ⟨h.1,h.2.1,h.2.2.1,h.2.2.2.1,(Ns b hS h.2.2.2.2.1 h.2.2.2.2.2.2).1,h.2.2.2.2.2.1,(Ns b hS h.2.2.2.2.1 h.2.2.2.2.2.2).2⟩
theorem Tl.keep {P:Nat->Prop}{w d:Z}(a:w.heap.size<=d.heap.size)(c:∀b,P b->b<w.heap.size->d.heap[b]? =w.heap[b]?)(hS:Cw w d):∀{e:Ex} {k:K5},Tl P w e k->Tl P d e k
 |.un ..,k,⟨h1,h2,h3,h4,h5,h0,k1,h6,h7⟩=>⟨h1,h2,h3,h4,h5,h0,k1,g5 a h6 (fun b o e=>c b (h0 b o e)),h7.keep a c hS⟩
 |.bin ..,k,⟨h1,h2,h3,h4,h5,h0,k1,k2,h6,h7,h8⟩=>⟨h1,h2,h3,h4,h5,h0,k1,k2,g5 a h6 (fun b o e=>c b (h0 b o e)),h7.keep a c hS,h8.keep a c hS⟩
 |.ite ..,k,⟨h1,h2,h3,h4,h5,h0,k1,k2,k3,h6,h7,h8,h9⟩=>⟨h1,h2,h3,h4,h5,h0,k1,k2,k3,g5 a h6 (fun b o e=>c b (h0 b o e)),h7.keep a c hS,h8.keep a c hS,h9.keep a c hS⟩
 |.int ..,k,h=>IK a hS h
 |.text ..,k,h=>IK a hS h
 |.bool ..,k,h=>IK a hS h
 |.set ..,k,h=>IK a hS h
 |.name ..,k,h=>IK a hS h
 |.attr ..,k,h=>IK a hS h
 |.lett ..,k,h=>IK a hS h
def Cf (w0:Z) (lo hi:Nat) (w W:Z):Prop:=w.heap.size<=W.heap.size/\(∀b,b<w0.heap.size\/(lo<=b/\b<hi)->b<w.heap.size->W.heap[b]? =w.heap[b]?)/\Cw w W
theorem Cf.of_below {lo:Nat}{a:Z}(h:Below w.heap.size w a):Cf w0 lo hi w a:=⟨h.size,fun b _ c=>h.block b c,fun b cs d=>d.after h NLN⟩
def Ph (w0:Z) (lo hi:Nat) (w:Z) (k:K5) (e:Ex):Prop:=Tl (fun b=>b<w0.heap.size\/(lo<=b/\b<hi)) w e k
theorem Ph.keep {w0:Z}{lo hi:Nat}{w w':Z}{k:K5}{e:Ex}(h:Ph w0 lo hi w k e)(a:Cf w0 lo hi w w'):Ph w0 lo hi w' k e:=Tl.keep a.1 a.2.1 a.2.2 h
theorem Gx {lo:Nat}{e:Ex}(a:e.kids=[])(h:Tq w e k):Ph w0 lo hi w k e:=by
 cases e<;>first|exact h|cases a
def SQ (w:Z) (a:Option jD) (n c:Nat) (ss:List ByteArray):Prop:=Ap w a n c ss/\ss.length<=1048576/\ZS w a c
def NmQ (w:Z) (a:Option jD) (N:List Nd):Prop:=∀j,(h:j<N.length)->∀b off,a=X ⟨b,off,T⟩->∀an nn cn,w.cell? ⟨b,off+j*5+3,T⟩=X (Y an nn cn)->N[j].names.length<=1048576/\ZS w an cn
inductive QH (op num:Int) (text:ByteArray) (ss:List ByteArray):List Ex->Ex->Prop
 |leaf (e:Ex) (hk:e.kids=[]) (h:CV e=⟨op,num,text,ss,[]⟩):QH op num text ss [] e
 |un (i:Int) (e0:Ex) (h:num=0/\text=⟨#[]⟩/\ss=[]):QH op num text ss [e0] (.un i op e0)
 |bin (i:Int) (e0 e1:Ex) (h:num=0/\text=⟨#[]⟩/\ss=[]):QH op num text ss [e0,e1] (.bin i op e0 e1)
 |ite (i:Int) (e0 e1 e2:Ex) (ho:op=27) (h:num=0/\text=⟨#[]⟩/\ss=[]):QH op num text ss [e0,e1,e2] (.ite i e0 e1 e2)
theorem AgN {a:Z}{e:Ex}{an:Option jD}{nn cn:Nat}{ka:Option jD}{kc:Nat}(b:e.kids=[])(h:CV e=⟨op,num,text,ss,[]⟩)(hS:SQ a an nn cn ss):Tq a e ⟨op,num,text,an,nn,cn,ka,0,kc⟩:=by
 have c:op=(CV e).op/\num=(CV e).num/\text=(CV e).text/\(0 :Nat)=0/\Ap a an nn cn (CV e).names/\(CV e).names.length<=1048576/\ZS a an cn:=by
  rw[h];exact⟨rfl,rfl,rfl,rfl,hS.1,hS.2.1,hS.2.2⟩
 cases e<;>first|exact c|cases b
structure Tt (w0:Z) (B:Nat) (kv:R) (vs:List K5) (bs:List Ex) (w:Z):Prop where
 own:w.ownsRow B 48 5 kv vs.length (vs.flatMap K5.cs)
 len:bs.length=vs.length
 each:∀j,(h1:j<vs.length)->(h2:j<bs.length)->∃lo hi,B<=lo/\hi<=w.heap.size/\(∀q,kv.ownBlock=X q->q<lo\/hi<=q)/\Ph w0 lo hi w vs[j] bs[j]
theorem Tt.below {b:R}{c:List K5}{w':Z}(h:Tt w0 B b c bs w)(a:Below w.heap.size w w'):Tt w0 B b c bs w':=
 ⟨An h.own a NLN,h.len,fun j h1 h2=>by
  obtain⟨lo,hi,a1,a2,a3,a4⟩:=h.each j h1 h2;exact⟨lo,hi,a1,zB a2 a.size,a3,a4.keep (Cf.of_below a)⟩⟩
theorem Tt.set {a:R}{b:List K5}(h:Tt w0 B a b bs w)(p:jD)(u:R)(hp:p.block<B)(h0:w0.heap.size<=p.block)(hS:Cw w (w.setCell p u)):Tt w0 B a b bs (w.setCell p u):=
 ⟨AW h.own p u (fun q hq=>by have:=(h.own.lt q hq).1;omega),h.len,fun j h1 h2=>by
  obtain⟨lo,hi,a1,a2,a3,a4⟩:=h.each j h1 h2;exact⟨lo,hi,a1,by simpa using a2,a3,a4.keep ⟨by simp,fun q h3 h4=>jc w p q u (by omega),hS⟩⟩⟩
theorem Tt.snoc {d:R}{g:Nat}(h:Tt w0 B d a bs w)(z:w0.heap.size<=B)(u:B<=lo)(p:∀q,d.ownBlock=X q->q<lo)(hs:Ph w0 lo w.heap.size w k b)
  (v:c.ownsRow B 48 5 (Y (X ⟨g,0,T⟩) (a.length+1) cap) (a.length+1) (a.flatMap K5.cs++k.cs))(m:(w.alloc o).grownBy c d.ownBlock)(hat:d.ownBlock=X g\/g=w.heap.size+1):
  Tt w0 B (Y (X ⟨g,0,T⟩) (a.length+1) cap) (a++[k]) (bs++[b]) c:=by
 have x:(w.alloc o).heap.size=w.heap.size+1:=by simp
 have n:w.heap.size<=c.heap.size:=by have:=m.size;omega
 have r:∀q,q<w.heap.size->d.ownBlock≠X q->c.heap[q]? =w.heap[q]? :=fun q h1 h2=>(m.block q (by rw[x];omega) (fun e=>h2 e.symm)).trans (Below.heap_alloc w o q h1);have s:Cw w c:=fun b cs t=>(t.alloc o).grown m (fun e=>Ac t h.own (by decide) e.symm);refine⟨?_,by simp[h.len],fun j h1 h2=>?_⟩
 ·rw[yE,zC];simpa using v
 ·by_cases f:j<a.length
  ·obtain⟨l,i,a1,a2,a3,a4⟩:=h.each j f (by rw[h.len];exact f);rw[zo f,zo (by rw[h.len];exact f)];refine⟨l,i,a1,by omega,fun q hq=>?_,a4.keep ⟨n,fun q h3 h4=>r q h4 (fun e=>by have:=(h.own.lt q e).1;rcases a3 q e with h5|h5<;>omega),s⟩⟩;have e:g=q:=by simpa[ja]using hq
   subst e;rcases hat with e|e
   ·exact a3 g e
   ·right;omega
  ·have y:j=a.length:=by simp at h1;omega
   subst y;have e1:(a++[k])[a.length]=k:=by simp
   have e2:(bs++[b])[a.length]=b:=by simp[<-h.len]
   rw[e1,e2];refine⟨lo,w.heap.size,u,n,fun q hq=>?_,hs.keep ⟨n,fun q h3 h4=>r q h4 (fun e=>by have:=(h.own.lt q e).1;have:=p q e;omega),s⟩⟩;have e:g=q:=by simpa[ja]using hq
   subst e;rcases hat with e|e
   ·exact .inl (p g e)
   ·right;omega
theorem Tt.all {lo:Nat}{m kc:Nat}{f:List K5}(h:Tt w0 B (Y ka m kc) f bs w)(g:f.length=m)(s:lo<=B)(op num:Int)(text:ByteArray)(an:Option jD)(nn cn:Nat)(ss:List ByteArray)(hS:SQ w an nn cn ss)(e:Ex)(q:QH op num text ss bs e):Ph w0 lo w.heap.size w ⟨op,num,text,an,nn,cn,ka,m,kc⟩ e:=by
 have d:=Et (by have:=h.own;rw[g]at this;exact this) g;have k:bs.length=m:=by rw[h.len,g]
 have n:∀b o,ka=X ⟨b,o,T⟩->(b<w0.heap.size\/(lo<=b/\b<w.heap.size)):=fun b o e=>by
  have e2:o=0:=by
   rcases h.own.2 with⟨hv,_⟩|⟨t,cap,u,hv,_⟩
   ·rw[e]at hv;cases hv
   ·rw[e]at hv;simp only[Value.slice.injEq,Option.some.injEq,Addr.mk.injEq]at hv;exact hv.1.2.1
  subst e2;subst e;have:=h.own.lt b rfl;exact .inr ⟨by omega,this.2⟩
 have a:∀j,(h1:j<f.length)->(h2:j<bs.length)->Ph w0 lo w.heap.size w f[j] bs[j]:=fun j h1 h2=>by
  obtain⟨l,i,a1,a2,a3,a4⟩:=h.each j h1 h2;exact a4.mono (fun b v=>by omega)
 cases q with
 |leaf e p hx=>
  have:m=0:=by rw[<-k];rfl
  subst this;exact Gx p (AgN p hx hS)
 |un i e0 c=>
  have:m=1:=by rw[<-k];rfl
  subst this
  match f,g,a,d with
  |[k0],_,a,d=>exact⟨rfl,c.1,c.2.1,by have:=hS.1.len;rw[c.2.2]at this;exact this,rfl,n,k0,d,a 0 (by simp) (by simp)⟩
 |bin i e0 e1 c=>
  have:m=2:=by rw[<-k];rfl
  subst this
  match f,g,a,d with
  |[k0,k1],_,a,d=>exact⟨rfl,c.1,c.2.1,by have:=hS.1.len;rw[c.2.2]at this;exact this,rfl,n,k0,k1,d,a 0 (by simp) (by simp),a 1 (by simp) (by simp)⟩
 |ite i e0 e1 e2 r c=>
  have:m=3:=by rw[<-k];rfl
  subst this
  match f,g,a,d with
  |[k0,k1,k2],_,a,d=>exact⟨r,c.1,c.2.1,by have:=hS.1.len;rw[c.2.2]at this;exact this,rfl,n,k0,k1,k2,d,a 0 (by simp) (by simp),a 1 (by simp) (by simp),a 2 (by simp) (by simp)⟩
def Yp (w0:Z) (b:Ex) (w:Z) (r:Ending) (w':Z):Prop:=∃k:K5,r= .returned (.agg #[U V k.op,U V k.num,Q k.text,Y k.an k.nn k.cn,Y k.ka k.kn k.kc])/\Ph w0 w.heap.size w'.heap.size w' k b/\Below w.heap.size w w'
theorem IL (w0:Z)(a:Option jD)(n c:Nat)(N:List Nd)(az:GY w0 a n c N)(a2:NmQ w0 a N)(w:Z)(F:Below w0.heap.size w0 w)(i:Nat)(x:Nd)(hx:N[i]? =X x)(bs:List Ex)(a3:bs.length=x.kids.length)(e:Ex)(a4:QH x.op x.num x.text x.names bs e)
  (a5:∀j,(h:j<x.kids.length)->(h2:j<bs.length)->∀ai,Below w.heap.size w ai->jE j4 44 #[Y a n c,U V x.kids[j]] ai (Yp w0 bs[j] ai)):
  jE j4 44 #[Y a n c,U V i] w (Yp w0 e w):=by
 obtain⟨a6,a7,a8,a9,ba⟩:=info_parts QI;have bK:=az.len;have hi:i<N.length:=(zd.1 hx).1;have aA:N[i]=x:=(zd.1 hx).2;have bL:(i:Int)<(n:Int):=by omega
 obtain⟨b,aB,rfl,H,an,nn,cn,I,l,J,aj,c1,c2,c3,c4,aC,K⟩:=az.cells i hi;rw[aA]at aj c1 c2 K aC;have ak:=Ab (show SQ w0 an nn cn x.names from⟨aC,by have:=a2 i hi b aB rfl an nn cn c3;rw[aA]at this;exact this⟩);have bb:=Ab a4;replace aj:=(F.cell (by exact H)).trans aj;replace c1:=(F.cell (by exact H)).trans c1;replace c2:=(F.cell (by exact H)).trans c2;replace c3:=(F.cell (by exact H)).trans c3;replace c4:=(F.cell (by exact H)).trans c4;replace K:=K.below F NLN;replace H:=zE H F.size;have aD:=Ab K.len;have bM:=K.small;have aE:=Ab a3;have bc:=Ab a5;have aF:=Ab F;have bd:w0.heap.size<=w.heap.size:=F.size;have aG:=Av w Gy;have aH:=aG.alloc aG.size (Dw x.op x.num x.text an nn cn I l J);have al:=aH.alloc aH.size (BV x.op x.num x.text an nn cn T 0 0);have ao:=((Ag.new w #[U V 0,U V 0,Q ⟨#[]⟩,Y T 0 0,Y T 0 0] 48).alloc (Dw x.op x.num x.text an nn cn I l J)).alloc (BV x.op x.num x.text an nn cn T 0 0);have S:=(Ag.new (w.alloc Gy) #[U V x.op,U V x.num,Q x.text,Y an nn cn,Y I l J] 85).alloc (BV x.op x.num x.text an nn cn T 0 0);have L:=Ag.new ((w.alloc Gy).alloc (Dw x.op x.num x.text an nn cn I l J)) #[U V x.op,U V x.num,Q x.text,Y an nn cn,Y T 0 0] 48;have ap:(((w.alloc Gy).alloc (Dw x.op x.num x.text an nn cn I l J)).alloc (BV x.op x.num x.text an nn cn T 0 0)).heap.size=w.heap.size+3:=by simp
 simp only[World.size_alloc]at S L;go_enter func44,ntmps44
 go_wp2_with fail
 generalize (((w.alloc Gy).alloc (Dw x.op x.num x.text an nn cn I l J)).alloc (BV x.op x.num x.text an nn cn T 0 0))=bf at al ao S L ap|-;have aq:Tt w0 (w.heap.size+3) (Y T 0 0) [] [] bf:=⟨jX _ _ _ _,rfl,fun j h=>absurd h (by simp)⟩
 generalize bg:w.heap.size=d at al ao S L ap aq bd|-;have W:=Ab bg;generalize bN:d+1=M at S L|-;generalize bO:M+1=g at L|-;generalize bP:d+3=B at ap aq|-;have bh:d<M/\M<g/\g<B:=by omega
 have bi:=Ab K;go_loopw [25] (fun i wr=>∃ (j:Nat) (ar:R) (f:List K5),j<=l/\i=U V j/\Hid (f.length=j)/\Ag wr g #[U V x.op,U V x.num,Q x.text,Y an nn cn,ar] 48/\Ag wr M #[U V x.op,U V x.num,Q x.text,Y an nn cn,Y I l J] 85/\Ag wr d #[U V 0,U V 0,Q ⟨#[]⟩,Y T 0 0,Y T 0 0] 48/\Tt w0 B ar f (bs.take j) wr/\Below d w wr/\B<=wr.heap.size) (fun i _=>l-(intOf i).toNat)
 case atStart=>exact⟨0,_,[],zD _,rfl,Ab rfl,L,S,ao,aq,al,by omega⟩
 case round=>
  obtain⟨j,ar,f,bQ,rfl,aI,aJ,aK,aL,aa,au,hB⟩:=hrel;obtain⟨m,o,rfl,_⟩:=Ae aa.own;obtain⟨bR,bS,bT,bU,bj,bV⟩:=AP aJ;obtain⟨n0,n1,n2,n3,bW,bX⟩:=AP aK;by_cases aM:j<l
  ·have bY:(j:Int)<(l:Int):=by omega
   have av:j<x.kids.length:=by rw[Aa aD];exact aM
   have aN:j<bs.length:=by rw[Aa aE];exact av
   have aO:Below w.heap.size w wr:=by rw[Aa W];exact au
   obtain⟨bZ,ok,rfl,b0,bk⟩:=((Aa bi).below aO NLN).cells j av;have aw:=Ab (Gz (Aa bc j av aN wr.drew aO.drew) (fun e w' ⟨k,h,_⟩=>⟨_,h⟩));have aP:=Ab (show bs.take (j+1)=bs.take j++[bs[j]]from zQ aN);have aQ:=Ab aM;generalize x.kids[j]=bl at bk aw;generalize bs[j]=bm at aw aP;have b1:f.length<=1048576:=by have:=Aa aI;omega
   have bn:=aJ.after BRN.drew NLN;have bo:=aa.below BRN.drew;have sd:wr.drew.cell? ⟨g,4,T⟩=X (Y m f.length o):=bj;have bp:(Tryz.f44.name== "runtime.NumGoroutine")=false:=by kernel_rfl
   have bq: Tryz.f44.body.isNone=false:=by kernel_rfl
   have ab:∀q,(Y m f.length o).ownBlock=X q->B<=q/\q<wr.heap.size:=fun q hq=>aa.own.lt q hq;go_wp2_with fail
   go_region_law (first
    |(refine AE rfl 44 _ func44 bp bq _ _ _ rfl (Y (X ⟨b,aB,T⟩) n c) (U V bl) rfl rfl _ (Aa aw) ?_;rintro b2 aR ⟨br,aS,aT,O⟩;obtain rfl:=Bg aS;obtain⟨r,s,t,y,z,A,C,D,E⟩:=br;dsimp only at aS aT|-;have aU:=bn.after O NLN;obtain⟨e0,e1,e2,e3,e4,b3⟩:=AP aU;have aV:=bo.below O;have bt:=World.ownsRow.alloc aV.own (BV r s t y z A C D E);have ax:=aU.alloc (BV r s t y z A C D E);obtain⟨b4,b5,b6,b7,b8,b9⟩:=AP ax;have bu:=World.news_of_block (heap_alloc_new aR (BV r s t y z A C D E));have ca:=O.size)
    |(refine step_append_lies _ rfl _ _ 43 rfl B 48 a6 (.agg #[U V 0,U V 0,Q ByteArray.empty,Y T 0 0,Y T 0 0]) 5 80 underlying43 a7 a8 a9 ba rfl (by decide) (Y m f.length o) f.length (f.flatMap K5.cs) rfl bt ⟨aR.heap.size,0,T⟩ 1 1 (K5.cs ⟨r,s,t,y,z,A,C,D,E⟩) rfl rfl bu (by intro u aW;simp[K5.cs]at aW;rcases aW with rfl|rfl|rfl|rfl|rfl<;>rfl) (by decide) (by unfold maxLen;omega) (by omega) (by have:wr.drew.heap.size=wr.heap.size:=rfl;simp;omega) _ rfl ?_;intro g7 G ac bv P hat cb;have ad:Ag ac g _ _:=⟨(P.block g ax.lt (fun e=>by have:=(ab _ e.symm).1;omega)).trans ax.out⟩;have cc:ac.cell? ⟨g,4,T⟩=X (Y m f.length o):=ad.cell 4;have cd:=ad.frozen 4))
   all_goals
    have ce:wr.drew.heap.size=wr.heap.size:=rfl;have bw:=aV.snoc (lo:=wr.drew.heap.size) (k:=⟨r,s,t,y,z,A,C,D,E⟩) (b:=bm) (by omega) (by omega) (fun q hq=>by have:=(ab q hq).2;omega) aT bv P (hat.imp id (fun e=>by rw[e];simp));have bx:=bw.set ⟨g,4,T⟩ (Y (X ⟨g7,0,T⟩) (f.length+1) G) bh.2.2 (by show w0.heap.size<=g;omega) (Cw.set ad (by decide) _ _);have aX:=ad.set 4 (Y (X ⟨g7,0,T⟩) (f.length+1) G);simp only[zn,zh,zk]at aX;have aY:∀q,q<B->X q≠(Y m f.length o).ownBlock:=fun q hq e=>by have:=(ab q e.symm).1;omega
    have bz:=(((((aK.after BRN.drew NLN).after O NLN).alloc (BV r s t y z A C D E)).grown P (aY M (by omega))).setFar (p:=⟨g,4,T⟩) (by show M≠g;omega) (Y (X ⟨g7,0,T⟩) (f.length+1) G))
    have bA:=(((((aL.after BRN.drew NLN).after O NLN).alloc (BV r s t y z A C D E)).grown P (aY d (by omega))).setFar (p:=⟨g,4,T⟩) (by show d≠g;omega) (Y (X ⟨g7,0,T⟩) (f.length+1) G))
    have bB:=((((au.drew).trans (O.mono (by omega))).alloc (by omega) (BV r s t y z A C D E)).grown P (by simp;omega) (fun q hq=>by have:=(ab q hq).1;omega)).setCell (p:=⟨g,4,T⟩) (by show d<=g;omega) (Y (X ⟨g7,0,T⟩) (f.length+1) G);have bC:B<=(ac.setCell ⟨g,4,T⟩ (Y (X ⟨g7,0,T⟩) (f.length+1) G)).heap.size:=by have:=P.size;simp at this|-;omega
    have bD:=Ab (show(f++[(⟨r,s,t,y,z,A,C,D,E⟩:K5)]).length=j+1 by rw[zC,Aa aI];rfl);have bE:=Ab (show Tt w0 B (Y (X ⟨g7,0,T⟩) (f.length+1) G) (f++[(⟨r,s,t,y,z,A,C,D,E⟩:K5)]) (bs.take (j+1)) (ac.setCell ⟨g,4,T⟩ (Y (X ⟨g7,0,T⟩) (f.length+1) G)) by rw[Aa aP];exact bx);go_wp2_with fail
    go_roundw
    case rel=>exact⟨j+1,_,_,Aa aQ,by go_num,bD,aX,bz,bA,Aa bE,bB,bC⟩
    case measure=>have:=Aa aQ;simp[intOf];omega
  ·have e:j=l:=by omega
   subst e;have ay:=aL;obtain⟨cf,cg,ch,ci,cj,ck⟩:=AP ay;have ae:=ay.set 0 (U V x.op);simp only[zn,zh]at ae;obtain⟨cl,cm,co,cp,cq,cr⟩:=AP ae;have af:=ae.set 1 (U V x.num);simp only[zn,zh,zk]at af;obtain⟨ct,cu,cv,cw,cx,cy⟩:=AP af;have ag:=af.set 2 (Q x.text);simp only[zn,zh,zk]at ag;obtain⟨cz,cA,cB,cC,cD,cE⟩:=AP ag;have ah:=ag.set 3 (Y an nn cn);simp only[zn,zh,zk]at ah;obtain⟨cF,cG,cH,cI,cJ,cK⟩:=AP ah;have aZ:=ah.set 4 (Y m f.length o);simp only[zn,zh,zk]at aZ;obtain⟨bF,s1,s2,bG,bH,_⟩:=AP aZ;have a0:=((((aa.set ⟨d,0,T⟩ (U V x.op) (by show d<B;omega) (by show w0.heap.size<=d;omega) (Cw.set ay (by decide) _ _)).set ⟨d,1,T⟩ (U V x.num) (by show d<B;omega) (by show w0.heap.size<=d;omega) (Cw.set ae (by decide) _ _)).set ⟨d,2,T⟩ (Q x.text) (by show d<B;omega) (by show w0.heap.size<=d;omega) (Cw.set af (by decide) _ _)).set ⟨d,3,T⟩ (Y an nn cn) (by show d<B;omega) (by show w0.heap.size<=d;omega) (Cw.set ag (by decide) _ _)).set ⟨d,4,T⟩ (Y m f.length o) (by show d<B;omega) (by show w0.heap.size<=d;omega) (Cw.set ah (by decide) _ _);have a1:=((((au.setCell (p:=⟨d,0,T⟩) (Nat.le_refl d) (U V x.op)).setCell (p:=⟨d,1,T⟩) (Nat.le_refl d) (U V x.num)).setCell (p:=⟨d,2,T⟩) (Nat.le_refl d) (Q x.text)).setCell (p:=⟨d,3,T⟩) (Nat.le_refl d) (Y an nn cn)).setCell (p:=⟨d,4,T⟩) (Nat.le_refl d) (Y m f.length o);have bI:bs.take j=bs:=zY (by rw[Aa aE,Aa aD];exact NLN);rw[bI]at a0;have bJ:=Ab (a0.all rfl (by omega:d<=B) x.op x.num x.text an nn cn x.names (by have q:=(Aa aF).trans ((show Below w.heap.size w _ by rw[Aa W];exact a1).mono (Aa aF).size);exact⟨(Aa ak).1.below q NLN,(Aa ak).2.1,(Aa ak).2.2.below q NLN⟩) e (Aa bb));go_wp2_with fail
   refine bodyPost_ret (v:= .agg #[U V x.op,U V x.num,Q x.text,Y an nn cn,Y m f.length o]) (by simp[results,results44,go_sem,bF,s1,s2,bG,bH]) rfl ⟨⟨x.op,x.num,x.text,an,nn,cn,m,f.length,o⟩,rfl,?_,?_⟩
   ·rw[Aa W];exact Aa bJ
   ·rw[Aa W];exact a1
theorem EO {s:ByteArray}(h:s.size=0):s=⟨#[]⟩:=by
 cases s with
 |mk d=>
  have:d.size=0:=h;rw[Array.eq_empty_of_size_eq_zero this]
theorem TB (w0:Z)(a:Option jD)(n c:Nat)(N:List Nd)(y:GY w0 a n c N)(z:NmQ w0 a N)(E:∀x∈N,AD x=true){i:Nat}{e:Ex}(t:Cg N i e):∀w,Below w0.heap.size w0 w->jE j4 44 #[Y a n c,U V i] w (Yp w0 e w):=by
 have leaf:∀{i:Nat} {x:Nd} {e:Ex},N[i]? =X x->x.kids=[]->QH x.op x.num x.text x.names [] e->∀w,Below w0.heap.size w0 w->jE j4 44 #[Y a n c,U V i] w (Yp w0 e w):=fun {i x e} h b hf w o=>IL w0 a n c N y z w o i x h [] (by rw[b];rfl) e hf (fun j h1=>absurd h1 (by rw[b];simp));have p:∀{i:Nat} {x:Nd},N[i]? =X x->JT x=true:=fun h=>by
  have:=E _ (zp h);rw[AD,zF]at this;exact this.2
 have A:∀{i:Nat} {x:Nd},N[i]? =X x->8<=x.op->x.num=0/\x.text=⟨#[]⟩/\x.names=[]:=fun {i x} h d=>by
  have hq:=p h;rw[JT,if_neg (by omega),if_neg (by omega),if_neg (by omega),VR,if_neg (by omega),if_neg (by omega),if_neg (by omega),if_neg (by omega),if_neg (by omega),if_neg (by omega)]at hq;simp only[zF,zI]at hq;exact⟨hq.1.1,EO hq.1.2,z9 hq.2⟩
 have s:∀{x:Nd} {op num:Int} {text:ByteArray} {ss:List ByteArray},op=x.op->num=x.num->text=x.text->ss=x.names->(⟨op,num,text,ss,[]⟩:Nd)=⟨x.op,x.num,x.text,x.names,[]⟩:=fun h1 h2 h3 h4=>by rw[h1,h2,h3,h4]
 induction t with
 |@int i x h d b=>
  have hq:=p h;rw[JT,if_neg (by omega),if_neg (by omega),if_pos (.inr d)]at hq;simp only[zF,zI]at hq;exact leaf h b (.leaf _ rfl (s d.symm rfl (EO hq.1).symm (z9 hq.2).symm))
 |@text i x h d b=>
  have hq:=p h;rw[JT,if_neg (by omega),if_neg (by omega),if_neg (by omega),VR,if_neg (by omega),if_pos d]at hq;simp only[zF,zI]at hq;exact leaf h b (.leaf _ rfl (s d.symm hq.1.2.symm rfl (z9 hq.2).symm))
 |@bool i x h d b=>
  have hq:=p h;rw[JT,if_neg (by omega),if_neg (by omega),if_neg (by omega),VR,if_neg (by omega),if_neg (by omega),if_pos d]at hq;simp only[zF,zI]at hq;have F:(if decide (x.num=1)=true then (1 :Int)else 0)=x.num:=by
   rcases hq.1.1 with e|e<;>rw[e]<;>rfl
  exact leaf h b (.leaf _ rfl (s d.symm F (EO hq.1.2).symm (z9 hq.2).symm))
 |@set i x h d b a n c=>
  have hq:=p h;rw[JT,if_neg (by omega),if_neg (by omega),if_neg (by omega),VR,if_neg (by omega),if_neg (by omega),if_neg (by omega),if_pos d]at hq;simp only[zF,zI]at hq;exact leaf h b (.leaf _ rfl (s d.symm hq.1.2.symm (EO hq.2).symm rfl))
 |name h d b=>
  have hq:=p h;rw[JT,if_pos d]at hq;cases hq
 |@attr i x h d b=>
  have hq:=p h;rw[JT,if_neg (by omega),if_pos d]at hq;simp only[zF,zI]at hq;exact leaf h b (.leaf _ rfl (s d.symm rfl (EO hq.1.2).symm (z9 hq.2).symm))
 |@lett i x h d b=>
  have hq:=p h;rw[JT,if_neg (by omega),if_neg (by omega),if_pos (.inl d)]at hq;simp only[zF,zI]at hq;exact leaf h b (.leaf _ rfl (s d.symm rfl (EO hq.1).symm (z9 hq.2).symm))
 |@un i k x e h d b hi t G=>
  intro w o;refine IL w0 a n c N y z w o i x h [e] (by rw[b];rfl) _ (.un _ _ (A h (by omega))) (fun j h1 h2 q r=>?_);obtain rfl:j=0:=by simpa using h2
  have e1:x.kids[0]=(k:Int):=by simp[b]
  rw[e1];exact G q (o.trans (r.mono o.size))
 |@bin i k l x e f h d b hi t u B C=>
  intro w o;refine IL w0 a n c N y z w o i x h [e,f] (by rw[b];rfl) _ (.bin _ _ _ (A h (by omega))) (fun j h1 h2 q r=>?_);have D:j=0\/j=1:=by simp at h2;omega
  rcases D with rfl|rfl
  ·have e1:x.kids[0]=(k:Int):=by simp[b]
   rw[e1];exact B q (o.trans (r.mono o.size))
  ·have e1:x.kids[1]=(l:Int):=by simp[b]
   rw[e1];exact C q (o.trans (r.mono o.size))
 |@ite i k l m x e f g h d b hi t u v B C H=>
  intro w o;refine IL w0 a n c N y z w o i x h [e,f,g] (by rw[b];rfl) _ (.ite _ _ _ _ d (A h (by omega))) (fun j h1 h2 q r=>?_);have D:j=0\/j=1\/j=2:=by simp at h2;omega
  rcases D with rfl|rfl|rfl
  ·have e1:x.kids[0]=(k:Int):=by simp[b]
   rw[e1];exact B q (o.trans (r.mono o.size))
  ·have e1:x.kids[1]=(l:Int):=by simp[b]
   rw[e1];exact C q (o.trans (r.mono o.size))
  ·have e1:x.kids[2]=(m:Int):=by simp[b]
   rw[e1];exact H q (o.trans (r.mono o.size))
theorem QP {e c:Ex}(h:Ar e=X c):c.kids=[]:=by
 unfold Ar at h;split at h
 ·cases h
 ·split at h
  ·split at h
   ·cases h;rename_i v _;cases v<;>rfl
   ·cases h
  ·cases h
theorem WW {P:Program}{ops:Array Oper}{o:Oper}{a:Act}{w:Z}{K:Act->Z->Prop}{i:Exit->Act->Z->Prop}{j:Prop}(k:o.guard=T)(f:FuncId)(fn:Func)(hf:P.funcs[f]? =X fn)(l:(fn.name== "runtime.NumGoroutine")=false)(g:fn.body.isNone=false)(x y z:Operand)(m:Array TypeId)
  (n:o.op= .call { callee:= .value (.func f),args:=#[x,y,z],argTypes:=m })(b c d:Value)(hx:a.eval x=b)(hy:a.eval y=c)(p:a.eval z=d)
  (R:Value->Z->Prop)(hc:jE P f #[b,c,d] w fun e w'=>∃v,e= .returned v/\R v w')(h:∀v w',R v w'->K (a.put o.dst v) w'):
  if Region.wanted o (yielded ops a.tmps)=true then Oper.wp P o a w K i else j:=by
 have q:Region.wanted o (yielded ops a.tmps)=true:=by simp[Region.wanted,k]
 rw[if_pos q];unfold Oper.wp;have r:(execOp a.eval o).run P w= .ok (.enter f #[b,c,d]) w:=by
  subst hx hy p;have h1:fn.name≠ "runtime.NumGoroutine" :=by simpa using l
  have h2:(callFunc f #[a.eval x,a.eval y,a.eval z]).run P w= .ok (.enter f #[a.eval x,a.eval y,a.eval z]) w:=by
   have h3:fn.body≠T:=fun e=>by rw[e]at g;cases g
   simp[callFunc,hf,h1,h3]
  simpa[execOp,n,resolve,invoke,Act.eval,Result.andThen,go_sem]using h2
 rw[r,Oper.upon_enter];refine hc.mono ?_;rintro e w' ⟨v,rfl,s⟩;exact h v w' s
theorem Tt.kid {c:R}(h:Tt w0 B c a bs w)(j:Nat)(h1:j<a.length)(h2:j<bs.length):Ph w0 B w.heap.size w a[j] bs[j]:=by
 obtain⟨l,i,a1,a2,a3,a4⟩:=h.each j h1 h2;exact a4.mono (fun b d=>by omega)
theorem Cf.trans {w0 w a c:Z}{lo hi:Nat}(h:Cf w0 lo hi w a)(k:Cf w0 lo hi a c):Cf w0 lo hi w c:=
 ⟨zB h.1 k.1,fun b d hs=>(k.2.1 b d (zE hs h.1)).trans (h.2.1 b d hs),fun b cs f=>k.2.2 b cs (h.2.2 b cs f)⟩
theorem Cf.zW {w0 d:Z}{lo hi a:Nat}{cs:Array Value}(R:Ag d a cs 48)(h0:w0.heap.size<=a)(h1:a<lo\/hi<=a)(m:K5):Cf w0 lo hi d (zW d a m):=by
 have o:∀(w:Z) (j:Nat) (u:Value) (q:Nat),q≠a->(w.setCell ⟨a,j,T⟩ u).heap[q]? =w.heap[q]? :=fun w j u q h=>jc w ⟨a,j,T⟩ q u h;refine⟨by simp[Go.Proofs.YteiieikcjcfkkaaGreatDoor.zW],fun b n _=>?_,?_⟩
 ·have f:b≠a:=by omega
  simp only[Go.Proofs.YteiieikcjcfkkaaGreatDoor.zW,o _ _ _ _ f]
 ·have g:=Cw.set R (by decide) 0 (U V m.op);have s1:=Cw.set (R.set 0 (U V m.op)) (by decide) 1 (U V m.num);have s2:=Cw.set ((R.set 0 (U V m.op)).set 1 (U V m.num)) (by decide) 2 (Q m.text);have i:=Cw.set (((R.set 0 (U V m.op)).set 1 (U V m.num)).set 2 (Q m.text)) (by decide) 3 (Y m.an m.nn m.cn);have k:=Cw.set ((((R.set 0 (U V m.op)).set 1 (U V m.num)).set 2 (Q m.text)).set 3 (Y m.an m.nn m.cn)) (by decide) 4 (Y m.ka m.kn m.kc);exact fun b c l=>k b c (i b c (s2 b c (s1 b c (g b c l))))
theorem Dy {a:Z}{d B:Nat}{c:K5}{z:Ex}{g i j k:R}(n:w0.heap.size<=w.heap.size)(l:Below w.heap.size w a)(f:Ag a d #[g,h,i,j,k] 48)(h1:w.heap.size<=d)(h2:d<B)(hS:Ph w0 B a.heap.size a c z):
  Below w.heap.size w (zW a d c)/\Ag (zW a d c) d #[U V c.op,U V c.num,Q c.text,Y c.an c.nn c.cn,Y c.ka c.kn c.kc] 48/\Ph w0 w.heap.size (zW a d c).heap.size (zW a d c) c z:=by
 have e:=QL c l f h1;have m:(zW a d c).heap.size=a.heap.size:=by simp[zW]
 exact⟨e.1,e.2,(hS.keep (Cf.zW f (by omega) (.inl h2) c)).mono (fun b o=>by rw[m];omega)⟩
def RwC (wz:Z):Prop:=∀(ls:List Ex) (ts:List Int),Fu ts ls->ls.length=ts.length->(∀c∈ls,Ib c)->(∀c∈ls,Be c=true)->∀(la:Option jD) (lc:Nat),ls.length<=lc->∀(e:Ex) (t:Int) (k:K5) (w:Z),Al ts e=X t->Ib e->wz.heap.size<=w.heap.size->Tq w e k->LtQ w la ls->
  jE j4 43 #[.agg #[U V k.op,U V k.num,Q k.text,Y k.an k.nn k.cn,Y k.ka k.kn k.kc],Y la ls.length lc] w (Yp wz (AG ls e) w)
structure S5 where
 kind:Int
 name:ByteArray
 n:Int
 ca:Option jD
 cn:Nat
 cc:Nat
 ga:Option jD
 gn:Nat
 gc:Nat
def S5.cs (s:S5):List R:= [U V s.kind,Q s.name,U V s.n,Y s.ca s.cn s.cc,Y s.ga s.gn s.gc]
theorem Ph.monoI {wz:Z}{lo lo' hi':Nat}{e:Ex}(h:Ph wz lo hi w k e)(h1:lo'<=lo)(h2:hi<=hi'):Ph wz lo' hi' w k e:=Tl.mono (fun b a=>by omega) h
def Le (wz:Z) (lo hi:Nat) (w:Z) (o:Option Ex) (a:Option jD) (n:Nat):Prop:=match o with
 |none=>n=0
 |some e=>n=1/\(∀b o,a=X ⟨b,o,T⟩->b<wz.heap.size\/(lo<=b/\b<hi))/\∃k,BT w a [k]/\Ph wz lo hi w k e
theorem Le.keep {wz:Z}{lo hi:Nat}{w w':Z}{o:Option Ex}{a:Option jD}{n:Nat}(h:Le wz lo hi w o a n)(c:Cf wz lo hi w w'):Le wz lo hi w' o a n:=by
 cases o with
 |none=>exact h
 |some e=>
  obtain⟨h1,h2,k,h3,h4⟩:=h;exact⟨h1,h2,k,g5 c.1 h3 (fun b o e d=>c.2.1 b (h2 b o e) d),h4.keep c⟩
theorem Le.mono {wz:Z}{lo lo' hi':Nat}{o:Option Ex}{a:Option jD}{n:Nat}(h:Le wz lo hi w o a n)(c:lo'<=lo)(d:hi<=hi'):Le wz lo' hi' w o a n:=by
 cases o with
 |none=>exact h
 |some e=>
  obtain⟨h1,h2,k,h3,h4⟩:=h;exact⟨h1,fun b o e=>by have:=h2 b o e;omega,k,h3,h4.monoI c d⟩
def StQ (wz:Z) (lo hi:Nat) (w:Z) (s:S5) (q:Sx×Int):Prop:=s.kind=q.1.kind/\s.name=q.1.name/\s.n=q.2/\Le wz lo hi w q.1.cond s.ca s.cn/\Le wz lo hi w q.1.grant s.ga s.gn
theorem StQ.keep {wz:Z}{lo hi:Nat}{w w':Z}{s:S5}{q:Sx×Int}(h:StQ wz lo hi w s q)(a:Cf wz lo hi w w'):StQ wz lo hi w' s q:=
 ⟨h.1,h.2.1,h.2.2.1,h.2.2.2.1.keep a,h.2.2.2.2.keep a⟩
def Iv (B:Nat) (lv ov:R) (w:Z) (lo hi:Nat):Prop:=B<=lo/\hi<=w.heap.size/\(∀q,lv.ownBlock=X q->q<lo\/hi<=q)/\∀q,ov.ownBlock=X q->q<lo\/hi<=q
structure RU (wz:Z) (B:Nat) (lv ov:R) (vs:List K5) (ls:List Ex) (ss:List S5) (D:List (Sx×Int)) (w:Z):Prop where
 lets:w.ownsRow B 48 5 lv vs.length (vs.flatMap K5.cs)
 out:w.ownsRow B 45 5 ov ss.length (ss.flatMap S5.cs)
 lenL:ls.length=vs.length
 lenD:D.length=ss.length
 eachL:∀j,(h1:j<vs.length)->(h2:j<ls.length)->∃lo hi,Iv B lv ov w lo hi/\Ph wz lo hi w vs[j] ls[j]
 eachD:∀j,(h1:j<ss.length)->(h2:j<D.length)->∃lo hi,Iv B lv ov w lo hi/\StQ wz lo hi w ss[j] D[j]
theorem RU.nil (wz:Z)(B:Nat)(w:Z):RU wz B (Y T 0 0) (Y T 0 0) [] [] [] [] w:=
 ⟨jX _ _ _ _,jX _ _ _ _,rfl,rfl,fun j h=>absurd h (by simp),fun j h=>absurd h (by simp)⟩
theorem Iv.below {a:R}{w w':Z}{lo hi:Nat}(h:Iv B lv a w lo hi)(b:w.heap.size<=w'.heap.size):Iv B lv a w' lo hi:=⟨h.1,zB h.2.1 b,h.2.2.1,h.2.2.2⟩
theorem RU.below {wz:Z}{B:Nat}{lv b:R}{c:List K5}{ls:List Ex}{ss:List S5}{d:List (Sx×Int)}{w w':Z}(h:RU wz B lv b c ls ss d w)(a:Below w.heap.size w w'):RU wz B lv b c ls ss d w':=
 ⟨An h.lets a NLN,An h.out a NLN,h.lenL,h.lenD,fun j h1 h2=>by
  obtain⟨lo,hi,a1,a2⟩:=h.eachL j h1 h2;exact⟨lo,hi,a1.below a.size,a2.keep (Cf.of_below a)⟩,fun j h1 h2=>by
  obtain⟨lo,hi,a1,a2⟩:=h.eachD j h1 h2;exact⟨lo,hi,a1.below a.size,a2.keep (Cf.of_below a)⟩⟩
theorem RU.ltq {wz:Z}{b:Option jD}{c f:Nat}{g:R}{ls:List Ex}{ss:List S5}(h:RU wz B (Y b c f) g a ls ss i w)(d:a.length=c):LtQ w b ls:=
 ⟨a,h.lenL.symm,Et (by have:=h.lets;rw[d]at this;exact this) d,fun j h1 h2=>by
  obtain⟨lo,hi,_,a2⟩:=h.eachL j h2 h1;exact Tl.tq a2⟩
theorem RU.pushL {wz:Z}{d:R}{ls:List Ex}{ss:List S5}{r:List (Sx×Int)}{g hi:Nat}{e:Ex}(h:RU wz B lv d a ls ss r w)(D:wz.heap.size<=B)(s:Iv B lv d w lo hi)(hs:Ph wz lo hi w k e)
  (x:c.ownsRow B 48 5 (Y (X ⟨g,0,T⟩) (a.length+1) cap) (a.length+1) (a.flatMap K5.cs++k.cs))(n:(w.alloc o).grownBy c lv.ownBlock)(hat:lv.ownBlock=X g\/g=w.heap.size+1):
  RU wz B (Y (X ⟨g,0,T⟩) (a.length+1) cap) d (a++[k]) (ls++[e]) ss r c/\(∀lo hi,Iv B lv d w lo hi->Cf wz lo hi w c):=by
 have y:(w.alloc o).heap.size=w.heap.size+1:=by simp
 have t:w.heap.size<=c.heap.size:=by have:=n.size;omega
 have u:∀q,q<w.heap.size->lv.ownBlock≠X q->c.heap[q]? =w.heap[q]? :=fun q h1 h2=>(n.block q (by rw[y];omega) (fun e=>h2 e.symm)).trans (Below.heap_alloc w o q h1);have z:Cw w c:=fun b cs v=>(v.alloc o).grown n (fun e=>Ac v h.lets (by decide) e.symm);have f:∀lo hi,Iv B lv d w lo hi->Cf wz lo hi w c:=fun lo hi q=>⟨t,fun b h3 h4=>u b h4 (fun e=>by have:=(h.lets.lt b e).1;have:=q.2.2.1 b e;omega),z⟩
 have p:∀lo hi,Iv B lv d w lo hi->Iv B (Y (X ⟨g,0,T⟩) (a.length+1) cap) d c lo hi:=fun lo hi q=>⟨q.1,zB q.2.1 t,fun b A=>by
  have e:g=b:=by simpa[ja]using A
  subst e;rcases hat with e|e
  ·exact q.2.2.1 g e
  ·right;have:=q.2.1;omega,q.2.2.2⟩
 refine⟨⟨?_,Ak h.out (fun q hq=>u q (h.out.lt q hq).2 (fun e=>Ai h.out h.lets (by decide) q hq e)),by simp[h.lenL],h.lenD,fun j h1 h2=>?_,fun j h1 h2=>?_⟩,f⟩
 ·rw[yE,zC];simpa using x
 ·by_cases m:j<a.length
  ·obtain⟨l,i,a1,a2⟩:=h.eachL j m (by rw[h.lenL];exact m);rw[zo m,zo (by rw[h.lenL];exact m)];exact⟨l,i,p l i a1,a2.keep (f l i a1)⟩
  ·have C:j=a.length:=by simp at h1;omega
   subst C;have e1:(a++[k])[a.length]=k:=by simp
   have e2:(ls++[e])[a.length]=e:=by simp[<-h.lenL]
   rw[e1,e2];exact⟨lo,hi,p lo hi s,hs.keep (f lo hi s)⟩
 ·obtain⟨l,i,a1,a2⟩:=h.eachD j h1 h2;exact⟨l,i,p l i a1,a2.keep (f l i a1)⟩
theorem RU.pushD {wz:Z}{c:R}{p:List K5}{ls:List Ex}{ss:List S5}{f:List (Sx×Int)}{a:Z}{g hi:Nat}{s:S5}{q:Sx×Int}(h:RU wz B lv c p ls ss f w)(D:wz.heap.size<=B)(r:Iv B lv c w lo hi)(hs:StQ wz lo hi w s q)
  (x:a.ownsRow B 45 5 (Y (X ⟨g,0,T⟩) (ss.length+1) cap) (ss.length+1) (ss.flatMap S5.cs++s.cs))(k:(w.alloc o).grownBy a c.ownBlock)(hat:c.ownBlock=X g\/g=w.heap.size+1):
  RU wz B lv (Y (X ⟨g,0,T⟩) (ss.length+1) cap) p ls (ss++[s]) (f++[q]) a:=by
 have y:(w.alloc o).heap.size=w.heap.size+1:=by simp
 have t:w.heap.size<=a.heap.size:=by have:=k.size;omega
 have u:∀q,q<w.heap.size->c.ownBlock≠X q->a.heap[q]? =w.heap[q]? :=fun q h1 h2=>(k.block q (by rw[y];omega) (fun e=>h2 e.symm)).trans (Below.heap_alloc w o q h1);have z:Cw w a:=fun b cs v=>(v.alloc o).grown k (fun e=>Ac v h.out (by decide) e.symm);have m:∀lo hi,Iv B lv c w lo hi->Cf wz lo hi w a:=fun lo hi q=>⟨t,fun b h3 h4=>u b h4 (fun e=>by have:=(h.out.lt b e).1;have:=q.2.2.2 b e;omega),z⟩
 have n:∀lo hi,Iv B lv c w lo hi->Iv B lv (Y (X ⟨g,0,T⟩) (ss.length+1) cap) a lo hi:=fun lo hi q=>⟨q.1,zB q.2.1 t,q.2.2.1,fun b A=>by
  have e:g=b:=by simpa[ja]using A
  subst e;rcases hat with e|e
  ·exact q.2.2.2 g e
  ·right;have:=q.2.1;omega⟩
 refine⟨Ak h.lets (fun q hq=>u q (h.lets.lt q hq).2 (fun e=>Ai h.out h.lets (by decide) q e hq)),?_,h.lenL,by simp[h.lenD],fun j h1 h2=>?_,fun j h1 h2=>?_⟩
 ·rw[yE,zC];simpa using x
 ·obtain⟨l,i,a1,a2⟩:=h.eachL j h1 h2;exact⟨l,i,n l i a1,a2.keep (m l i a1)⟩
 ·by_cases d:j<ss.length
  ·obtain⟨l,i,a1,a2⟩:=h.eachD j d (by rw[h.lenD];exact d);rw[zo d,zo (by rw[h.lenD];exact d)];exact⟨l,i,n l i a1,a2.keep (m l i a1)⟩
  ·have C:j=ss.length:=by simp at h1;omega
   subst C;have e1:(ss++[s])[ss.length]=s:=by simp
   have e2:(f++[q])[ss.length]=q:=by simp[<-h.lenD]
   rw[e1,e2];exact⟨lo,hi,n lo hi r,hs.keep (m lo hi r)⟩
end Go.Proofs.YteiieikcjcfkkaaGreatDoor

import Derived.Test.YtppafecmccdplaaGreatVPB
import Derived.Test.YtppafecmccdplaaGreatMXAC
open Option renaming none->T,some->Y
open Go.Value renaming int->U,slice->X,string->Q
open Go renaming World->Z,Value->jB
open Go.Proofs.Tryz renaming prog->jL
namespace Go.Proofs.YtppafecmccdplaaGreat
open Go.RowKit
set_option linter.unusedVariables false
variable {N:List Nd}{c d:List jB}{lo n:Nat}{t:TypeId}{v v':jB}{w w':Z}
def U8 (x:Nd):Bool:=
 if x.op=1 then decide (0<=x.num)&&decide (x.text.size=0)&&decide (x.names.length=0)
 else if x.op=2 then Ci x.text&&decide (x.num=0)&&decide (x.names.length=0)
 else if x.op=3 then decide (x.num=0\/x.num=1)&&decide (x.text.size=0)&&decide (x.names.length=0)
 else if x.op=4 then AR x.names&&decide (x.num=0)&&decide (x.text.size=0)
 else if x.op=5 then Ek x.text&&decide (x.num=0)&&decide (x.names.length=0)
 else if x.op=6\/x.op=7 then false
 else decide (x.num=0)&&decide (x.text.size=0)&&decide (x.names.length=0)
theorem QI (x:Nd):Bo x=(decide ((x.kids.length:Int)=Cz x.op)&&U8 x):=rfl
theorem BN {b:Nat}{a c d f:jB}(R:Ah w b #[a,c,d,f] t):w.cell? ⟨b,0,T⟩=Y a/\w.cell? ⟨b,1,T⟩=Y c/\w.cell? ⟨b,2,T⟩=Y d/\w.cell? ⟨b,3,T⟩=Y f/\∀j,w.frozen? ⟨b,j,T⟩=false:=
 ⟨by simpa using R.cell 0,by simpa using R.cell 1,by simpa using R.cell 2,by simpa using R.cell 3,fun j=>R.frozen j⟩
structure Ss (w:Z) (a:Option Addr) (n c:Nat) (L:List St):Prop where
 len:L.length=n
 small:n<=1048576
 sizes:∀s∈L,s.name.size<=1048576
 cells:∀j,(h:j<L.length)->∃b off,a=Y ⟨b,off,T⟩/\b<w.heap.size/\w.cell? ⟨b,off+j*4,T⟩=Y (U .i64 L[j].kind)/\w.cell? ⟨b,off+j*4+1,T⟩=Y (Q L[j].name)/\w.cell? ⟨b,off+j*4+2,T⟩=Y (U .i64 L[j].cond)/\w.cell? ⟨b,off+j*4+3,T⟩=Y (U .i64 L[j].grant)
theorem Ss.below {B:Nat}{a:Option Addr}{c:Nat}{L:List St}(h:Ss w a n c L)(d:Below B w w')(m:w.heap.size<=B):Ss w' a n c L:=
 ⟨h.len,h.small,h.sizes,fun j i=>by
  obtain⟨b,f,k,l,c0,c1,c2,c3⟩:=h.cells j i;have g:b<B:=by omega
  exact⟨b,f,k,zR l d.size,(d.cell (p:=⟨b,f+j*4,T⟩) g).trans c0,(d.cell (p:=⟨b,f+j*4+1,T⟩) g).trans c1,(d.cell (p:=⟨b,f+j*4+2,T⟩) g).trans c2,(d.cell (p:=⟨b,f+j*4+3,T⟩) g).trans c3⟩⟩
theorem Mi:(jL.info? 3).map (fun i=>(i.zero,i.size,i.bytes))=Y (Y (U .i64 0),1,8):=by kernel_rfl
def Aw (L:List Int):List jB:=L.map (Value.int .i64)
theorem Dr (w:Z)(v:jB)(t:TypeId)(b:Nat)(a:b=w.heap.size):∀j u,([v]:List jB)[j]? =Y u->(w.alloc (.cells #[v] t)).cell? ((⟨b,0,T⟩:Addr).add j)=Y u:=fun j u h=>by
 subst a;have c:j=0:=by
  have:=(zZ.1 h).1;simp at this;exact this
 subst c;rw[<-h];simp[Addr.add]
theorem Ah.grown {b:Nat}{a:Array jB}{row:Option Nat}(h:Ah w b a t)(hg:w.grownBy w' row)(c:Y b=row->False):Ah w' b a t:=⟨(hg.block b h.lt c).trans h.out⟩
def AfI (w:Z) (b o:Nat) (x:Nd):Prop:=∃an nn cn ak nk ck,w.cell? ⟨b,o,T⟩=Y (U .i64 x.op)/\w.cell? ⟨b,o+1,T⟩=Y (U .i64 x.num)/\w.cell? ⟨b,o+2,T⟩=Y (Q x.text)/\w.cell? ⟨b,o+3,T⟩=Y (X an nn cn)/\w.cell? ⟨b,o+4,T⟩=Y (X ak nk ck)/\AJ w an nn cn x.names/\Em w ak nk ck x.kids
structure IY (w:Z) (a:Option Addr) (n c:Nat) (L:List Nd):Prop where
 len:L.length=n
 small:n<=1048576
 sizes:∀x∈L,x.text.size<=1048576
 cells:∀j,(h:j<L.length)->∃b off,a=Y ⟨b,off,T⟩/\b<w.heap.size/\AfI w b (off+j*5) L[j]
theorem AfI.below {w w':Z}{B b o:Nat}{x:Nd}(h:AfI w b o x)(l:b<w.heap.size)(a:Below B w w')(d:w.heap.size<=B):AfI w' b o x:=by
 obtain⟨an,nn,cn,f,g,i,c0,c1,c2,c3,c4,j,k⟩:=h;have c:b<B:=by omega
 exact⟨an,nn,cn,f,g,i,(a.cell (p:=⟨b,o,T⟩) c).trans c0,(a.cell (p:=⟨b,o+1,T⟩) c).trans c1,(a.cell (p:=⟨b,o+2,T⟩) c).trans c2,(a.cell (p:=⟨b,o+3,T⟩) c).trans c3,(a.cell (p:=⟨b,o+4,T⟩) c).trans c4,j.below a d,k.below a d⟩
theorem IY.below {w w':Z}{B:Nat}{a:Option Addr}{n c:Nat}{L:List Nd}(h:IY w a n c L)(d:Below B w w')(g:w.heap.size<=B):IY w' a n c L:=
 ⟨h.len,h.small,h.sizes,fun j i=>by
  obtain⟨b,k,l,f,hc⟩:=h.cells j i;exact⟨b,k,l,zR f d.size,hc.below f d g⟩⟩
def nd5 (x:Nd) (u k:jB):List jB:= [U .i64 x.op,U .i64 x.num,Q x.text,u,k]
def XA:List Nd->List jB->List jB->List jB
 |x ::N,u ::nv,k ::kv=>nd5 x u k++XA N nv kv
 |_,_,_=> []
theorem Wx:∀(N:List Nd) (a b:List jB) (x:Nd) (u k:jB),a.length=N.length->b.length=N.length->XA (N++[x]) (a++[u]) (b++[k])=XA N a b++nd5 x u k
 |[],[],[],x,u,k,_,_=>by simp[XA]
 |[],_ ::_,_,x,u,k,h,_=>by simp at h
 |[],[],_ ::_,x,u,k,_,h=>by simp at h
 |y ::N,[],_,x,u,k,h,_=>by simp at h
 |y ::N,_ ::_,[],x,u,k,_,h=>by simp at h
 |y ::N,z ::a,t ::b,x,u,k,h,h'=>by
  have:=Wx N a b x u k (by simpa using h) (by simpa using h');simp only[List.cons_append,XA,this,zJ]
theorem YB:∀(N:List Nd) (a b:List jB) (j:Nat) (h:j<N.length) (h':j<a.length) (c:j<b.length),∀r,r<5->(XA N a b)[j*5+r]? =(nd5 N[j] a[j] b[j])[r]?
 |x ::N,u ::a,k ::b,0,_,_,_,r,hr=>by
  rw[XA,zw,zP,z2 (by simp[nd5];omega)];rfl
 |x ::N,u ::a,k ::b,j+1,h,h',c,r,hr=>by
  have d:=YB N a b j (by simpa using h) (by simpa using h') (by simpa using c) r hr;rw[XA,z8 (by simp[nd5];omega)];have e:(j+1)*5+r-(nd5 x u k).length=j*5+r:=by simp[nd5];omega
  rw[e,d];rfl
 |[],_,_,_,h,_,_,_,_=>absurd h (by simp)
 |_ ::_,[],_,_,_,h,_,_,_=>absurd h (by simp)
 |_ ::_,_ ::_,[],_,_,_,h,_,_=>absurd h (by simp)
structure Du (w:Z) (lo:Nat) (v:jB) (N:List Nd) (nv kv:List jB):Prop where
 len:nv.length=N.length
 lenk:kv.length=N.length
 own:w.ownsRow lo 134 5 v N.length (XA N nv kv)
 names:∀j,(h:j<N.length)->(h':j<nv.length)->w.ownsRow lo 9 1 nv[j] N[j].names.length (N[j].names.map Value.string)
 kids:∀j,(h:j<N.length)->(h':j<kv.length)->w.ownsRow lo 3 1 kv[j] N[j].kids.length (Aw N[j].kids)
 apart:∀i j,(hij:i<j)->(h:j<nv.length)->∀q,(nv[i]'(by omega)).ownBlock=Y q->nv[j].ownBlock≠Y q
 apartk:∀i j,(hij:i<j)->(h:j<kv.length)->∀q,(kv[i]'(by omega)).ownBlock=Y q->kv[j].ownBlock≠Y q
theorem Du.nil (w:Z)(lo:Nat):Du w lo (X T 0 0) [] [] []:=
 ⟨rfl,rfl,World.ownsRow_nil _ _ _ _,fun j h=>absurd h (by simp),fun j h=>absurd h (by simp),fun i j _ h=>absurd h (by simp),fun i j _ h=>absurd h (by simp)⟩
theorem Du.lts {b c:List jB}(h:Du w lo v N b c):(∀q,v.ownBlock=Y q->lo<=q/\q<w.heap.size)/\(∀j,(a:j<b.length)->∀q,b[j].ownBlock=Y q->lo<=q/\q<w.heap.size)/\∀j,(a:j<c.length)->∀q,c[j].ownBlock=Y q->lo<=q/\q<w.heap.size:=
 ⟨h.own.lt,fun j a=>(h.names j (by rw[<-h.len];exact a) a).lt,fun j a=>(h.kids j (by rw[<-h.lenk];exact a) a).lt⟩
theorem Du.upto (h:Du w lo v N c d)(h1:∀q,v.ownBlock=Y q->w'.heap[q]? =w.heap[q]?)(f:∀j,(a:j<c.length)->∀q,c[j].ownBlock=Y q->w'.heap[q]? =w.heap[q]?)(g:∀j,(a:j<d.length)->∀q,d[j].ownBlock=Y q->w'.heap[q]? =w.heap[q]?):Du w' lo v N c d:=
 ⟨h.len,h.lenk,Ad h.own h1,fun j a b=>Ad (h.names j a b) (f j b),fun j a b=>Ad (h.kids j a b) (g j b),h.apart,h.apartk⟩
theorem Du.blocks (h:Du w lo v N c d)(hd:∀k,lo<=k->k<w.heap.size->w'.heap[k]? =w.heap[k]?):Du w' lo v N c d:=
 h.upto (fun q a=>hd q (h.lts.1 q a).1 (h.lts.1 q a).2) (fun j b q a=>hd q (h.lts.2.1 j b q a).1 (h.lts.2.1 j b q a).2) (fun j b q a=>hd q (h.lts.2.2 j b q a).1 (h.lts.2.2 j b q a).2)
theorem Ak {B B' n n' size f:Nat}{e e':TypeId}{i j:List jB}(h:w.ownsRow B e size v n i)(h':w.ownsRow B' e' f v' n' j)(k:e≠e'):∀q,v.ownBlock=Y q->v'.ownBlock≠Y q:=fun q b c=>by
 rcases h.2 with⟨hv,_⟩|⟨g,cap,m,hv,_,hg,_⟩
 ·rw[hv]at b;cases b
 rcases h'.2 with⟨d,_⟩|⟨l,o,p,d,_,a,_⟩
 ·rw[d]at c;cases c
 rw[hv]at b;rw[d]at c;obtain rfl:g=q:=by simpa[Value.ownBlock]using b
 obtain rfl:l=g:=by simpa[Value.ownBlock]using c
 rw[hg]at a;injection a with a;injection a with _ a;exact k a
def InN (v:jB) (nv kv:List jB) (hi:Nat):Prop:=(∀q,v.ownBlock=Y q->q<hi)/\(∀j,(hj:j<nv.length)->∀q,nv[j].ownBlock=Y q->q<hi)/\∀j,(hj:j<kv.length)->∀q,kv[j].ownBlock=Y q->q<hi
def okN (x:Nd):Prop:=x.names.length<=1048576/\x.kids.length<=1048576/\∀s∈x.names,s.size<=maxLen
def Ex.pos:Ex->Int
 |.int i _| .text i _| .bool i _| .set i ..| .name i _| .attr i _| .lett i _| .un i ..| .bin i ..| .ite i .. =>i
end Go.Proofs.YtppafecmccdplaaGreat

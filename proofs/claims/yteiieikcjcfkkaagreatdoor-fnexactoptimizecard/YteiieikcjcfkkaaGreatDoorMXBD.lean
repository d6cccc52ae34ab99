import Derived.Test.YteiieikcjcfkkaaGreatDoorMXBC
import Derived.Deep.Onto
open Go.Proofs.Tryz
open Option renaming none->T,some->X
open Go.Value renaming int->U,slice->Y,string->Q,iface->jB,agg->jG,pointer->jK,nilIface->jL,ownBlock->ja
open Go.IntKind renaming i64->V
open Go renaming World->Z,Value->R,Addr->jD,Calls->jE,TypeId->jJ,run_underlying->jl
open Go.Obj renaming cells->jF
open Go.World renaming ownsRow_nil->jX
open Go.Proofs.Tryz renaming prog->j4
namespace Go.Proofs.YteiieikcjcfkkaaGreatDoor
open Go.RowKit
set_option linter.unusedSimpArgs false
set_option linter.unnecessarySimpa false
set_option linter.unusedVariables false
set_option maxRecDepth 100000
set_option maxHeartbeats 6400000
variable {ops:Array Oper}{l:Exit->Act->Z->Prop}{b:List Int}{rest:List Oper}{S:List Sx}{zb j n g7 c7:Nat}{o:Obj}{a:Option jD}{x:Sx}{d:jJ}{v f i:R}{w w':Z}
section
variable {G : Nat -> Prop}
noncomputable def lsF:List Ex->List Sx->List Ex
 |ls,[]=>ls
 |ls,x ::S=>lsF (Pg ls (Ef ls x)) S
theorem TJ:∀(S:List Sx) (ls:List Ex) (x:Sx),Ce ls (S++[x])=Ce ls S++[Ef (lsF ls S) x]
 |[],ls,x=>rfl
 |y ::S,ls,x=>by rw[List.cons_append,Ce,Ce,TJ S,lsF];rfl
theorem Rf:∀(S:List Sx) (ls:List Ex) (x:Sx),lsF ls (S++[x])=Pg (lsF ls S) (Ef (lsF ls S) x)
 |[],ls,x=>rfl
 |y ::S,ls,x=>by rw[List.cons_append,lsF,lsF,Rf S]
structure SiP (S:List Sx) (k:Nat) (ls:List Ex) (X:List Sx):Prop where
 st:X.map Cc=(Ce [] (S.take k)).map Cc
 lt:ls.map Ex.st=(lsF [] (S.take k)).map Ex.st
 ty:∃ts:List Int,ts.length=ls.length/\Fu ts ls/\IE ts (S.drop k)
 gd:∀c∈ls,FM c
 len:X.length=k
 few:ls.length<=k
 pl:∀x∈X,∃s∈S,x.at'=s.at'
theorem SiP.zero (h:IE [] S):SiP S 0 [] []:=⟨by rw[List.take_zero];rfl,by rw[List.take_zero];rfl,⟨[],rfl,fun n c hc=>by simp at hc,by rw[List.drop_zero];exact h⟩,(fun c hc=>by cases hc),rfl,NLN,fun x hx=>by cases hx⟩
theorem Xm {ls a:List Ex}(h:ls.map Ex.st=a.map Ex.st)(o:Option Ex):(o.map (AG ls)).map Ex.st=(o.map (AG a)).map Ex.st:=by rw[<-Zm,<-Zm,h]
theorem SiP.next {k:Nat}{ls:List Ex}{X:List Sx}(h:SiP S k ls X)(j:k<S.length)(hg:GdX S):
  ∃ts:List Int,ts.length=ls.length/\Fu ts ls/\(∀e,S[k].cond=some e->FM e/\∃t,Al ts e=some t)/\(∀e,S[k].grant=some e->FM e/\∃t,Al ts e=some t)/\
  ∀c' g:Option Ex,c'.map Ex.st=(S[k].cond.map (AG ls)).map Ex.st->g.map Ex.st=(S[k].grant.map (AG ls)).map Ex.st->
   (S[k].kind≠1->SiP S (k+1) ls (X++[⟨S[k].at',S[k].kind,S[k].name,c',g⟩]))/\(S[k].kind=1->∃e',c'=some e'/\SiP S (k+1) (ls++[e']) (X++[⟨S[k].at',S[k].kind,S[k].name,c',g⟩])):=by
 obtain⟨ts,l,m,i⟩:=h.ty;have n:=hg _ (zH j);have r:=zH j;have o:S.take (k+1)=S.take k++[S[k]]:=zQ j;rw[z5 j]at i;generalize S[k]=x at*;have q:∀c' g:Option Ex,c'.map Ex.st=(x.cond.map (AG ls)).map Ex.st->g.map Ex.st=(x.grant.map (AG ls)).map Ex.st->(X++[(⟨x.at',x.kind,x.name,c',g⟩:Sx)]).map Cc=(Ce [] (S.take (k+1))).map Cc:=fun c' g h1 h2=>by
  rw[o,TJ,zR,zR,h.st]
  congr 1
  simp only[List.map_cons,List.map_nil,Cc,Ef,h1,h2,Xm h.lt]
 have pl:∀c' g:Option Ex,∀y∈X++[(⟨x.at',x.kind,x.name,c',g⟩:Sx)],∃s∈S,y.at'=s.at':=fun c' g y hy=>by
  rcases zN.1 hy with hy|hy
  ·exact h.pl y hy
  ·rw[zS.1 hy];exact⟨x,r,rfl⟩
 refine⟨ts,l,m,fun e he=>⟨(n.1 e he).1,?_⟩,fun e he=>⟨(n.2 e he).1,?_⟩,fun c' g h1 h2=>⟨fun hx=>?_,fun hx=>?_⟩⟩
 ·rcases i with⟨_,e',t,a,b,_⟩|⟨_,⟨e',a,b⟩,_⟩|⟨_,a,_⟩
  ·rw[a]at he;cases he;exact⟨t,b⟩
  ·rw[a]at he;cases he;exact⟨1,b⟩
  ·rw[a]at he;cases he
 ·rcases i with⟨_,e',t,_,_,a,_⟩|⟨_,_,a,_⟩|⟨_,_,a,_⟩
  ·rw[a]at he;cases he
  ·rw[he]at a;exact⟨4,a⟩
  ·rw[he]at a;exact⟨4,a⟩
 ·refine⟨q c' g h1 h2,?_,⟨ts,l,m,?_⟩,h.gd,by simp[h.len],Nat.le_succ_of_le h.few,pl c' g⟩
  ·rw[o,Rf,Pg,if_neg (show ¬ (Ef (lsF [] (S.take k)) x).kind=1 from hx)];exact h.lt
  ·rcases i with⟨a,_⟩|⟨_,_,_,a⟩|⟨_,_,_,a⟩
   ·exact absurd a hx
   ·exact a
   ·exact a
 ·rcases i with⟨_,e,t,a,b,d,f⟩|⟨a,_⟩|⟨a,_⟩
  ·rw[a]at h1;cases c' with
   |none=>cases h1
   |some e'=>
    have p:e'.st=(AG ls e).st:=Option.some.inj h1;refine⟨e',rfl,q (some e') g (by rw[a];exact h1) h2,?_,⟨ts++[t],by simp[l],m.snoc l.symm (by rw[Fb p];exact BP m e t b),f⟩,?_,by simp[h.len],by simp;exact h.few,pl _ g⟩
    ·rw[o,Rf,Pg,if_pos (show(Ef (lsF [] (S.take k)) x).kind=1 from hx),zR,zR,h.lt]
     congr 1
     have:=Xm h.lt (some e);simp only[Option.map_some,Option.some.injEq]at this;simp[Ef,a,p,this]
    ·intro c hc;rcases zN.1 hc with hc|hc
     ·exact h.gd c hc
     ·rw[zS.1 hc];exact FO p (Er h.gd e (n.1 e a).1)
  ·omega
  ·omega
theorem Ex.mem_kpt {S:Nat->Prop}{w w':Z}(k:Iq S w w')(hS:∀b,G b->¬ S b):∀(e:Ex),e.mem G w->e.mem G w'
 |.int ..,h=>h
 |.text ..,h=>h
 |.bool ..,h=>h
 |.set _ a n c ss,h=>⟨⟨h.1.len,h.1.cap,h.1.small,h.1.sizes,fun j d=>by
   obtain⟨b,m,i,l,hc⟩:=h.1.cells j d;have o:=h.2.2 _ i (Nat.lt_of_le_of_lt (zD _) d);exact⟨b,m,i,zE l k.size,by rw[<-hc];exact World.cell?_of_block (k.block b l (hS b o))⟩⟩,h.2⟩
 |.name ..,h=>h
 |.attr ..,h=>h
 |.lett ..,h=>h
 |.un _ _ e,h=>Ex.mem_kpt k hS e h
 |.bin _ _ e f,h=>⟨Ex.mem_kpt k hS e h.1,Ex.mem_kpt k hS f h.2⟩
 |.ite _ e f g,h=>⟨Ex.mem_kpt k hS e h.1,Ex.mem_kpt k hS f h.2.1,Ex.mem_kpt k hS g h.2.2⟩
def Zo (G:Nat->Prop) (w:Z) (o:Option Ex):Prop:=∀e,o=X e->e.mem G w
def Sa (G:Nat->Prop) (w:Z) (X:List Sx):Prop:=∀x∈X,Zo G w x.cond/\Zo G w x.grant
theorem Sa.map {G a:Nat->Prop}{X:List Sx}(h:Sa G w X)(f:∀e:Ex,e.mem G w->e.mem a w'):Sa a w' X:=fun x hx=>⟨fun e he=>f e ((h x hx).1 e he),fun e he=>f e ((h x hx).2 e he)⟩
theorem Sa.snoc {X:List Sx}(h:Sa G w X)(h1:Zo G w x.cond)(h2:Zo G w x.grant):Sa G w (X++[x]):=fun y hy=>by
 rcases zN.1 hy with hy|hy
 ·exact h y hy
 ·rw[zS.1 hy];exact⟨h1,h2⟩
theorem ER {B C m s t:Nat}{e:jJ}{u v:R}{b ys:List R}(h:w.ownsRow B d s u n b)(k:w.ownsRow C e t v m ys)(c:d≠e){q:Nat}(hq:u.ownBlock=X q):v.ownBlock≠X q:=fun hv=>by
 rcases h.2 with⟨h1,_⟩|⟨g,cap,j,h1,_,hg,_⟩
 ·rw[h1]at hq;cases hq
 ·rcases k.2 with⟨a,_⟩|⟨f,l,o,a,_,i,_⟩
  ·rw[a]at hv;cases hv
  ·rw[h1]at hq;rw[a]at hv;obtain rfl:g=q:=by simpa[ja]using hq
   obtain rfl:f=g:=by simpa[ja]using hv
   have:=hg.symm.trans i;simp at this;exact c this.2
theorem GQ.keep {c:R}{ops:List Int}{F:FuncId}{d:Array R}(h:GQ w zb c ops F d)(a:∀b,b<w.heap.size->b≠zb->w'.heap[b]? =w.heap[b]?):GQ w' zb c ops F d:=by
 obtain⟨f,g,i,tO,j,k,h0,h1,h2,h3,h4,h5,h6⟩:=h;exact⟨f,g,i,tO,j,k,h0,⟨(a f h1.lt h4).trans h1.out⟩,⟨(a g h2.lt h5).trans h2.out⟩,⟨(a i h3.lt h6).trans h3.out⟩,h4,h5,h6⟩
def OzE (w:Z) (zb rb:Nat):Prop:=∃f2 f3 f6 f7 f8 f9 f10 f11 f12 f13 f14 f15 f16 c2 c3 c13 c14,OzM w zb rb f2 f3 f6 f7 f8 f9 f10 f11 f12 f13 f14 f15 f16 c2 c3 c13 c14
theorem OzE.keep {w w':Z}{zb d:Nat}(h:OzE w zb d)(a:∀b,b<w.heap.size->b≠zb->w'.heap[b]? =w.heap[b]?):OzE w' zb d:=by
 obtain⟨f,g,i,j,k,l,m,n,o,p,q,r,s,c2,c3,u,v,h⟩:=h;have c:∀{b:Nat} {cs:Array Value} {t:jJ},Ag w b cs t->b≠zb->Ag w' b cs t:=fun R x=>⟨(a _ R.lt x).trans R.out⟩
 exact⟨f,g,i,j,k,l,m,n,o,p,q,r,s,c2,c3,u,v,⟨c h.row h.far,h.far,h.x2.keep a,c h.r2 h.n2,h.n2,h.x3.keep a,c h.r3 h.n3,h.n3,h.x6.keep a,h.x7.keep a,h.x8.keep a,h.x9.keep a,h.x10.keep a,h.x11.keep a,h.x12.keep a,h.x13.keep a,c h.r13 h.n13,h.n13,h.x14.keep a,c h.r14 h.n14,h.n14,h.x15.keep a,h.x16.keep a⟩⟩
def TN (zb:Nat) (la:Option jD) (v:R):Nat->Prop:=fun b=>b≠zb/\(Y la 0 0).ownBlock≠X b/\v.ownBlock≠X b
theorem IR (a:Option jD)(n c:Nat):(Y a n c).ownBlock=(Y a 0 0).ownBlock:=by cases a<;>rfl
structure Xn (w1 wr:Z) (zb rb:Nat) (la:Option jD) (lc:Nat) (ls:List Ex) (v:R) (X:List Sx):Prop where
 zrow:Ag wr zb #[Y (some ⟨rb,0,T⟩) 17 17,Y la ls.length lc] 114
 lets:wr.ownsRow w1.heap.size 106 1 (Y la ls.length lc) ls.length (ls.map Ex.val)
 outs:wr.ownsRow w1.heap.size 108 5 v X.length (GN X)
 keep:∀b,b<w1.heap.size->b≠zb->wr.heap[b]? =w1.heap[b]?
 low:zb<w1.heap.size
 size:w1.heap.size<=wr.heap.size
 lmem:∀c∈ls,c.mem (TN zb la v) wr
 xmem:Sa (TN zb la v) wr X
theorem Xn.below {d wr w':Z}{f:Nat}{g:Option jD}{i:Nat}{ls:List Ex}{X:List Sx}(h:Xn d wr zb f g i ls v X)(a:Below wr.heap.size wr w'):Xn d w' zb f g i ls v X:=
 ⟨h.zrow.after a NLN,An h.lets a NLN,An h.outs a NLN,fun b h1 h2=>(a.block b (zE h1 h.size)).trans (h.keep b h1 h2),h.low,zB h.size a.size,fun c hc=>c.mem_below a NLN (h.lmem c hc),h.xmem.map fun e he=>e.mem_below a NLN he⟩
theorem Xn.fresh {c:Z}{d:Nat}{f:Nat}{ls:List Ex}{X:List Sx}(h:Xn c w' zb d a f ls v X){b:Nat}(g:w'.heap.size<=b):TN zb a v b:=by
 refine⟨?_,fun e=>?_,fun e=>?_⟩
 ·have:=h.low;have:=h.size;omega
 ·have:=(h.lets.lt b (by rw[IR];exact e)).2;omega
 ·have:=(h.outs.lt b e).2;omega
theorem Xn.oz {i:Z}{a:Nat}{d:Option jD}{k:Nat}{ls:List Ex}{X:List Sx}(h:Xn i w' zb a d k ls v X)(m:OzE i zb a)(n:ls.length<=65535)(hp:∀b,b<w'.heap.size->TN zb d v b->G b):OzS G w' zb ls:=by
 refine⟨a,d,k,m.keep h.keep,⟨h.zrow,n,fun j f=>?_⟩⟩;obtain⟨x,c,e1,e2⟩:=Ae h.lets;cases e1;obtain⟨g,rfl,_,hc⟩:=e2 (Nat.lt_of_le_of_lt (zD _) f);have l:=hc j ls[j].val (by simp[f]);exact⟨g,0,rfl,World.block_lt_of_cell? w' _ l,by rw[zU];exact l,Ex.mem_le hp _ (h.lmem _ (zH f))⟩
theorem Xn.push {g d f:Z}{i:Nat}{ls:List Ex}{X:List Sx}{e:Ex}(h:Xn g d zb j a i ls v X)(he:e.mem (TN zb a v) d)
  (O:f.ownsRow g.heap.size 106 1 (Y (some ⟨g7,0,T⟩) (ls.length+1) c7) (ls.length+1) (ls.map Ex.val++[e.val]))(hg:(d.alloc o).grownBy f (Y a ls.length i).ownBlock)(hat:(Y a ls.length i).ownBlock=some g7\/g7=d.heap.size+1):
  Xn g (f.setCell ⟨zb,1,T⟩ (Y (some ⟨g7,0,T⟩) (ls.length+1) c7)) zb j (some ⟨g7,0,T⟩) c7 (ls++[e]) v X/\Ag f zb #[Y (some ⟨j,0,T⟩) 17 17,Y a ls.length i] 114/\g.heap.size<=g7/\
  Iq (fun b=>b=zb\/(Y a 0 0).ownBlock=some b) d (f.setCell ⟨zb,1,T⟩ (Y (some ⟨g7,0,T⟩) (ls.length+1) c7))/\
  ∀e:Ex,e.mem (TN zb a v) d->e.mem (TN zb (some ⟨g7,0,T⟩) v) (f.setCell ⟨zb,1,T⟩ (Y (some ⟨g7,0,T⟩) (ls.length+1) c7)):=by
 have A:=Av d o;rw[IR]at hg hat;have m:∀q,(Y a 0 0).ownBlock=some q->g.heap.size<=q/\q<d.heap.size:=fun q hq=>h.lets.lt q (by rw[IR];exact hq);have u:(Y a 0 0).ownBlock≠some zb:=fun e=>by have:=m _ e;have:=h.low;omega
 have w:g.heap.size<=g7:=by rcases hat with q|q;exact(m _ q).1;have:=h.size;omega
 have x:g7≠zb:=by have:=h.low;omega
 have r:Ag f zb #[Y (some ⟨j,0,T⟩) 17 17,Y a ls.length i] 114:=G8 (h.zrow.after A NLN) hg (fun e=>u e.symm);have y:Iq (fun b=>b=zb\/(Y a 0 0).ownBlock=some b) d f:=⟨hg.os,hg.tape,hg.output,zB A.size hg.size,fun k s hS=>(hg.block k (zE s A.size) (fun e=>hS (.inr e.symm))).trans (A.block k s)⟩
 have K:=y.setCell (p:=⟨zb,1,T⟩) (fun _=> .inl rfl) (Y (some ⟨g7,0,T⟩) (ls.length+1) c7);have l:∀e:Ex,e.mem (TN zb a v) d->e.mem (TN zb (some ⟨g7,0,T⟩) v) (f.setCell ⟨zb,1,T⟩ (Y (some ⟨g7,0,T⟩) (ls.length+1) c7)):=fun e he=>by
  have z:e.mem (fun b=>TN zb a v b/\b≠g7) d:=Ex.mem_le (fun b n hs=>⟨hs,fun B=>by
   rcases hat with q|q
   ·exact hs.2.1 (by rw[B];exact q)
   ·omega⟩) e he
  exact Ex.mem_le (fun b _ hs=>⟨hs.1.1,fun e=>hs.2 (by simpa[ja]using e.symm),hs.1.2.2⟩) e (Ex.mem_kpt K (fun b hs hS=>hS.elim hs.1.1 hs.1.2.1) e z)
 refine⟨⟨?_,?_,?_,?_,h.low,?_,?_,?_⟩,r,w,K,l⟩
 ·rw[zC];exact r.set 1 _
 ·rw[zC,zR];exact AW O ⟨zb,1,T⟩ _ (fun q hq=>by simp[ja]at hq;subst hq;exact x)
 ·exact Ak h.outs (fun q hq=>K.block q (h.outs.lt q hq).2 (fun hS=>by
   rcases hS with hS|hS
   ·have:=(h.outs.lt q hq).1;have:=h.low;omega
   ·exact ER h.outs h.lets (by decide) hq (by rw[IR];exact hS)))
 ·intro b n t;refine(K.block b (zE n h.size) (fun hS=>?_)).trans (h.keep b n t);rcases hS with hS|hS
  ·exact t hS
  ·have:=m _ hS;omega
 ·exact zB h.size K.size
 ·intro c hc;rcases zN.1 hc with hc|hc
  ·exact l c (h.lmem c hc)
  ·rw[zS.1 hc];exact l e he
 ·exact h.xmem.map l
theorem Xn.out {g a f:Z}{m:Nat}{d:Option jD}{ls:List Ex}{X:List Sx}(h:Xn g a zb m d n ls v X)(h1:Zo (TN zb d v) a x.cond)(h2:Zo (TN zb d v) a x.grant)
  (O:f.ownsRow g.heap.size 108 5 (Y (some ⟨g7,0,T⟩) (X.length+1) c7) (X.length+1) (GN X++Gm x))(hg:(a.alloc o).grownBy f v.ownBlock)(hat:v.ownBlock=some g7\/g7=a.heap.size+1):
  Xn g f zb m d n ls (Y (some ⟨g7,0,T⟩) (X.length+1) c7) (X++[x])/\g.heap.size<=g7/\Iq (fun b=>v.ownBlock=some b) a f:=by
 have A:=Av a o;have j:=h.outs.lt;have r:g.heap.size<=g7:=by rcases hat with q|q;exact(j _ q).1;have:=h.size;omega
 have s:v.ownBlock≠some zb:=fun e=>by have:=j _ e;have:=h.low;omega
 have K:Iq (fun b=>v.ownBlock=some b) a f:=⟨hg.os,hg.tape,hg.output,zB A.size hg.size,fun k p hS=>(hg.block k (zE p A.size) (fun e=>hS e.symm)).trans (A.block k p)⟩
 have i:∀e:Ex,e.mem (TN zb d v) a->e.mem (TN zb d (Y (some ⟨g7,0,T⟩) (X.length+1) c7)) f:=fun e he=>by
  have t:e.mem (fun b=>TN zb d v b/\b≠g7) a:=Ex.mem_le (fun b l hs=>⟨hs,fun u=>by
   rcases hat with q|q
   ·exact hs.2.2 (by rw[u];exact q)
   ·omega⟩) e he
  exact Ex.mem_le (fun b _ hs=>⟨hs.1.1,hs.1.2.1,fun e=>hs.2 (by simpa[ja]using e.symm)⟩) e (Ex.mem_kpt K (fun b hs hS=>hs.1.2.2 hS) e t)
 refine⟨⟨h.zrow.kpt K s,?_,?_,?_,h.low,zB h.size K.size,fun c hc=>i c (h.lmem c hc),(h.xmem.map i).snoc (fun e he=>i e (h1 e he)) (fun e he=>i e (h2 e he))⟩,r,K⟩
 ·exact Ak h.lets (fun q hq=>K.block q (h.lets.lt q hq).2 (fun hS=>ER h.lets h.outs (by decide) hq hS))
 ·rw[zC,show GN (X++[x])=GN X++Gm x by rw[GN,yE];simp[GN]];exact O
 ·intro b l w;refine(K.block b (zE l h.size) (fun hS=>?_)).trans (h.keep b l w);have:=j _ hS;omega
end
section
variable {aS aO aZ aW : jD}
theorem Zp:(j4.info? 108).map (fun i=>(i.zero,i.size,i.bytes))=X (X (jG #[U V 0,U V 0,Q ByteArray.empty,jL,jL]),5,64):=by kernel_rfl
theorem TO {S:Nat->Prop}{a b:Z}{B:Nat}(h:Iq S a b)(hS:∀q,S q->B<=q)(hB:B<=a.heap.size):Below B a b:=
 ⟨h.os,h.tape,h.output,h.size,fun k c=>h.block k (zE c hB) (fun s=>by have:=hS k s;omega)⟩
theorem Fc (o:Option Ex):oV o=jL\/∃t u,oV o=jB t u:=Bi o
theorem Mw {f:Ex->Ex}{o p:Option Ex}(h:o.map Ex.st=(p.map f).map Ex.st):oV o=jL↔AH p=jL:=by
 have no:∀e:Ex,e.val≠jL:=fun e h=>by obtain⟨t,u,q⟩:=e.form;rw[q]at h;cases h
 cases o with
 |none=>cases p with
  |none=>exact⟨fun _=>rfl,fun _=>rfl⟩
  |some e=>cases h
 |some e=>cases p with
  |none=>cases h
  |some d=>exact⟨fun q=>absurd q (no e),fun q=>absurd q (no d)⟩
theorem Ln {b:Z}{B:Nat}{X:List Sx}{o:Oper}{a:Act}{d:Exit->Act->Z->Prop}(l:o.guard=T)(s y:Operand)
  (m:o.op= .call { callee:= .builtin .append,args:=#[s,y],argTypes:=#[64,64] })(O:b.ownsRow B 108 5 v X.length (GN X))(hB:B<=b.heap.size)(hc:AH x.cond=f)(hg:AH x.grant=i)(hs:a.eval s=v)(n:b.heap.size=j)(hy:a.eval y=Y (some ⟨j,0,T⟩) 1 1)(C:X.length<=65535)
  (h:∀g c w' o',w'.ownsRow B 108 5 (Y (some ⟨g,0,T⟩) (X.length+1) c) (X.length+1) (GN X++Gm x)->(b.alloc o').grownBy w' v.ownBlock->(v.ownBlock=some g\/g=b.heap.size+1)->wpList j4 ops d rest (a.put o.dst (Y (some ⟨g,0,T⟩) (X.length+1) c)) w'):
  wpList j4 ops d (o ::rest) a (b.alloc (jF #[U V x.at',U V x.kind,Q x.name,f,i] 108)):=by
 subst hc hg n;obtain⟨p,r,t,w,z⟩:=info_parts Zp;refine wpList_append_lies _ l s y 64 m B 108 p _ 5 64 underlying64 r t w z rfl (by decide) v X.length (GN X) hs (World.ownsRow.alloc O _) ⟨b.heap.size,0,T⟩ 1 1 (Gm x) hy rfl (World.news_of_block (heap_alloc_new b _)) ?_ (by decide) (by unfold maxLen;omega) (by omega) (by simp;omega) (b.heap.size+1) (by simp) fun g c w' O A hat _=>h g c w' _ O A hat;intro u k;simp only[Gm,zP,List.not_mem_nil,or_false]at k;rcases k with rfl|rfl|rfl|rfl|rfl<;>first|rfl|(rcases Bi _ with q|⟨_,_,q⟩<;>rw[q]<;>rfl)
theorem Zq {i d:Z}{k:Nat}{f:Option jD}{ls:List Ex}{X:List Sx}{o:Oper}{a:Act}{m n:R}{p:Nat}(q:o.guard=T)(s y:Operand)
  (r:o.op= .call { callee:= .builtin .append,args:=#[s,y],argTypes:=#[64,64] })(M:Xn i d zb j f k ls v X)(hc:AH x.cond=m)(hg:AH x.grant=n)(hs:a.eval s=v)(t:d.heap.size=p)(hy:a.eval y=Y (some ⟨p,0,T⟩) 1 1)(h1:Zo (TN zb f v) d x.cond)(h2:Zo (TN zb f v) d x.grant)(u:X.length<=65535)
  (h:∀g c w',Xn i w' zb j f k ls (Y (some ⟨g,0,T⟩) (X.length+1) c) (X++[x])->Iq (fun b=>v.ownBlock=some b) d w'->wpList j4 ops l rest (a.put o.dst (Y (some ⟨g,0,T⟩) (X.length+1) c)) w'):
  wpList j4 ops l (o ::rest) a (d.alloc (jF #[U V x.at',U V x.kind,Q x.name,m,n] 108)):=
 Ln q s y r M.outs M.size hc hg hs t hy u fun g c w' _ O w hat=>by
  obtain⟨z,_,A⟩:=M.out h1 h2 O w hat;exact h g c w' z A
theorem ND (S:List Sx)(m g c:Nat)(w:Z)(hm:S.length=m)(bN:m<=65535)(h:Yt w g S)(hg:GdX S)(aQ:IE [] S)(hx:Sa TT w S)(hS:CZ w aS aO aZ aW):
  jE j4 25 #[Y (some ⟨g,0,T⟩) m c] w fun ai w'=>∃v X,ai= .returned v/\w'.ownsRow w.heap.size 108 5 v X.length (GN X)/\X.map Cc=(Ce [] S).map Cc/\Sa TT w' X/\(∀x∈X,∃s∈S,x.at'=s.at')/\Below w.heap.size w w':=by
 obtain⟨bi,bj,bk,bl,bm⟩:=info_parts Afb;have aR:=Ab hm;have bn:=Ab h;have bo:=Ab hg;have aj:=Ab (show Sa (fun b=>b<w.heap.size) w S from hx.map fun e he=>Ex.mem_le (fun b n _=>n) e he);have bp:=Ab hS;have bq:=Ab aQ;clear hm h hg hx hS aQ;go_enter func25,ntmps25
 go_wp2_with fail
 refine(NC _).mono ?_;rintro ai z ⟨zb,ad,aT,rfl,ak,bO,al⟩;have br:=Ab (show OzE z zb ad from aT);have bs:=ak.lt;have bt:=al.size;have aU:Xn z z zb ad T 0 [] (Y T 0 0) []:=⟨ak,jX _ _ _ _,jX _ _ _ _,fun _ _ _=>rfl,bs,NLN,(fun c hc=>by cases hc),(fun c hc=>by cases hc)⟩
 have aV:=Ab aU;clear ak aU aT;dsimp only;go_wp2_with fail
 go_loopw [10,4] (fun i o wr=>∃k:Nat,k<=m/\i=U V k/\(∃p K ls X,SiP S k ls X/\Xn z wr zb ad p K ls o X/\True)/\Below w.heap.size w wr) (fun i _ _=>m-(intOf i).toNat)
 case atStart=>exact⟨0,by omega,rfl,⟨T,0,[],[],SiP.zero (Aa bq),Aa aV,trivial⟩,al⟩
 case round=>
  obtain⟨k,bP,rfl,⟨p,K,ls,X,aX,M,_⟩,A⟩:=hrel;have C:=Ab aX;clear aX aV al;by_cases ae:k<m
  ·have bQ:(k:Int)<(m:Int):=by omega
   have af:k<S.length:=by rw[Aa aR];exact ae
   have aY:=(Aa bn).below A;obtain⟨ao,c1,c2,c3,c4⟩:=aY.at k af;obtain⟨ts,a0,a1,N,O,l⟩:=(Aa C).next af (Aa bo);have P:=Aa aj _ (zH af);have a2:=Ab ae;have bR:=M.size;generalize S[k]=x at ao c1 c2 c3 c4 N O l P;obtain⟨W,L,aa,D,E⟩:=x;simp only at ao c1 c2 c3 c4 N O l P;have r:=Ab l;clear ae af aY l;have ab:=Ag.new wr #[U V W,U V L,Q aa,AH D,AH E] 108;have t:=Av wr (jF #[U V W,U V L,Q aa,AH D,AH E] 108);have ap:∀b,b<w.heap.size->b≠wr.heap.size/\TN zb p u4 b:=fun b n=>⟨by omega,by omega,fun e=>by have:=(M.lets.lt b (by rw[IR];exact e)).1;omega,fun e=>by have:=(M.outs.lt b e).1;omega⟩
   have F:=Zk (G:=fun b=>b≠wr.heap.size/\TN zb p u4 b) (aS:=aS) (aO:=aO) (aZ:=aZ) (aW:=aW) (zb:=zb) (ls:=ls)
    ((M.oz (G:=fun b=>b≠wr.heap.size/\TN zb p u4 b) (Aa br) (by have:=(Aa C).few;omega) (fun b n hs=>⟨by omega,hs⟩)).below t) (fun b n=>by rw[World.size_alloc]at n;exact⟨by omega,M.fresh (by omega)⟩) (((Aa bp).below A NLN).below t NLN) ts a0 a1 (Aa C).gd ⟨W,L,aa,D,E⟩
    (fun e he=>⟨(N e he).1,(N e he).2,e.mem_below t NLN (e.mem_below A NLN (Ex.mem_le (fun b _ n=>ap b n) e (P.1 e he)))⟩)
    (fun e he=>⟨(O e he).1,(O e he).2,e.mem_below t NLN (e.mem_below A NLN (Ex.mem_le (fun b _ n=>ap b n) e (P.2 e he)))⟩)
   dsimp only at F;clear ap P N O a1 ts a0;have e3:=Bi D;have e4:=Bi E;have aq:=fun c'=>@Mw (AG ls) c' D;have ar:=fun c'=>@Mw (AG ls) c' E;generalize D.map (AG ls)=bS at F r aq;generalize E.map (AG ls)=bT at F r ar;have au:=Ab aq;have av:=Ab ar;clear aq ar;generalize AH D=bU at ab t F e3 c3 au;generalize AH E=bV at ab t F e4 c4 av;rcases e3 with rfl|⟨bW,bX,rfl⟩<;>rcases e4 with rfl|⟨bY,bZ,rfl⟩
   all_goals
    have a3:=Ab F;clear F;obtain⟨bu,bv,bw,bx,bz,_⟩:=AP ab;go_wp2_with fail
    refine(Aa a3).mono ?_;rintro ai bA ⟨⟨b0,b2,rfl,⟨c',rfl,aw,a4⟩,⟨H,rfl,ax,a5⟩⟩,ay⟩;have az:=(Aa au) c' aw;have aA:=(Aa av) H ax;have ac:=Ab (Aa r c' H aw ax);have ag:=ab.after ay NLN;have e5:=Fc c';have e6:=Fc H;obtain⟨y,aB,aC⟩:=AjD ag (t.trans (ay.mono t.size)) (U V W) (U V L) (Q aa) (oV c') (oV H);have a:=M.below aB;have d:=A.trans (aB.mono A.size);have f:=Ab (And.intro (fun e he=>aC e (a4 e he)) (fun e he=>aC e (a5 e he)));clear a3 au av aw a4 ax a5 ay r M ao c1 c2 c3 c4 bu bv bw bx bz ab t aC aB;have r:=Ab (show AH c'=oV c' from rfl);have a6:=Ab (show AH H=oV H from rfl);simp only[s5]at y a d f;generalize oV c'=b3 at r e5 az y a d f|-;generalize oV H=b4 at a6 e6 aA y a d f|-;have b5:=fun j=>ag.frozen j;obtain⟨b6,b7,b8,b9,ca,_⟩:=AP ag;obtain⟨aD,aE,r2,r3,aF,_⟩:=AP y;clear ag;rcases e5 with rfl|⟨l,u5,rfl⟩<;>rcases e6 with rfl|⟨cb,u6,rfl⟩<;>first|(simp at az;done)|(simp at aA;done)|skip
   all_goals
    clear az aA;by_cases hx:L=1
    case' pos=>
     first
      |obtain⟨e',bB,_⟩:=(Aa ac).2 hx
       obtain⟨cc,cd,hf'⟩:=e'.form;have h5:=Aa r;rw[bB,show AH (some e')=_ from hf']at h5;cases h5
       done
      |subst hx
       obtain⟨e',rfl,a7⟩:=(Aa ac).2 rfl;have a8:=Ab a7;clear a7 ac;dsimp only;go_wp2_with fail
       generalize ((((bA.setCell _ _).setCell _ _).setCell _ _).setCell _ _).setCell _ _=I at y a d f aD aE r2 r3 aF|-;have aG:=Ab y;have aH:Below I.heap.size I I.drew:=BRN.drew;obtain⟨m0,bC⟩:=CD a.zrow;have a9:=a.below aH;obtain⟨bD,d1⟩:=CD a9.zrow;obtain⟨k0,bE,bF,bG,bH,_⟩:=AP (y.after aH NLN);have ce:=(Aa C).few;have cf:=a.size;have cg:=a.zrow.lt;have ba:(I.alloc (jF #[jB l u5] 106)).drew.ownsRow z.heap.size 106 1 (Y p ls.length K) ls.length (ls.map Ex.val):=(a.lets.alloc _).drew;clear y;go_region_law (refine step_append_lies _ rfl _ _ 111 rfl z.heap.size 106 bi jL 1 16 underlying111 bj bk bl bm rfl (by decide) (Y p ls.length K) ls.length (ls.map Ex.val) rfl ba ⟨I.heap.size,0,T⟩ 1 1 [jB l u5] rfl rfl (A5 I _ _ _ rfl) (by intro u bb;simp at bb;subst bb;rfl) (by decide) (by unfold maxLen;omega) (by omega) (by simp;omega) _ rfl ?_;intro b1 c1 ah bc J hat ch;have aI:Ag ah zb #[Y (some ⟨ad,0,T⟩) 17 17,Y p ls.length K] 114:=⟨(J.block zb (by simp;omega) (fun e=>Ac a.zrow a.lets (by decide) e.symm)).trans (a.zrow.alloc (jF #[jB l u5] 106)).out⟩;have bI:=aI.cell 1;have bJ:=aI.frozen 1)
       all_goals
        have bd:(I.alloc (jF #[jB l u5] 106)).grownBy ah (Y p ls.length K).ownBlock:=⟨J.os,J.tape,J.output,J.size,J.block⟩
        have bf:ah.ownsRow z.heap.size 106 1 (Y (some ⟨b1,0,T⟩) (ls.length+1) c1) (ls.length+1) (ls.map Ex.val++[e'.val]):=by rw[show e'.val=jB l u5 from Aa r];exact bc
        obtain⟨aJ,_,ci,aK,aL⟩:=a.push (e:=e') ((Aa f).1 e' rfl) bf bd (hat.imp id (fun e=>by rw[e];show(I.alloc _).heap.size=_;simp));have aM:=(Aa aG).kpt aK (fun h=>by
         rcases h with h|h
         ·have:=a.low;omega
         ·exact Ac (Aa aG) a.lets (by decide) (by rw[IR];exact h))
        have aN:=Ab (And.intro (fun e he=>aL e ((Aa f).1 e he)) (fun e he=>aL e ((Aa f).2 e he)));have aP:=d.trans (TO aK (B:=w.heap.size) (fun q hq=>by
         rcases hq with hq|hq
         ·omega
         ·have:=(a.lets.lt q (by rw[IR];exact hq)).1;omega) d.size)
        clear J bd hat bc bf ba aI aK aL bI bJ a9 a d f bD d1 k0 bE bF bG bH m0 bC aD aE r2 r3 aF aG aH;generalize ah.setCell ⟨zb,1,T⟩ (Y (some ⟨b1,0,T⟩) (ls.length+1) c1)=cj at aJ aM aN aP|-;obtain⟨aD,aE,r2,r3,aF,_⟩:=AP aM;have a:=aJ;have d:=aP;have f:=aN;clear aJ aP aN aM
    case' neg=>
     have e1:(L==1)=false:=zA.2 hx;have a8:=Ab ((Aa ac).1 hx);clear ac hx;dsimp only
    all_goals
     go_wp2_with (at_builtin;refine Zq (x:=⟨W,_,aa,_,_⟩) rfl _ _ rfl a (Aa r) (Aa a6) rfl (by first|(simp;done)|rfl) rfl (Aa f).1 (Aa f).2 (by have:=(Aa C).len;omega) ?_)
     intro g7 ck cl bg bh;have bK:=d.trans (TO bh (B:=w.heap.size) (fun q hq=>by have:=(a.outs.lt q hq).1;omega) d.size);have bL:=Ab bg;clear bh a bg d;go_wp2_with fail
     go_roundw
     case rel=>exact⟨k+1,Aa a2,by go_num,⟨_,_,_,_,Aa a8,by have:=Aa bL;simpa using this,trivial⟩,bK⟩
     case measure=>have:=Aa a2;simp[intOf];omega
  ·have bM:k=m:=by omega
   have aj:=Ab (show S.take k=S from zY (by rw[Aa aR];omega));subst bM;clear ae;go_wp2_with fail
   go_ret
   exact⟨u4,X,rfl,World.ownsRow.mono M.outs bt,by rw[(Aa C).st,Aa aj],M.xmem.map fun e he=>Ex.mem_le (fun _ _ _=>trivial) e he,(Aa C).pl,A⟩
end
theorem Mx (X:List Sx)(x:Sx):GN (X++[x])=GN X++Gm x:=by rw[GN,yE];simp[GN]
theorem Lo (X:List Sx)(m g c:Nat)(w:Z)(hm:X.length=m)(ay:m<=65535)(h:Yt w g X)(h2:∀x∈X,x.kind=2->∃e,x.cond=some e):
  jE j4 30 #[Y (some ⟨g,0,T⟩) m c] w fun W w'=>∃v,W= .returned v/\w'.ownsRow w.heap.size 108 5 v (Bb X).length (GN (Bb X))/\Below w.heap.size w w':=by
 have af:=Ab hm;have ao:=Ab h;have ap:=Ab h2;clear hm h h2;go_enter func30,ntmps30
 go_wp2_with fail
 go_loopw [8,3] (fun i o wr=>∃k:Nat,k<=m/\i=U V k/\(∃d:List Sx,wr.ownsRow w.heap.size 108 5 o d.length (GN d)/\d++Bb (X.drop k)=Bb X/\d.length<=k)/\Below w.heap.size w wr) (fun i _ _=>m-(intOf i).toNat)
 case atStart=>exact⟨0,by omega,rfl,⟨[],jX _ _ _ _,by simp,NLN⟩,BRN⟩
 case round=>
  obtain⟨k,az,rfl,⟨d,ag,ah,ai⟩,B⟩:=hrel;have t:=Ab (And.intro ah ai);clear ah ai;by_cases C:k<m
  ·have aA:(k:Int)<(m:Int):=by omega
   have D:k<X.length:=by rw[Aa af];exact C
   have aj:=(Aa ao).below B;obtain⟨ak,c1,c2,c3,c4⟩:=aj.at k D;have E:=Aa ap _ (zH D);have F:=Ab C;have u:=Ab (show d++Bb (X[k] ::X.drop (k+1))=Bb X by rw[<-z5 D];exact(Aa t).1);generalize X[k]=x at ak c1 c2 c3 c4 E u;obtain⟨p,r,y,f,j⟩:=x;simp only at ak c1 c2 c3 c4 E;clear C D aj;have aa:=Ab (fun (h:r=2) b ab=>show jE j4 68 #[AH f,.bool b] ab (AJ (Ia b f) ab) by obtain⟨e,rfl⟩:=E h;exact Dp e b ab);have e3:=Bi f;have e4:=Bi j;have l:=Ag.new wr #[U V p,U V r,Q y,AH f,AH j] 108;have G:=Av wr (jF #[U V p,U V r,Q y,AH f,AH j] 108);generalize h3:AH f=aB at e3 c3 aa l G;generalize h4:AH j=aC at e4 c4 l G;have aq:=Ab h3;have al:=Ab h4;clear E h3 h4;rcases e3 with rfl|⟨aD,aE,rfl⟩<;>rcases e4 with rfl|⟨aF,aG,rfl⟩
   all_goals
    obtain⟨H,I,J,K,L,_⟩:=AP l;have n:=An ag G NLN;have a:=B.trans (G.mono B.size);by_cases hx:r=2
    case' pos=>
     subst hx;have hv:=Ab (Aa aa rfl);clear aa;go_wp2_with fail
     refine(Aa hv false _).mono ?_;rintro W aH ⟨rfl,M⟩;replace l:=l.after M NLN;replace n:=An n M NLN;replace a:=a.trans (M.mono a.size);clear M H I J K L;obtain⟨H,I,J,K,L,_⟩:=AP l;have ar:=(Aa t).2;dsimp only;cases N:Ia false f
     case true=>
      have s:=Ab (show d++Bb (X.drop (k+1))=Bb X by have:=Aa u;rw[Bb,if_pos ⟨rfl,N⟩]at this;exact this);go_wp2_with fail
      go_roundw
      case rel=>exact⟨k+1,Aa F,by go_num,⟨d,n,Aa s,by omega⟩,a⟩
      case measure=>have:=Aa F;simp[intOf];omega
     go_wp2_with fail
     refine(Aa hv true _).mono ?_;rintro W aI ⟨rfl,O⟩;replace l:=l.after O NLN;replace n:=An n O NLN;replace a:=a.trans (O.mono a.size);clear O H I J K L;obtain⟨H,I,J,K,L,_⟩:=AP l;dsimp only;have P:∀{q:Prop},¬ (q/\Ia false f=true):=fun h=>by rw[N]at h;cases h.2
     cases S:Ia true f
     case true=>
      have s:=Ab (show d++[(⟨p,3,⟨#[]⟩,T,j⟩:Sx)]=Bb X by have:=Aa u;rw[Bb,if_neg P,if_pos ⟨rfl,S⟩]at this;exact this);clear P N S;go_wp2_with (at_builtin;refine Ln (x:=⟨p,3,⟨#[]⟩,T,j⟩) rfl _ _ rfl n a.size rfl (Aa al) rfl rfl rfl (by omega) ?_)
      intro g7 au av ac z A _;have ad:=(a.alloc a.size ac).grown A (by have:=a.size;simp;omega) (fun q hq=>(n.lt q hq).1);have ae:=Ab z;clear A z;go_wp2_with fail
      go_ret
      exact⟨_,rfl,by rw[<-Aa s,Mx,zC];exact Aa ae,ad⟩
     have s:=Ab (show d++[(⟨p,2,y,f,j⟩:Sx)]++Bb (X.drop (k+1))=Bb X by have:=Aa u;rw[Bb,if_neg P,if_neg (fun h=>by rw[S]at h;cases h.2)]at this;rw[zT];exact this);clear P N S ar
    case' neg=>
     have e1:(r==2)=false:=zA.2 hx;have s:=Ab (show d++[(⟨p,r,y,f,j⟩:Sx)]++Bb (X.drop (k+1))=Bb X by have:=Aa u;rw[Bb,if_neg (fun h=>hx h.1),if_neg (fun h=>hx h.1)]at this;rw[zT];exact this);clear hx
    all_goals
     go_wp2_with (at_builtin;refine Ln (x:=⟨p,_,y,f,j⟩) rfl _ _ rfl n a.size (Aa aq) (Aa al) rfl (by first|rfl|simp) rfl (by have:=(Aa t).2;omega) ?_)
     intro g7 au av ac z A _;have ad:=(a.alloc a.size ac).grown A (by have:=a.size;simp at this|-;omega) (fun q hq=>(n.lt q hq).1);have ae:=Ab z;clear A z;go_wp2_with fail
     go_roundw
     case rel=>exact⟨k+1,Aa F,by go_num,⟨d++[_],by rw[Mx,zC];exact Aa ae,Aa s,by have:=(Aa t).2;simp;omega⟩,ad⟩
     case measure=>have:=Aa F;simp[intOf];omega
  ·have aw:k=m:=by omega
   have ax:=Ab (show d=Bb X by have:=(Aa t).1;rw[List.drop_of_length_le (by rw[Aa af];omega)]at this;simpa[Bb]using this);subst aw;clear C;go_wp2_with fail
   go_ret
   exact⟨u3,rfl,by rw[<-Aa ax];exact ag,B⟩
section
variable {G : Nat -> Prop}
def IS (w:Z) (mb:Nat) (zs:List Int):Prop:=∃ (es:Array MapEntry) (cl:Nat),w.heap[mb]? =X (.map es cl)/\es.size=zs.length/\∀j,(h:j<zs.length)->∃e,es[j]? =X e/\e.key=U V zs[j]/\e.val=U V j
theorem IS.keep {a:Nat}(h:IS w a b)(c:w'.heap[a]? =w.heap[a]?):IS w' a b:=by
 obtain⟨d,cl,h1,h2⟩:=h;exact⟨d,cl,c.trans h1,h2⟩
theorem IS.lt {a:Nat}(h:IS w a b):a<w.heap.size:=by
 obtain⟨c,cl,h1,_⟩:=h;exact(z4.1 h1).1
theorem IS.below {a:Nat}(h:IS w a b)(c:Below w.heap.size w w'):IS w' a b:=h.keep (c.block a h.lt)
theorem TP {b:Array MapEntry}{a:List Int}(f:b.size=a.length)(h:∀j,(h:j<a.length)->∃e,b[j]? =X e/\e.key=U V a[j]/\e.val=U V j):∀x∈b.toList,∃ (j:Nat) (c:j<a.length),x.key=U V a[j]/\x.val=U V j:=fun x hx=>by
 obtain⟨j,c,rfl⟩:=zy hx;have d:j<a.length:=by simpa[f]using c
 obtain⟨e,e1,e2,e3⟩:=h j d;have:b.toList[j]=e:=by
  have:=e1;rw[<-yK,zG c]at this;exact Option.some.inj this
 rw[this];exact⟨j,d,e2,e3⟩
theorem Acx (w:Z)(f:Nat)(a:List Int)(n:Int)(h:IS w f a)(l:a.Nodup)(hm:n∈a):
  (Instr.lookup 175 (.map (X f)) (U V n) false).run j4 w= .ok (U V (ixL a n)) w:=by
 obtain⟨g,cl,h1,h2,h3⟩:=h;have he:=TP h2 h3;have m:∀x∈g.toList,MapKept.IsKey (.int V) x.key:=fun x hx=>by
  obtain⟨j,i,e,_⟩:=he x hx;rw[e];rfl
 rcases MapKept.findNow_spec (d:= .int V) (k:= U V n) rfl g.toList 0 m with⟨b,c⟩|⟨j,e,b,c,o⟩
 ·obtain⟨j,i,rfl⟩:=zy hm;obtain⟨e,e1,e2,_⟩:=h3 j i;exact absurd e2 (c e (by rw[<-yK]at e1;exact zp e1))
 ·obtain⟨k,p,e2,e3⟩:=he e (zp c);rw[o]at e2;have en:n=a[k]:=by cases e2;rfl
  have q:ixL a n=(k:Nat):=by
   have:a.idxOf n=k:=by rw[en];exact l.idxOf_getElem k p
   rw[ixL,this]
  rw[e3]at b;rw[q];simp[Instr.lookup,jl underlying175,MapKept.run_getObj_map h1,MapKept.run_checkKey underlying2 (k:= U V n) rfl,MapKept.run_findKey underlying2 b]
theorem Afc (w:Z)(b:Nat)(a:List Int)(n:Int)(h:IS w b a)(hf:n ∉ a):
  ∃w',(Instr.mapUpdate 175 (.map (X b)) (U V n) (U V (a.length:Nat))).run j4 w= .ok () w'/\IS w' b (a++[n])/\(∀k,k≠b->w'.heap[k]? =w.heap[k]?)/\w'.heap.size=w.heap.size/\∀B,B<=b->Below B w w':=by
 obtain⟨c,cl,h1,h2,h3⟩:=h;have he:=TP h2 h3;have f:∀x∈c.toList,MapKept.IsKey (.int V) x.key:=fun x hx=>by
  obtain⟨j,g,e,_⟩:=he x hx;rw[e];rfl
 rcases MapKept.findNow_spec (d:= .int V) (k:= U V n) rfl c.toList 0 f with⟨i,l⟩|⟨j,e,i,l,o⟩
 ·obtain⟨g1,g2⟩:=MapKept.heap_set (o':= .map (c.push ⟨U V n,U V (a.length:Nat),cl⟩) (cl+1)) h1;refine⟨{ w with heap:=w.heap.setIfInBounds b (.map (c.push ⟨U V n,U V (a.length:Nat),cl⟩) (cl+1)) },?_,⟨_,_,g1,by simp[h2],fun j g=>?_⟩,g2,by simp,fun B hB=>⟨rfl,rfl,rfl,by simp,fun k f=>g2 k (by omega)⟩⟩
  ·simp[Instr.mapUpdate,jl underlying175,MapKept.run_getObj_map h1,MapKept.run_checkKey underlying2 (k:= U V n) rfl,MapKept.run_findKey underlying2 i,MapKept.run_setObj_map _ h1]
  ·by_cases m:j<a.length
   ·obtain⟨e,e1,e2,e3⟩:=h3 j m;exact⟨e,by rw[Array.getElem?_push_lt (by omega),<-e1,Array.getElem?_eq_getElem (by omega)],by rw[zo m];exact e2,e3⟩
   ·have p:j=a.length:=by simp at g;omega
    subst p;refine⟨⟨U V n,U V (a.length:Nat),cl⟩,by rw[show a.length=c.size from h2.symm];exact Array.getElem?_push_size,?_,rfl⟩;rw[yH NLN];simp
 ·exfalso;obtain⟨k,q,e2,_⟩:=he e (zp l);rw[o]at e2;cases e2;exact hf (zH q)
theorem CY (args:Array R)(w:Z):(callFunc 114 args).run j4 w= .ok (.enter 114 args) w:=Bm func114 (by kernel_rfl) (by kernel_rfl) args w
theorem FP {S:jJ}(a:Nat)(hS:S≠173)(v:R)(w:Z):jE j4 114 #[jB S v,jK (X ⟨a,0,none⟩)] w (Cy (jB S v) w):=by
 have c:=A8 (S:=S) (T:=173) underlying173 zeroValue173 hS 106;have b:=Av w (jF #[U V 0,U V 0] 173);clear hS;go_enter func114,ntmps114
 go_wp2_with fail
 go_ret
 exact⟨rfl,b⟩
theorem AiI (i n:Int)(c b:Nat)(a:List Int)(w:Z)(f:Ag w c #[.map (X b)] 175)(M:IS w b a)(g:a.Nodup)(hm:n∈a):
  jE j4 114 #[jB 173 (jG #[U V i,U V n]),jK (X ⟨c,0,none⟩)] w (Cy (jB 173 (jG #[U V i,U V (ixL a n)])) w):=by
 have j:=De (T:=173) underlying173 106;have d:=Av w (jF #[U V i,U V n] 173);have k:(w.alloc (jF #[U V i,U V n] 173)).cell? ⟨c,0,none⟩=X (.map (X b)):=(f.after d NLN).cell 0;obtain⟨l,m⟩:=Xh (Ag.new w #[U V i,U V n] 173);have h:=Acx _ b a n (M.below d) g hm;clear f M g hm;generalize ixL a n=q at h|-;go_enter func114,ntmps114
 go_wp2_with fail
 go_ret
 exact⟨rfl,d⟩
theorem Lp {w0:Z}{g z:Nat}{s:List Int}(p:Ag w0 g #[.map (X z)] 175)(M:IS w0 z s)(r:s.Nodup):∀(e:Ex),(∀m,usE m e=true->m∈s)->e.mem G w0->RbX G 114 #[] #[jK (X ⟨g,0,T⟩)] w0 e.val (Cr s e)
 |.un i op k,hu,m=>by
  have D:=Lp p M r k (fun q hq=>hu q (by simp[usE,hq])) m;obtain⟨t,u,j⟩:=k.form;rw[j]at D;simp only[Ex.val,j];refine AeU _ _ _ (Ab CY) w0 i op t u _ (Ab D) _ (Ab fun e1 d s1 f v=>?_);exact(FP g (by decide) _ d).mono fun h w' b=>⟨.un i op e1,by simp only[Cr,Ex.st,s1],b.1,Ex.mem_below b.2 NLN (.un i op e1) v,b.2⟩
 |.bin i op k l,hu,m=>by
  have w:=Lp p M r k (fun q hq=>hu q (by simp[usE,hq])) m.1;have x:=Lp p M r l (fun q hq=>hu q (by simp[usE,hq])) m.2;obtain⟨t,u,j⟩:=k.form;obtain⟨A,B,y⟩:=l.form;rw[j]at w;rw[y]at x;simp only[Ex.val,j,y];refine Aa1 _ _ _ (Ab CY) w0 i op t u _ (Ab w) A B _ (Ab x) _ (Ab fun e1 e2 d s1 s2 f v C=>?_);exact(FP g (by decide) _ d).mono fun h w' b=>⟨.bin i op e1 e2,by simp only[Cr,Ex.st,s1,s2],b.1,Ex.mem_below b.2 NLN (.bin i op e1 e2) ⟨v,C⟩,b.2⟩
 |.ite i k l o,hu,m=>by
  have w:=Lp p M r k (fun q hq=>hu q (by simp[usE,hq])) m.1;have x:=Lp p M r l (fun q hq=>hu q (by simp[usE,hq])) m.2.1;have E:=Lp p M r o (fun q hq=>hu q (by simp[usE,hq])) m.2.2;obtain⟨t,u,j⟩:=k.form;obtain⟨A,B,y⟩:=l.form;obtain⟨H,I,F⟩:=o.form;rw[j]at w;rw[y]at x;rw[F]at E;simp only[Ex.val,j,y,F];refine Aa2 _ _ _ (Ab CY) w0 i t u _ (Ab w) A B _ (Ab x) H I _ (Ab E) _ (Ab fun e1 e2 e3 d s1 s2 J f v C K=>?_);exact(FP g (by decide) _ d).mono fun h w' b=>⟨.ite i e1 e2 e3,by simp only[Cr,Ex.st,s1,s2,J],b.1,Ex.mem_below b.2 NLN (.ite i e1 e2 e3) ⟨v,C,K⟩,b.2⟩
 |.lett i n,hu,m=>CA _ _ _ (Ab CY) w0 _ _ _ (by decide) (by decide) (by decide) (Ab fun d f=>(AiI i n g z s d (p.after f NLN) (M.below f) r (hu n (by simp[usE]))).mono fun h w' b=>⟨.lett i (ixL s n),rfl,b.1,trivial,b.2⟩)
 |.int i n,hu,m=>CA _ _ _ (Ab CY) w0 _ _ _ (by decide) (by decide) (by decide) (Ab fun d f=>(FP g (by decide) _ d).mono fun h w' b=>⟨.int i n,rfl,b.1,Ex.mem_below b.2 NLN (.int i n) (Ex.mem_below f NLN (.int i n) m),b.2⟩)
 |.text i n,hu,m=>CA _ _ _ (Ab CY) w0 _ _ _ (by decide) (by decide) (by decide) (Ab fun d f=>(FP g (by decide) _ d).mono fun h w' b=>⟨.text i n,rfl,b.1,Ex.mem_below b.2 NLN (.text i n) (Ex.mem_below f NLN (.text i n) m),b.2⟩)
 |.bool i n,hu,m=>CA _ _ _ (Ab CY) w0 _ _ _ (by decide) (by decide) (by decide) (Ab fun d f=>(FP g (by decide) _ d).mono fun h w' b=>⟨.bool i n,rfl,b.1,Ex.mem_below b.2 NLN (.bool i n) (Ex.mem_below f NLN (.bool i n) m),b.2⟩)
 |.set i a n c ss,hu,m=>CA _ _ _ (Ab CY) w0 _ _ _ (by decide) (by decide) (by decide) (Ab fun d f=>(FP g (by decide) _ d).mono fun h w' b=>⟨.set i a n c ss,rfl,b.1,Ex.mem_below b.2 NLN (.set i a n c ss) (Ex.mem_below f NLN (.set i a n c ss) m),b.2⟩)
 |.attr i n,hu,m=>CA _ _ _ (Ab CY) w0 _ _ _ (by decide) (by decide) (by decide) (Ab fun d f=>(FP g (by decide) _ d).mono fun h w' b=>⟨.attr i n,rfl,b.1,Ex.mem_below b.2 NLN (.attr i n) (Ex.mem_below f NLN (.attr i n) m),b.2⟩)
 |.name i n,hu,m=>CA _ _ _ (Ab CY) w0 _ _ _ (by decide) (by decide) (by decide) (Ab fun d f=>(FP g (by decide) _ d).mono fun h w' b=>⟨.name i n,rfl,b.1,Ex.mem_below b.2 NLN (.name i n) (Ex.mem_below f NLN (.name i n) m),b.2⟩)
theorem Afd {f i:Nat}{a:List Int}(j:Ag w f #[.map (X i)] 175)(M:IS w i a)(k:a.Nodup)(o:Option Ex)(l:∀m,usO m o=true->m∈a)(n:Zo G w o)(c:Z)(d:Below w.heap.size w c)(p:w.heap.size+2<=c.heap.size):
  RbO (Rd G w.heap.size) 114 #[] #[jK (X ⟨f,0,T⟩)] c (AH o) (o.map (Cr a)):=by
 cases o with
 |none=>exact Xj _ _ _ c
 |some e=>
  have hp:∀b,b<w.heap.size->G b->Rd G w.heap.size b:=fun b h g=>⟨by omega,by omega,g⟩
  exact Xk (Lp (j.after d NLN) (M.below d) k e l (e.mem_below d NLN (Ex.mem_le hp e (n e rfl))))
theorem Zr {f g:Nat}{a:List Int}(h:Ag w f #[.map (X g)] 175)(M:IS w g a)(i:a.Nodup)(x:Sx)(j:∀m,usS m x=true->m∈a)(h1:Zo G w x.cond)(h2:Zo G w x.grant):
  jE j4 57 #[jG #[U V x.at',U V x.kind,Q x.name,AH x.cond,AH x.grant],.func (.func 114) #[] #[jK (X ⟨f,0,T⟩)]] w fun n w'=>(∃k l,n= .returned (jG #[U V x.at',U V x.kind,Q x.name,k,l])/\Rb G (x.cond.map (Cr a)) k w'/\Rb G (x.grant.map (Cr a)) l w')/\Below w.heap.size w w':=
 TI _ _ _ x.at' x.kind x.name _ _ _ _ w (Ab fun b c d=>Afd h M i x.cond (fun m hm=>j m (by simp[usS,hm])) h1 b c d) (Ab fun b c d=>Afd h M i x.grant (fun m hm=>j m (by simp[usS,hm])) h2 b c d)
end
end Go.Proofs.YteiieikcjcfkkaaGreatDoor

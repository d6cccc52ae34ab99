import Derived.Test.YtppafecmccdplaaGreatMXAJ
import Derived.Test.YtppafecmccdplaaGreatEM
open Go.Proofs.Tryz
open Option renaming none->T,some->Y
open Go.Value renaming int->U,slice->X,string->Q,agg->jE,pointer->jH
open Go.IntKind renaming i64->V
open Go renaming World->Z,Value->jB,Addr->jD
open Bool renaming true->R,false->jA
open Go.Ending renaming returned->jF
open Go.Proofs.Tryz renaming prog->jL
namespace Go.Proofs.YtppafecmccdplaaGreat
open Go.RowKit
set_option linter.unusedVariables false
set_option maxHeartbeats 1600000
variable {nm:ByteArray}{op k:Int}{ns:List ByteArray}{bs:List Ex}{ts tt ys:List Int}{B c g lo:Nat}{o:Obj}{a:Option jD}{b j:Type}{t:TypeId}{d lv f:jB}{v u:Vv}{w w':Z}
theorem IK {o:Rs}{f:Int->Rs}(h:∀a,o= .ok a->inX (f a)):inX (o.bind f):=by
 cases o with
 |error e=>intro a k;cases k
 |ok a=>exact h a rfl
theorem Qs {K:List Dc}(h:∀d∈K,1<=d.typ/\d.typ<=4):∀(e:Ex),inX (BF K e)
 |.int ..,a,k=>by cases k;omega
 |.text ..,a,k=>by cases k;omega
 |.bool ..,a,k=>by cases k;omega
 |.set ..,a,k=>by cases k;omega
 |.name i s,a,k=>Qr (f:=(7,i)) (o:=(JR K s).map Dc.typ) (fun b e=>by
   cases j:JR K s with
   |none=>rw[j]at e;cases e
   |some d=>rw[j]at e;cases e;exact h d (AeI j).1) a k
 |.attr _ n,a,k=>by cases k;exact Qt n
 |.lett i n,a,k=>Qr (f:=(7,i)) (o:=ltT K n) (fun b e=>by
   unfold ltT at e;split at e
   ·obtain⟨d,hd,rfl⟩:=Option.map_eq_some_iff.1 e;exact h d (List.mem_of_mem_drop (zu hd))
   ·cases e) a k
 |.un i op e,a,k=>IK (fun b _=>Qr (VJ op b)) a k
 |.bin i op e f,a,k=>IK (fun b _=>IK (fun c _=>Qr (VK op b c))) a k
 |.ite i e f g,a,k=>IK (fun b _=>IK (fun c hc=>IK (fun d _=>Qr (VM b c d (Qs h f c hc))))) a k
def JE:List Dc:= [⟨⟨#[99,108,105,101,110,116]⟩,jA,0,3⟩,⟨⟨#[117,115,101,114]⟩,jA,1,3⟩,⟨⟨#[108,101,118,101,108]⟩,jA,2,2⟩,⟨⟨#[110,111,119]⟩,jA,3,2⟩,⟨⟨#[97,115,107,101,100]⟩,jA,4,4⟩,⟨⟨#[97,103,114,101,101,100]⟩,jA,5,4⟩]
def Uz:Nat->List ByteArray->List Int->List Dc
 |k,n ::ns,t ::ts=>⟨n,R,k,t⟩ ::Uz (k+1) ns ts
 |_,_,_=> []
def CJ (ns:List ByteArray) (ts:List Int):List Dc:=JE++Uz 0 ns ts
noncomputable def nmR (ns:List ByteArray) (ts:List Int) (s:ByteArray):Rc:=
 if 0<=AD s Bm 0 then .ok (BL (AD s Bm 0))else if 0<=AD s ns 0 then ofC 7 ts[(AD s ns 0).toNat]? else .error 7
theorem Mr (s:ByteArray):∀(L:List ByteArray) (k:Int),0<=k->(AD s L k= -1/\s ∉ L)\/(k<=AD s L k/\AD s L k<k+L.length)
 |[],k,h=> .inl ⟨by simp[AD],by simp⟩
 |x ::r,k,h=>by
  rw[AD];by_cases e:x=s
  ·rw[if_pos e];right;simp;omega
  ·rw[if_neg e];rcases Mr s r (k+1) (by omega)with⟨h1,a⟩|⟨h1,a⟩
   ·exact .inl ⟨h1,by simp[Ne.symm e,a]⟩
   ·right;simp at a|-;omega
theorem Qw (s:ByteArray):∀(ns:List ByteArray) (ts:List Int) (k:Nat),ns.length=ts.length->(AD s ns k= -1/\JR (Uz k ns ts) s=T)\/∃ (j:Nat) (t:Int),AD s ns k=((k+j:Nat):Int)/\ts[j]? =Y t/\JR (Uz k ns ts) s=Y ⟨s,R,((k+j:Nat):Int),t⟩
 |[],[],k,_=> .inl ⟨by simp[AD],rfl⟩
 |n ::ns,t ::ts,k,h=>by
  rw[AD,Uz];by_cases e:n=s
  ·rw[if_pos e];exact .inr ⟨0,t,rfl,rfl,by rw[JR,List.find?_cons_of_pos (by simpa using e),e];rfl⟩
  ·rw[if_neg e];have e2:JR (⟨n,R,(k:Int),t⟩ ::Uz (k+1) ns ts) s=JR (Uz (k+1) ns ts) s:=by rw[JR,List.find?_cons_of_neg (by simpa using e)];rfl
   rw[e2];rcases Qw s ns ts (k+1) (by simpa using h)with⟨h1,a⟩|⟨j,b,h1,a,c⟩
   ·exact .inl ⟨by have:=h1;push_cast at this;exact this,a⟩
   ·refine .inr ⟨j+1,b,?_,by simpa using a,?_⟩
    ·have:=h1;push_cast at this|-;rw[this];omega
    ·rw[c]
     congr 2
     omega
 |[],_ ::_,_,h=>by cases h
 |_ ::_,[],_,h=>by cases h
def atD:Nat->List ByteArray->List Dc
 |k,n ::ns=>⟨n,jA,k,BL k⟩ ::atD (k+1) ns
 |_,[]=> []
theorem Acu (s:ByteArray):∀(ns:List ByteArray) (k:Nat),(AD s ns k= -1/\JR (atD k ns) s=T)\/∃j:Nat,j<ns.length/\AD s ns k=((k+j:Nat):Int)/\JR (atD k ns) s=Y ⟨s,jA,((k+j:Nat):Int),BL ((k+j:Nat):Int)⟩
 |[],k=> .inl ⟨by simp[AD],rfl⟩
 |n ::ns,k=>by
  rw[AD,atD];by_cases e:n=s
  ·rw[if_pos e];exact .inr ⟨0,by simp,rfl,by rw[JR,List.find?_cons_of_pos (by simpa using e),e];rfl⟩
  ·rw[if_neg e];have e2:JR (⟨n,jA,(k:Int),BL (k:Int)⟩ ::atD (k+1) ns) s=JR (atD (k+1) ns) s:=by rw[JR,List.find?_cons_of_neg (by simpa using e)];rfl
   rw[e2];rcases Acu s ns (k+1)with⟨h1,a⟩|⟨j,b,h1,c⟩
   ·exact .inl ⟨by have:=h1;push_cast at this;exact this,a⟩
   ·have en:k+1+j=k+(j+1):=by omega
    refine .inr ⟨j+1,by simpa using b,?_,?_⟩
    ·have:=h1;rw[en]at this;push_cast at this|-;exact this
    ·rw[c,en]
theorem AeK:JE=atD 0 Bm:=rfl
theorem PC (s:ByteArray):(AD s Bm 0= -1/\JR JE s=T)\/∃j:Nat,j<6/\AD s Bm 0=(j:Int)/\JR JE s=Y ⟨s,jA,(j:Int),BL (j:Int)⟩:=by
 rw[AeK];rcases Acu s Bm 0 with⟨h1,a⟩|⟨j,b,h1,a⟩
 ·exact .inl ⟨h1,a⟩
 ·rw[zP]at h1 a;exact .inr ⟨j,b,h1,a⟩
theorem Ku (A B:List Dc)(s:ByteArray):JR (A++B) s=match JR A s with|some d=>Y d|none=>JR B s:=by
 unfold JR;rw[List.find?_append];cases List.find? _ A<;>rfl
def cR:Rs->Rc
 |.ok t=> .ok t
 |.error f=> .error f.1
theorem Ms:∀(ns:List ByteArray) (ts:List Int) (k:Nat),ns.length=ts.length->(Uz k ns ts).map Dc.typ=ts/\(Uz k ns ts).map Dc.name=ns
 |[],[],k,_=>⟨rfl,rfl⟩
 |n ::ns,t ::ts,k,h=>by
  obtain⟨h1,a⟩:=Ms ns ts (k+1) (by simpa using h);simp only[Uz,List.map_cons,h1,a,and_self]
 |[],_ ::_,_,h=>by cases h
 |_ ::_,[],_,h=>by cases h
theorem Acv (h:ns.length=ts.length)(n:Int):ltT (CJ ns ts) n=if 0<=n then ts[n.toNat]? else T:=by
 rw[ltT,show(CJ ns ts).drop 6=Uz 0 ns ts from rfl,<-zk,(Ms ns ts 0 h).1]
theorem Agd (ns:List ByteArray)(ts:List Int)(h:ns.length=ts.length)(i:Int)(s:ByteArray):nmR ns ts s=cR (BF (CJ ns ts) (.name i s)):=by
 rw[BF,CJ,Ku,nmR];rcases PC s with⟨h1,a⟩|⟨j,g,h1,a⟩
 ·rw[h1,a,if_neg (by decide)];rcases Qw s ns ts 0 h with⟨b,c⟩|⟨j,t,b,c,f⟩
  ·have d:AD s ns 0= -1:=b;rw[d,c,if_neg (by decide)];rfl
  ·have d:AD s ns 0=(j:Int):=by have:=b;simpa using this
   rw[d,f,if_pos (by omega),zb,c];rfl
 ·rw[h1,a,if_pos (by omega)];rfl
theorem Em.keep {v v':jB}{n:Nat}{L:List Int}(h:Em w a n c L)(k:GZ w v w' v')(g:∀x,a=Y x->Y x.block≠v.ownBlock):Em w' a n c L:=
 ⟨h.len,h.small,fun j i=>by
  obtain⟨b,l,d,f,c0⟩:=h.cells j i;exact⟨b,l,d,zR f k.2.2,(World.cell?_of_block (w:=w) (k.1 b f (g _ d))).trans c0⟩⟩
def Bq (Es:List Ex) (k:Int):Nat:=if k= -1 then 0 else match Es[k.toNat]? with
 |some e=>e.cnt
 |none=>0
def Dq (Es:List Ex) (L:List St):Nat:=(L.map fun s=>Bq Es s.cond+Bq Es s.grant).sum
theorem Jg {Es:List Ex}{k:Int}{m:Nat}{e:Ex}(h:k=(m:Nat))(he:Es[m]? =Y e):Bq Es k=e.cnt:=by
 rw[Bq,if_neg (by omega),h,zb,he]
theorem AaL (Es:List Ex)(L:List St)(k:Nat)(h:k<L.length):Dq Es (L.take k)+(Bq Es L[k].cond+Bq Es L[k].grant)<=Dq Es L:=by
 have e:L=L.take k++(L[k] ::L.drop (k+1)):=by rw[List.getElem_cons_drop,Z9]
 have e2:=congrArg (Dq Es) e;simp only[Dq,zl,List.map_cons,List.sum_append,List.sum_cons]at e2|-;omega
abbrev Cs:=List Dc×List Int×List Int
def Acq (D:List Dc) (ts tt:List Int) (nm:ByteArray) (i:Int) (ot:Rs) (ys:List Int):Except (Int×Int) Cs:=match ot with
 |.ok t=>if (JR D nm).isSome then .error (8,i)else .ok (D++[⟨nm,R,ts.length,t⟩],ts++[t],tt++ys)
 |.error f=> .error f
def Jw (c:Int) (D:List Dc) (ts tt:List Int) (i:Int) (ot:Rs) (ys:List Int):Except (Int×Int) Cs:=match ot with
 |.ok t=>if t=c then .ok (D,ts,tt++ys)else .error (9,i)
 |.error f=> .error f
section
open Go.RowKit Go.Extern.Stop Go.Stop Go.Extern
variable {aX a1 a2 a3 a4 a5 a6 a7 a8 a9 : jD}
end
structure Lm (B lb:Nat) (ns:List ByteArray) (ts tt:List Int) (nv lv tv:jB) (w:Z):Prop where
 row:Ah w lb #[nv,lv] 141
 names:w.ownsRow B 9 1 nv ns.length (ns.map Value.string)
 lets:w.ownsRow B 3 1 lv ts.length (Aw ts)
 types:w.ownsRow B 3 1 tv tt.length (Aw tt)
 low:lb<B
 apart:∀q,lv.ownBlock=Y q->tv.ownBlock≠Y q
theorem Lm.below {b:Nat}{c:jB}(h:Lm B b ns ts tt c lv f w)(a:An w w'):Lm B b ns ts tt c lv f w':=
 ⟨h.row.after a NLN,Af h.names a NLN,Af h.lets a NLN,Af h.types a NLN,h.low,h.apart⟩
theorem Lm.tree {b:jB}(h:Lm B c ns ts tt d lv f w)(O:w'.ownsRow B 3 1 b (tt++ys).length (Aw (tt++ys)))(K:GZ w f w' b)(g:Below B w w'):Lm B c ns ts (tt++ys) d lv b w':=by
 refine⟨h.row.below g h.low,Ad h.names (fun q a=>K.1 q (h.names.lt q a).2 (fun e=>Ak h.names h.types (by decide) q a e.symm)),Ad h.lets (fun q a=>K.1 q (h.lets.lt q a).2 (fun e=>h.apart q a e.symm)),O,h.low,fun q a e=>?_⟩;rcases K.2.1 q e with e2|e2
 ·exact h.apart q a e2
 ·have:=(h.lets.lt q a).2;omega
theorem Lm.set {b:Nat}{c d:jB}(h:Lm B b ns ts tt c lv d w)(p:jD)(u:jB)(h1:p.block<B)(f:p.block≠b):Lm B b ns ts tt c lv d (w.setCell p u):=
 ⟨h.row.setFar (fun e=>f e.symm) u,Ai h.names p u (fun q a=>by have:=(h.names.lt q a).1;omega),Ai h.lets p u (fun q a=>by have:=(h.lets.lt q a).1;omega),Ai h.types p u (fun q a=>by have:=(h.types.lt q a).1;omega),h.low,h.apart⟩
theorem Lm.pushN {a:Nat}{l:jB}{b:Z}{cap:Nat}(h:Lm B a ns ts tt d lv l w)(y:B<=w.heap.size)
  (m:b.ownsRow B 9 1 (X (Y ⟨g,0,T⟩) (ns.length+1) cap) (ns.length+1) (ns.map Value.string++[Q nm]))(f:(w.alloc o).grownBy b d.ownBlock)(hat:d.ownBlock=Y g\/g=w.heap.size+1):
  Ah b a #[d,lv] 141/\Lm B a (ns++[nm]) ts tt (X (Y ⟨g,0,T⟩) (ns.length+1) cap) lv l (b.setCell ⟨a,0,T⟩ (X (Y ⟨g,0,T⟩) (ns.length+1) cap))/\
  (∀k,k<w.heap.size->k≠a->Y k≠d.ownBlock->(b.setCell ⟨a,0,T⟩ (X (Y ⟨g,0,T⟩) (ns.length+1) cap)).heap[k]? =w.heap[k]?)/\w.heap.size<=b.heap.size:=by
 have n1:=Ac h.row h.names (by decide);have n:=Ac h.row h.lets (by decide);have p:=Ac h.row h.types (by decide);have i:=(h.row.alloc o).grown f (fun e=>n1 e.symm);have r:=Ac i m (by decide);have s:g≠a:=fun e=>r (by rw[e];rfl);have t:(w.alloc o).heap.size=w.heap.size+1:=by simp
 have j:∀k,k<w.heap.size->k≠a->Y k≠d.ownBlock->(b.setCell ⟨a,0,T⟩ (X (Y ⟨g,0,T⟩) (ns.length+1) cap)).heap[k]? =w.heap[k]? :=fun k h1 u v=>
  (heap_setCell_other b ⟨a,0,T⟩ k _ u).trans ((f.block k (by rw[t];omega) v).trans (Below.heap_alloc w o k h1))
 have x:w.heap.size<=b.heap.size:=by have:=f.size;omega
 refine⟨i,⟨i.set 0 (X (Y ⟨g,0,T⟩) (ns.length+1) cap),?_,Ad h.lets (fun q c=>j q (h.lets.lt q c).2 (fun e=>n (e ▸ c)) (fun e=>Ak h.names h.lets (by decide) q e.symm c)),Ad h.types (fun q c=>j q (h.types.lt q c).2 (fun e=>p (e ▸ c)) (fun e=>Ak h.names h.types (by decide) q e.symm c)),h.low,h.apart⟩,j,x⟩;rw[zl,zB];refine Ai m ⟨a,0,T⟩ _ (fun q c=>?_);have:g=q:=by simpa[Value.ownBlock]using c
 subst this;exact s
theorem Lm.pushL {a:Nat}{l:jB}{c:Z}{t:Int}{cap:Nat}(h:Lm B a ns ts tt d lv l w)(z:B<=w.heap.size)
  (m:c.ownsRow B 3 1 (X (Y ⟨g,0,T⟩) (ts.length+1) cap) (ts.length+1) (Aw ts++[U V t]))(f:(w.alloc o).grownBy c lv.ownBlock)(hat:lv.ownBlock=Y g\/g=w.heap.size+1):
  Ah c a #[d,lv] 141/\Lm B a ns (ts++[t]) tt d (X (Y ⟨g,0,T⟩) (ts.length+1) cap) l (c.setCell ⟨a,1,T⟩ (X (Y ⟨g,0,T⟩) (ts.length+1) cap))/\
  (∀k,k<w.heap.size->k≠a->Y k≠lv.ownBlock->(c.setCell ⟨a,1,T⟩ (X (Y ⟨g,0,T⟩) (ts.length+1) cap)).heap[k]? =w.heap[k]?)/\w.heap.size<=c.heap.size:=by
 have n1:=Ac h.row h.names (by decide);have n:=Ac h.row h.lets (by decide);have p:=Ac h.row h.types (by decide);have i:=(h.row.alloc o).grown f (fun e=>n e.symm);have r:=Ac i m (by decide);have s:g≠a:=fun e=>r (by rw[e];rfl);have u:(w.alloc o).heap.size=w.heap.size+1:=by simp
 have j:∀k,k<w.heap.size->k≠a->Y k≠lv.ownBlock->(c.setCell ⟨a,1,T⟩ (X (Y ⟨g,0,T⟩) (ts.length+1) cap)).heap[k]? =w.heap[k]? :=fun k h1 v x=>
  (heap_setCell_other c ⟨a,1,T⟩ k _ v).trans ((f.block k (by rw[u];omega) x).trans (Below.heap_alloc w o k h1))
 have y:w.heap.size<=c.heap.size:=by have:=f.size;omega
 refine⟨i,⟨i.set 1 (X (Y ⟨g,0,T⟩) (ts.length+1) cap),Ad h.names (fun q b=>j q (h.names.lt q b).2 (fun e=>n1 (e ▸ b)) (fun e=>Ak h.names h.lets (by decide) q b e.symm)),?_,Ad h.types (fun q b=>j q (h.types.lt q b).2 (fun e=>p (e ▸ b)) (fun e=>h.apart q e.symm b)),h.low,fun q b e=>?_⟩,j,y⟩
 ·rw[Aw,zl,zB];refine Ai m ⟨a,1,T⟩ _ (fun q b=>?_);have:g=q:=by simpa[Value.ownBlock]using b
  subst this;exact s
 ·have:g=q:=by simpa[Value.ownBlock]using b
  subst this;rcases hat with hat|hat
  ·exact h.apart g hat e
  ·have:=(h.types.lt g e).2;omega
structure Ls (B rb lb fb sb:Nat) (ns:List ByteArray) (ts tt:List Int) (nv lv tv:jB) (S:Array jB) (fc fa:Int) (w0 w:Z):Prop where
 M:Lm B lb ns ts tt nv lv tv w
 F:Ah w fb #[U V fc,U V fa] 89
 Rr:Ah w rb #[U V 0,U V 0] 89
 S:Ah w sb S 93
 low:Below rb w0 w
 ord:rb<lb/\lb<fb/\fb<B/\B<=sb
theorem Ls.below {B b c d f:Nat}{ns:List ByteArray}{ts tt:List Int}{g lv i:jB}{S:Array jB}{fc j:Int}{w0 w w':Z}(h:Ls B b c d f ns ts tt g lv i S fc j w0 w)(a:An w w'):Ls B b c d f ns ts tt g lv i S fc j w0 w':=
 ⟨h.M.below a,h.F.after a NLN,h.Rr.after a NLN,h.S.after a NLN,h.low.trans (a.mono (by have:=h.Rr.lt;omega)),h.ord⟩
theorem Ls.tree {B d f g b:Nat}{ns:List ByteArray}{ts tt ys:List Int}{i lv j c:jB}{S:Array jB}{fc k:Int}{w0 w w':Z}(h:Ls B d f g b ns ts tt i lv j S fc k w0 w)(O:w'.ownsRow B 3 1 c (tt++ys).length (Aw (tt++ys)))(K:GZ w j w' c)(a:Below B w w'):Ls B d f g b ns ts (tt++ys) i lv c S fc k w0 w':=
 ⟨h.M.tree O K a,h.F.below a h.ord.2.2.1,h.Rr.below a (by have:=h.ord;omega),⟨(K.1 b h.S.lt (fun e=>Ac h.S h.M.types (by decide) e.symm)).trans h.S.out⟩,h.low.trans (a.mono (by have:=h.ord;omega)),h.ord⟩
theorem Ls.fault {d f b g:Nat}{i j:jB}{S:Array jB}{fc:Int}{w0 w:Z}(h:Ls B d f b g ns ts tt i lv j S fc k w0 w)(c a:Int):Ls B d f b g ns ts tt i lv j S c a w0 ((w.setCell ⟨b,0,T⟩ (U V c)).setCell ⟨b,1,T⟩ (U V a)):=by
 have o:=h.ord;refine⟨(h.M.set ⟨b,0,T⟩ _ o.2.2.1 (by show b≠f;omega)).set ⟨b,1,T⟩ _ o.2.2.1 (by show b≠f;omega),(h.F.set 0 _).set 1 _,(h.Rr.setFar (by show d≠b;omega) _).setFar (by show d≠b;omega) _,(h.S.setFar (by show g≠b;omega) _).setFar (by show g≠b;omega) _,?_,o⟩;exact(h.low.setCell (p:=⟨b,0,T⟩) (by show d<=b;omega) _).setCell (p:=⟨b,1,T⟩) (by show d<=b;omega) _
theorem Ls.of_kept {a b c r:Nat}{g:List ByteArray}{i:List Int}{j l:jB}{S:Array jB}{fc m:Int}{w0 w w':Z}{e:TypeId}{size n:Nat}{p:jB}{s:List jB}(h:Ls B a b c r ns ts tt d lv f S fc m w0 w)(hx:w.ownsRow B e size p n s)(h1: 89≠e)(t: 93≠e)
  (M:Lm B b g i tt j l f w')(hk:∀k,k<w.heap.size->k≠b->Y k≠p.ownBlock->w'.heap[k]? =w.heap[k]?)(u:Below a w w'):Ls B a b c r g i tt j l f S fc m w0 w':=by
 have o:=h.ord;exact⟨M,⟨(hk c h.F.lt (by omega) (fun q=>Ac h.F hx h1 q.symm)).trans h.F.out⟩,⟨(hk a h.Rr.lt (by omega) (fun q=>Ac h.Rr hx h1 q.symm)).trans h.Rr.out⟩,⟨(hk r h.S.lt (by omega) (fun q=>Ac h.S hx t q.symm)).trans h.S.out⟩,h.low.trans u,o⟩
set_option maxRecDepth 100000
set_option maxHeartbeats 3200000
def IX (F:Int->Nat) (ks:List Int):Nat:=ks.foldl (fun d k=>max d (F k)) 0
theorem YU (F:Int->Nat)(a:List Int)(k:Int):IX F (a++[k])=max (IX F a) (F k):=by
 rw[IX,List.foldl_append];rfl
theorem Xn {F:Int->Nat}{M:Nat}(h:∀k,F k<=M):∀(a:List Int) (d:Nat),d<=M->a.foldl (fun d k=>max d (F k)) d<=M
 |[],d,hd=>hd
 |k ::a,d,hd=>by
  rw[List.foldl_cons];exact Xn h a _ (by have:=h k;omega)
theorem Ok (K:List (List Int)):∀(n:Nat) (t:Int),BR K n t<=n+1
 |0,t=>by rw[BR];show 1<=0+1;omega
 |n+1,t=>by
  rw[BR];dsimp only;have:=Xn (F:=BR K n) (M:=n+1) (Ok K n) (K.getD t.toNat []) 0 (by omega);omega
theorem Dg (a:Option jD)(n c:Nat)(N:List Nd)(w0:Z)(D:IY w0 a n c N)(E:∀t,(h:t<N.length)->∀y∈N[t].kids,0<=y/\y<(t:Int)):
  ∀(f t:Nat) (w:Z),f<=4001->t<n->t<f->An w0 w->
  Calls jL 98 #[X a n c,U V t] w fun e w'=>e=jF (U V (BR (N.map Nd.kids) f (t:Int)))/\An w w':=by
 have L:=Ab D.len;have M:=Ab E;clear E;intro f
 induction f with
 |zero=>intro t w _ _ h;omega
 |succ f u=>
  intro t w ah O ai v;have z:t<N.length:=by rw[Aa L];exact O
  have aj:(t:Int)<(n:Int):=by omega
  have hk:=Aa M t z;have G:=Ab (show BR (N.map Nd.kids) (f+1) (t:Int)=IX (BR (N.map Nd.kids) f) N[t].kids+1 by
   rw[BR];dsimp only;rw[zb,zo,zk,zL z];rfl)
  have H:=Ab (Ok (N.map Nd.kids) f);obtain⟨b,P,rfl,S,an,nn,cn,ak,k,al,c0,c1,c2,c3,c4,W,o⟩:=D.cells t z;have c4:=(v.cell (p:=⟨b,P+t*5+4,T⟩) S).trans c4;rw[Aa G];clear G c0 c1 c2 c3;generalize N[t]=x at c4 W o hk|-;generalize BR (N.map Nd.kids) f=F at u H|-;have I:=Ab o.len;have ao:=o.small;have aa:=Ab hk;clear hk;go_enter func98,ntmps98
  go_wp2_with fail
  go_loopw [5,15] (fun d i wr=>∃j:Nat,j<=k/\i=U V j/\d=U V (IX F (x.kids.take j))/\IX F (x.kids.take j)<=4001/\An w wr) (fun _ i _=>k-(intOf i).toNat)
  case atStart=>exact⟨0,by omega,rfl,rfl,by simp[IX],BRN⟩
  case round=>
   obtain⟨j,ap,rfl,rfl,hd,g⟩:=hrel;have A:=v.trans (g.mono v.size);by_cases J:j<k
   ·have aq:(j:Int)<(k:Int):=by omega
    have B:j<x.kids.length:=by rw[Aa I];exact J
    obtain⟨ar,ok,rfl,au,ab⟩:=(o.below A NLN).cells j B;obtain⟨ac,ad⟩:=Aa aa x.kids[j] (zH B);have q:=Ab (show IX F (x.kids.take (j+1))=max (IX F (x.kids.take j)) (F x.kids[j]) by rw[zc B,YU]);have r:=Ab J;generalize x.kids[j]=y at ab ac ad q;obtain⟨s,rfl⟩:∃s:Nat,y=(s:Int):=⟨y.toNat,by omega⟩
    have av:=Aa H (s:Int);generalize IX F (x.kids.take j)=l at hd q;by_cases aw:l<F (s:Int)
    ·have ae:(l:Int)<(F (s:Int):Int):=by omega
     have m:=Ab (show IX F (x.kids.take (j+1))=F (s:Int) by rw[Aa q];omega);go_wp2_with (go_at_call 98;refine(u s wr (by omega) (by omega) (by omega) A).mono ?_;rintro e w2 ⟨rfl,C⟩)
     go_roundw
     case rel=>exact⟨j+1,Aa r,by go_num,by rw[Aa m],by rw[Aa m];omega,g.trans (C.mono g.size)⟩
     case measure=>have:=Aa r;simp[intOf];omega
    ·have ae: ¬ ((l:Int)<(F (s:Int):Int)):=by omega
     have m:=Ab (show IX F (x.kids.take (j+1))=l by rw[Aa q];omega);go_wp2_with (go_at_call 98;refine(u s wr (by omega) (by omega) (by omega) A).mono ?_;rintro e w2 ⟨rfl,C⟩)
     go_roundw
     case rel=>exact⟨j+1,Aa r,by go_num,by rw[Aa m],by rw[Aa m];omega,g.trans (C.mono g.size)⟩
     case measure=>have:=Aa r;simp[intOf];omega
   ·have e:j=k:=by omega
    subst e;have af:=Ab (show x.kids.take j=x.kids from zf (by rw[Aa I];exact NLN));rw[Aa af]at hd|-;generalize K:IX F x.kids=l at hd|-;have ag:=Ab K;clear K;go_wp2
    go_ret
    exact⟨by rw[Aa ag,yC];rfl,g⟩
def Sn (L:List St) (j:Nat) (h:j<L.length):Bool:=CY (decide (j+1=L.length)) L[j]
theorem Me:∀(L:List St),GV L=R↔∀j,(h:j<L.length)->Sn L j h=R
 |[]=>by simp[GV]
 |s ::r=>by
  rw[GV,zD,Me r];have e:r.isEmpty=decide (0+1=(s ::r).length):=by cases r<;>simp
  constructor
  ·rintro⟨h1,b⟩ j a;cases j with
   |zero=>rw[e]at h1;exact h1
   |succ j=>
    have:=b j (by simpa using a);rw[Sn]at this|-;simp only[yF,List.length_cons]at this|-;rw[show decide (j+1+1=r.length+1)=decide (j+1=r.length) by rw[decide_eq_decide];omega];exact this
  ·intro h;refine⟨by rw[e];exact h 0 (by simp),fun j a=>?_⟩;have:=h (j+1) (by simpa using a);rw[Sn]at this|-;simp only[yF,List.length_cons]at this;rw[show decide (j+1+1=r.length+1)=decide (j+1=r.length) by rw[decide_eq_decide];omega]at this;exact this
theorem So (L:List St)(k:Nat)(h:k<L.length):(L.take (k+1)).flatMap Az=(L.take k).flatMap Az++Az L[k]:=by
 rw[zc h,Z3];simp
def Na (K:List (List Int)) (n:Nat) (rs:List Int):List Int:=rs.foldl (fun o r=>Ba K n r o) []
theorem Xt (K:List (List Int))(n:Nat)(rs a:List Int):Na K n (rs++a)=a.foldl (fun o r=>Ba K n r o) (Na K n rs):=by rw[Na,List.foldl_append,Na]
theorem Ay.kids {K:List (List Int)}{a b:Nat}{d:List (Nat×Nat)}(h:Ay K a d b):∀j,a<=j->j<b->∃c,K[j]? =Y (As c)/\∀p∈c,p.1<j:=by
 induction h with
 |nil a=>intro j h1 f;omega
 |cons hk g l i k=>
  rename_i a t b c d;intro j h1 f;rcases Nat.lt_trichotomy j t with e|e|e
  ·exact i j h1 e
  ·subst e;exact⟨c,g,fun p hp=>(hk.lt p hp).2⟩
  ·exact k j (by omega) f
theorem YW {N:List Nd}{n:Nat}{rs:List Int}(j:N.length=n)(c:(Na (N.map Nd.kids) n rs).length=n)(hg:good (Na (N.map Nd.kids) n rs)):
  (∀t,(h:t<N.length)->∀y∈N[t].kids,0<=y/\y<(t:Int))/\∀r∈rs,0<=r/\r<(n:Int):=by
 obtain⟨d,e1,a⟩:=Mc (K:=N.map Nd.kids) (n:=n) rs [] hg;have hf':Ay (N.map Nd.kids) 0 d n:=by
  have:(rs.foldl (fun o k=>Ba (N.map Nd.kids) n k o) []).length=n:=c;rw[this]at a;exact a
 constructor
 ·intro t h y hy;obtain⟨f,h1,g⟩:=hf'.kids t (zE _) (by omega);rw[zk,zL h]at h1;have i:N[t].kids=As f:=by simpa using h1
  rw[i]at hy;obtain⟨p,hp,rfl⟩:=zn.1 hy;have:=g p hp;omega
 ·intro r b;rw[<-e1]at b;obtain⟨p,hp,rfl⟩:=zn.1 b;have:=hf'.lt p hp;omega
theorem Et {ka:Option jD}{m kc:Nat}{a:List K5}(h:w.ownsRow B 101 5 (X ka m kc) m (a.flatMap K5.cs))(f:a.length=m):AO w ka a:=fun j b=>by
 obtain⟨x,c,e,hx⟩:=Ae h;cases e;obtain⟨g,rfl,_,hc⟩:=hx (by omega);refine⟨g,0,rfl,(h.lt g rfl).2,fun r d=>?_⟩;have e1:=AdV a j b r d;have i:(a[j].cs).length=5:=rfl;have e2:(a[j].cs)[r]? =Y ((a[j].cs)[r]'(by omega)):=zL _;rw[e2]at e1|-;rw[zP];exact hc _ _ e1
theorem Nq:(jL.info? 101).map (fun i=>(i.zero,i.size,i.bytes))=Y (Y (jE #[U V 0,U V 0,Q ByteArray.empty,X T 0 0,X T 0 0]),5,80):=by kernel_rfl
def CW (w W:Z):Prop:=∀b cs,Ah w b cs 9->Ah W b cs 9
theorem CW.set {F:Nat}{a:Array jB}(R:Ah w F a t)(c:t≠9)(j:Nat)(u:jB):CW w (w.setCell ⟨F,j,T⟩ u):=fun b f r=>r.setFar (fun e=>c (by
 have d:b=F:=e;subst d;have e:=R.out.symm.trans r.out;simp only[Option.some.injEq,Obj.cells.injEq]at e;exact e.2.1)) u
def Tl (P:Nat->Prop) (w:Z):Ex->K5->Prop
 |.un _ op c,k=>k.op=op/\k.num=0/\k.text=⟨#[]⟩/\k.nn=0/\k.kn=1/\(∀b o,k.ka=Y ⟨b,o,T⟩->P b)/\∃k1,AO w k.ka [k1]/\Tl P w c k1
 |.bin _ op l r,k=>k.op=op/\k.num=0/\k.text=⟨#[]⟩/\k.nn=0/\k.kn=2/\(∀b o,k.ka=Y ⟨b,o,T⟩->P b)/\∃k1 k2,AO w k.ka [k1,k2]/\Tl P w l k1/\Tl P w r k2
 |.ite _ c t e,k=>k.op=27/\k.num=0/\k.text=⟨#[]⟩/\k.nn=0/\k.kn=3/\(∀b o,k.ka=Y ⟨b,o,T⟩->P b)/\∃k1 k2 k3,AO w k.ka [k1,k2,k3]/\Tl P w c k1/\Tl P w t k2/\Tl P w e k3
 |e,k=>Tq w e k
theorem Tl.tq {P:Nat->Prop}{w:Z} :∀{e:Ex} {k:K5},Tl P w e k->Tq w e k
 |.un ..,k,⟨h1,h2,h3,h4,h5,_,k1,h6,h7⟩=>⟨h1,h2,h3,h4,h5,k1,h6,h7.tq⟩
 |.bin ..,k,⟨h1,h2,h3,h4,h5,_,k1,k2,h6,h7,h8⟩=>⟨h1,h2,h3,h4,h5,k1,k2,h6,h7.tq,h8.tq⟩
 |.ite ..,k,⟨h1,h2,h3,h4,h5,_,k1,k2,k3,h6,h7,h8,h9⟩=>⟨h1,h2,h3,h4,h5,k1,k2,k3,h6,h7.tq,h8.tq,h9.tq⟩
 |.int ..,k,h=>h
 |.text ..,k,h=>h
 |.bool ..,k,h=>h
 |.set ..,k,h=>h
 |.name ..,k,h=>h
 |.attr ..,k,h=>h
 |.lett ..,k,h=>h
theorem Tl.mono {P Q:Nat->Prop}{w:Z}(a:∀b,P b->Q b):∀{e:Ex} {k:K5},Tl P w e k->Tl Q w e k
 |.un ..,k,⟨h1,h2,h3,h4,h5,h0,k1,h6,h7⟩=>⟨h1,h2,h3,h4,h5,fun b o e=>a b (h0 b o e),k1,h6,h7.mono a⟩
 |.bin ..,k,⟨h1,h2,h3,h4,h5,h0,k1,k2,h6,h7,h8⟩=>⟨h1,h2,h3,h4,h5,fun b o e=>a b (h0 b o e),k1,k2,h6,h7.mono a,h8.mono a⟩
 |.ite ..,k,⟨h1,h2,h3,h4,h5,h0,k1,k2,k3,h6,h7,h8,h9⟩=>⟨h1,h2,h3,h4,h5,fun b o e=>a b (h0 b o e),k1,k2,k3,h6,h7.mono a,h8.mono a,h9.mono a⟩
 |.int ..,k,h=>h
 |.text ..,k,h=>h
 |.bool ..,k,h=>h
 |.set ..,k,h=>h
 |.name ..,k,h=>h
 |.attr ..,k,h=>h
 |.lett ..,k,h=>h
theorem NS (l:w.heap.size<=w'.heap.size)(f:CW w w'){n:Nat}{ss:List ByteArray}(h:AJ w a n c ss)(z:ZS w a c):AJ w' a n c ss/\ZS w' a c:=
 ⟨⟨h.len,h.cap,h.small,h.sizes,fun j m=>by
  obtain⟨b,g,i,o,hc⟩:=h.cells j m;obtain⟨k,r⟩:=z.2 _ i;exact⟨b,g,i,zR o l,(World.cell?_of_block (w:=w) (a:=⟨b,g+j,T⟩) ((f _ _ r).out.trans r.out.symm)).trans hc⟩⟩,z.1,fun p e=>by
  obtain⟨k,r⟩:=z.2 p e;exact⟨k,f _ _ r⟩⟩
theorem Gw {a:Z}(g:w.heap.size<=a.heap.size){ka:Option jD}{c:List K5}(h:AO w ka c)(i:∀b o,ka=Y ⟨b,o,T⟩->b<w.heap.size->a.heap[b]? =w.heap[b]?):AO a ka c:=fun j k=>by
 obtain⟨b,d,e,f,l⟩:=h j k;exact⟨b,d,e,zR f g,fun r m=>(World.cell?_of_block (w:=w) (i b d e f)).trans (l r m)⟩
theorem Jp {a:Z}(b:w.heap.size<=a.heap.size)(c:CW w a){num:Int}{ss:List ByteArray}{k:K5}(h:k.op=op/\k.num=num/\k.text=nm/\k.kn=0/\AJ w k.an k.nn k.cn ss/\ss.length<=1048576/\ZS w k.an k.cn):k.op=op/\k.num=num/\k.text=nm/\k.kn=0/\AJ a k.an k.nn k.cn ss/\ss.length<=1048576/\ZS a k.an k.cn:=
 ⟨h.1,h.2.1,h.2.2.1,h.2.2.2.1,(NS b c h.2.2.2.2.1 h.2.2.2.2.2.2).1,h.2.2.2.2.2.1,(NS b c h.2.2.2.2.1 h.2.2.2.2.2.2).2⟩
theorem Tl.keep {P:Nat->Prop}{w f:Z}(a:w.heap.size<=f.heap.size)(d:∀b,P b->b<w.heap.size->f.heap[b]? =w.heap[b]?)(c:CW w f):∀{e:Ex} {k:K5},Tl P w e k->Tl P f e k
 |.un ..,k,⟨h1,h2,h3,h4,h5,h0,k1,h6,h7⟩=>⟨h1,h2,h3,h4,h5,h0,k1,Gw a h6 (fun b o e=>d b (h0 b o e)),h7.keep a d c⟩
 |.bin ..,k,⟨h1,h2,h3,h4,h5,h0,k1,k2,h6,h7,h8⟩=>⟨h1,h2,h3,h4,h5,h0,k1,k2,Gw a h6 (fun b o e=>d b (h0 b o e)),h7.keep a d c,h8.keep a d c⟩
 |.ite ..,k,⟨h1,h2,h3,h4,h5,h0,k1,k2,k3,h6,h7,h8,h9⟩=>⟨h1,h2,h3,h4,h5,h0,k1,k2,k3,Gw a h6 (fun b o e=>d b (h0 b o e)),h7.keep a d c,h8.keep a d c,h9.keep a d c⟩
 |.int ..,k,h=>Jp a c h
 |.text ..,k,h=>Jp a c h
 |.bool ..,k,h=>Jp a c h
 |.set ..,k,h=>Jp a c h
 |.name ..,k,h=>Jp a c h
 |.attr ..,k,h=>Jp a c h
 |.lett ..,k,h=>Jp a c h
def Cp (w0:Z) (lo hi:Nat) (w W:Z):Prop:=w.heap.size<=W.heap.size/\(∀b,b<w0.heap.size\/(lo<=b/\b<hi)->b<w.heap.size->W.heap[b]? =w.heap[b]?)/\CW w W
theorem Cp.of_below {w0:Z}{lo hi:Nat}{w a:Z}(h:An w a):Cp w0 lo hi w a:=⟨h.size,fun b _ c=>h.block b c,fun b d r=>r.after h NLN⟩
def Py (w0:Z) (lo hi:Nat) (w:Z) (k:K5) (e:Ex):Prop:=Tl (fun b=>b<w0.heap.size\/(lo<=b/\b<hi)) w e k
theorem Py.keep {w0:Z}{lo hi:Nat}{w w':Z}{k:K5}{e:Ex}(h:Py w0 lo hi w k e)(hk:Cp w0 lo hi w w'):Py w0 lo hi w' k e:=Tl.keep hk.1 hk.2.1 hk.2.2 h
theorem If {w0 w:Z}{lo hi:Nat}{k:K5}{e:Ex}(hk:e.kids=[])(h:Tq w e k):Py w0 lo hi w k e:=by
 cases e<;>first|exact h|cases hk
def SQ (w:Z) (a:Option jD) (n c:Nat) (ss:List ByteArray):Prop:=AJ w a n c ss/\ss.length<=1048576/\ZS w a c
def NmQ (w:Z) (a:Option jD) (N:List Nd):Prop:=∀j,(h:j<N.length)->∀b off,a=Y ⟨b,off,T⟩->∀an nn cn,w.cell? ⟨b,off+j*5+3,T⟩=Y (X an nn cn)->N[j].names.length<=1048576/\ZS w an cn
inductive Rx (op num:Int) (text:ByteArray) (ss:List ByteArray):List Ex->Ex->Prop
 |leaf (e:Ex) (hk:e.kids=[]) (h:Ed e=⟨op,num,text,ss,[]⟩):Rx op num text ss [] e
 |un (i:Int) (e0:Ex) (h:num=0/\text=⟨#[]⟩/\ss=[]):Rx op num text ss [e0] (.un i op e0)
 |bin (i:Int) (e0 e1:Ex) (h:num=0/\text=⟨#[]⟩/\ss=[]):Rx op num text ss [e0,e1] (.bin i op e0 e1)
 |ite (i:Int) (e0 e1 e2:Ex) (ho:op=27) (h:num=0/\text=⟨#[]⟩/\ss=[]):Rx op num text ss [e0,e1,e2] (.ite i e0 e1 e2)
theorem Afm {a:Z}{e:Ex}{ss:List ByteArray}{an:Option jD}{nn cn:Nat}{ka:Option jD}{kc:Nat}(hk:e.kids=[])(h:Ed e=⟨op,k,nm,ss,[]⟩)(b:SQ a an nn cn ss):Tq a e ⟨op,k,nm,an,nn,cn,ka,0,kc⟩:=by
 have c:op=(Ed e).op/\k=(Ed e).num/\nm=(Ed e).text/\(0 :Nat)=0/\AJ a an nn cn (Ed e).names/\(Ed e).names.length<=1048576/\ZS a an cn:=by
  rw[h];exact⟨rfl,rfl,rfl,rfl,b.1,b.2.1,b.2.2⟩
 cases e<;>first|exact c|cases hk
structure Tt (w0:Z) (B:Nat) (kv:jB) (vs:List K5) (bs:List Ex) (w:Z):Prop where
 own:w.ownsRow B 101 5 kv vs.length (vs.flatMap K5.cs)
 len:bs.length=vs.length
 each:∀j,(h1:j<vs.length)->(h2:j<bs.length)->∃lo hi,B<=lo/\hi<=w.heap.size/\(∀q,kv.ownBlock=Y q->q<lo\/hi<=q)/\Py w0 lo hi w vs[j] bs[j]
theorem Tt.below {w0:Z}{b:jB}{c:List K5}{w w':Z}(h:Tt w0 B b c bs w)(a:An w w'):Tt w0 B b c bs w':=
 ⟨Af h.own a NLN,h.len,fun j h1 d=>by
  obtain⟨lo,hi,a1,a2,a3,a4⟩:=h.each j h1 d;exact⟨lo,hi,a1,zC a2 a.size,a3,a4.keep (Cp.of_below a)⟩⟩
theorem Tt.set {w0:Z}{a:jB}{b:List K5}{w:Z}(h:Tt w0 B a b bs w)(p:jD)(u:jB)(hp:p.block<B)(h0:w0.heap.size<=p.block)(c:CW w (w.setCell p u)):Tt w0 B a b bs (w.setCell p u):=
 ⟨Ai h.own p u (fun q d=>by have:=(h.own.lt q d).1;omega),h.len,fun j h1 f=>by
  obtain⟨lo,hi,a1,a2,a3,a4⟩:=h.each j h1 f;exact⟨lo,hi,a1,by simpa using a2,a3,a4.keep ⟨by simp,fun q g i=>heap_setCell_other w p q u (by omega),c⟩⟩⟩
theorem Tt.snoc {w0:Z}{a:List K5}{w c:Z}{g cap:Nat}{k:K5}{b:Ex}(h:Tt w0 B d a bs w)(E:w0.heap.size<=B)(y:B<=lo)(t:∀q,d.ownBlock=Y q->q<lo)(hs:Py w0 lo w.heap.size w k b)
  (z:c.ownsRow B 101 5 (X (Y ⟨g,0,T⟩) (a.length+1) cap) (a.length+1) (a.flatMap K5.cs++k.cs))(m:(w.alloc o).grownBy c d.ownBlock)(hat:d.ownBlock=Y g\/g=w.heap.size+1):
  Tt w0 B (X (Y ⟨g,0,T⟩) (a.length+1) cap) (a++[k]) (bs++[b]) c:=by
 have A:(w.alloc o).heap.size=w.heap.size+1:=by simp
 have n:w.heap.size<=c.heap.size:=by have:=m.size;omega
 have u:∀q,q<w.heap.size->d.ownBlock≠Y q->c.heap[q]? =w.heap[q]? :=fun q h1 v=>(m.block q (by rw[A];omega) (fun e=>v e.symm)).trans (Below.heap_alloc w o q h1);have x:CW w c:=fun b F r=>(r.alloc o).grown m (fun e=>Ac r h.own (by decide) e.symm);refine⟨?_,by simp[h.len],fun j h1 v=>?_⟩
 ·rw[Z3,zB];simpa using z
 ·by_cases f:j<a.length
  ·obtain⟨l,i,a1,a2,a3,a4⟩:=h.each j f (by rw[h.len];exact f);rw[zi f,zi (by rw[h.len];exact f)];refine⟨l,i,a1,by omega,fun q p=>?_,a4.keep ⟨n,fun q C s=>u q s (fun e=>by have:=(h.own.lt q e).1;rcases a3 q e with h5|h5<;>omega),x⟩⟩;have e:g=q:=by simpa[Value.ownBlock]using p
   subst e;rcases hat with e|e
   ·exact a3 g e
   ·right;omega
  ·have D:j=a.length:=by simp at h1;omega
   subst D;have e1:(a++[k])[a.length]=k:=by simp
   have e2:(bs++[b])[a.length]=b:=by simp[<-h.len]
   rw[e1,e2];refine⟨lo,w.heap.size,y,n,fun q p=>?_,hs.keep ⟨n,fun q C s=>u q s (fun e=>by have:=(h.own.lt q e).1;have:=t q e;omega),x⟩⟩;have e:g=q:=by simpa[Value.ownBlock]using p
   subst e;rcases hat with e|e
   ·exact .inl (t g e)
   ·right;omega
theorem Tt.all {w0:Z}{lo:Nat}{ka:Option jD}{m kc:Nat}{f:List K5}{w:Z}(h:Tt w0 B (X ka m kc) f bs w)(g:f.length=m)(t:lo<=B)(op num:Int)(text:ByteArray)(an:Option jD)(nn cn:Nat)(ss:List ByteArray)(k:SQ w an nn cn ss)(e:Ex)(r:Rx op num text ss bs e):Py w0 lo w.heap.size w ⟨op,num,text,an,nn,cn,ka,m,kc⟩ e:=by
 have d:=Et (by have:=h.own;rw[g]at this;exact this) g;have n:bs.length=m:=by rw[h.len,g]
 have p:∀b o,ka=Y ⟨b,o,T⟩->(b<w0.heap.size\/(lo<=b/\b<w.heap.size)):=fun b o e=>by
  have e2:o=0:=by
   rcases h.own.2 with⟨hv,_⟩|⟨u,cap,v,hv,_⟩
   ·rw[e]at hv;cases hv
   ·rw[e]at hv;simp only[Value.slice.injEq,Option.some.injEq,Addr.mk.injEq]at hv;exact hv.1.2.1
  subst e2;subst e;have:=h.own.lt b rfl;exact .inr ⟨by omega,this.2⟩
 have a:∀j,(h1:j<f.length)->(q:j<bs.length)->Py w0 lo w.heap.size w f[j] bs[j]:=fun j h1 q=>by
  obtain⟨l,i,a1,a2,a3,a4⟩:=h.each j h1 q;exact a4.mono (fun b x=>by omega)
 cases r with
 |leaf e hk hx=>
  have:m=0:=by rw[<-n];rfl
  subst this;exact If hk (Afm hk hx k)
 |un i e0 c=>
  have:m=1:=by rw[<-n];rfl
  subst this
  match f,g,a,d with
  |[k0],_,a,d=>exact⟨rfl,c.1,c.2.1,by have:=k.1.len;rw[c.2.2]at this;exact this,rfl,p,k0,d,a 0 (by simp) (by simp)⟩
 |bin i e0 e1 c=>
  have:m=2:=by rw[<-n];rfl
  subst this
  match f,g,a,d with
  |[k0,k1],_,a,d=>exact⟨rfl,c.1,c.2.1,by have:=k.1.len;rw[c.2.2]at this;exact this,rfl,p,k0,k1,d,a 0 (by simp) (by simp),a 1 (by simp) (by simp)⟩
 |ite i e0 e1 e2 s c=>
  have:m=3:=by rw[<-n];rfl
  subst this
  match f,g,a,d with
  |[k0,k1,k2],_,a,d=>exact⟨s,c.1,c.2.1,by have:=k.1.len;rw[c.2.2]at this;exact this,rfl,p,k0,k1,k2,d,a 0 (by simp) (by simp),a 1 (by simp) (by simp),a 2 (by simp) (by simp)⟩
def XB (w0:Z) (b:Ex) (w:Z) (r:Ending) (w':Z):Prop:=∃k:K5,r=jF (jE #[U V k.op,U V k.num,Q k.text,X k.an k.nn k.cn,X k.ka k.kn k.kc])/\Py w0 w.heap.size w'.heap.size w' k b/\An w w'
theorem Jq (w0:Z)(a:Option jD)(n c:Nat)(N:List Nd)(az:IY w0 a n c N)(a0:NmQ w0 a N)(w:Z)(F:An w0 w)(i:Nat)(x:Nd)(hx:N[i]? =Y x)(bs:List Ex)(a1:bs.length=x.kids.length)(e:Ex)(a2:Rx x.op x.num x.text x.names bs e)
  (a3:∀j,(h:j<x.kids.length)->(bJ:j<bs.length)->∀aj,An w aj->Calls jL 53 #[X a n c,U V x.kids[j]] aj (XB w0 bs[j] aj)):
  Calls jL 53 #[X a n c,U V i] w (XB w0 e w):=by
 obtain⟨a4,a5,a6,a7,a8⟩:=info_parts Nq;have bK:=az.len;have hi:i<N.length:=(zZ.1 hx).1;have aA:N[i]=x:=(zZ.1 hx).2;have bL:(i:Int)<(n:Int):=by omega
 obtain⟨b,aB,rfl,H,an,nn,cn,I,l,J,c0,c1,c2,c3,c4,aC,K⟩:=az.cells i hi;rw[aA]at c0 c1 c2 K aC;have ak:=Ab (show SQ w0 an nn cn x.names from⟨aC,by have:=a0 i hi b aB rfl an nn cn c3;rw[aA]at this;exact this⟩);have a9:=Ab a2;replace c0:=(F.cell (by exact H)).trans c0;replace c1:=(F.cell (by exact H)).trans c1;replace c2:=(F.cell (by exact H)).trans c2;replace c3:=(F.cell (by exact H)).trans c3;replace c4:=(F.cell (by exact H)).trans c4;replace K:=K.below F NLN;replace H:=zR H F.size;have aD:=Ab K.len;have bM:=K.small;have aE:=Ab a1;have ba:=Ab a3;have aF:=Ab F;have bb:w0.heap.size<=w.heap.size:=F.size;have aG:=AN w Gm;have aH:=aG.alloc aG.size (EV x.op x.num x.text an nn cn I l J);have al:=aH.alloc aH.size (Bs x.op x.num x.text an nn cn T 0 0);have ao:=((Ah.new w #[U V 0,U V 0,Q ⟨#[]⟩,X T 0 0,X T 0 0] 101).alloc (EV x.op x.num x.text an nn cn I l J)).alloc (Bs x.op x.num x.text an nn cn T 0 0);have W:=(Ah.new (w.alloc Gm) #[U V x.op,U V x.num,Q x.text,X an nn cn,X I l J] 134).alloc (Bs x.op x.num x.text an nn cn T 0 0);have L:=Ah.new ((w.alloc Gm).alloc (EV x.op x.num x.text an nn cn I l J)) #[U V x.op,U V x.num,Q x.text,X an nn cn,X T 0 0] 101;have ap:(((w.alloc Gm).alloc (EV x.op x.num x.text an nn cn I l J)).alloc (Bs x.op x.num x.text an nn cn T 0 0)).heap.size=w.heap.size+3:=by simp
 simp only[World.size_alloc]at W L;go_enter func53,ntmps53
 go_wp2_with fail
 generalize (((w.alloc Gm).alloc (EV x.op x.num x.text an nn cn I l J)).alloc (Bs x.op x.num x.text an nn cn T 0 0))=bc at al ao W L ap|-;have aq:Tt w0 (w.heap.size+3) (X T 0 0) [] [] bc:=⟨World.ownsRow_nil _ _ _ _,rfl,fun j h=>absurd h (by simp)⟩
 generalize bd:w.heap.size=d at al ao W L ap aq bb|-;have aa:=Ab bd;generalize bN:d+1=M at W L|-;generalize bO:M+1=g at L|-;generalize bP:d+3=B at ap aq|-;have bf:d<M/\M<g/\g<B:=by omega
 have bg:=Ab K;go_loopw [25] (fun i wr=>∃ (j:Nat) (ar:jB) (f:List K5),j<=l/\i=U V j/\Hid (f.length=j)/\Ah wr g #[U V x.op,U V x.num,Q x.text,X an nn cn,ar] 101/\Ah wr M #[U V x.op,U V x.num,Q x.text,X an nn cn,X I l J] 134/\Ah wr d #[U V 0,U V 0,Q ⟨#[]⟩,X T 0 0,X T 0 0] 101/\Tt w0 B ar f (bs.take j) wr/\Below d w wr/\B<=wr.heap.size) (fun i _=>l-(intOf i).toNat)
 case atStart=>exact⟨0,_,[],zE _,rfl,Ab rfl,L,W,ao,aq,al,by omega⟩
 case round=>
  obtain⟨j,ar,f,bQ,rfl,aI,RT,aJ,aK,ab,au,bR⟩:=hrel;obtain⟨m,o,rfl,_⟩:=Ae ab.own;obtain⟨bS,bT,bU,bV,bh,bW⟩:=Aq RT;obtain⟨bX,n1,bY,bZ,b0,b1⟩:=Aq aJ;by_cases aL:j<l
  ·have b2:(j:Int)<(l:Int):=by omega
   have av:j<x.kids.length:=by rw[Aa aD];exact aL
   have aM:j<bs.length:=by rw[Aa aE];exact av
   have aN:An w wr:=by show Below _ _ _;rw[Aa aa];exact au
   obtain⟨b3,ok,rfl,b4,bi⟩:=((Aa bg).below aN NLN).cells j av;have aw:=Ab (Fd (Aa ba j av aM wr.drew aN.drew) (fun e w' ⟨k,h,_⟩=>⟨_,h⟩));have aO:=Ab (show bs.take (j+1)=bs.take j++[bs[j]]from zc aM);have aP:=Ab aL;generalize x.kids[j]=bj at bi aw;generalize bs[j]=bk at aw aO;have b5:f.length<=1048576:=by have:=Aa aI;omega
   have bl:=RT.after BRN.drew NLN;have bm:=ab.below BRN.drew;have sd:wr.drew.cell? ⟨g,4,T⟩=Y (X m f.length o):=bh;have bn:(Tryz.f53.name== "runtime.NumGoroutine")=jA:=by kernel_rfl
   have bo: Tryz.f53.body.isNone=jA:=by kernel_rfl
   have ac:∀q,(Value.slice m f.length o).ownBlock=Y q->B<=q/\q<wr.heap.size:=fun q O=>ab.own.lt q O;go_wp2_with fail
   go_region_law (first
    |(refine Bf rfl 53 _ func53 bn bo _ _ _ rfl (X (Y ⟨b,aB,T⟩) n c) (U V bj) rfl rfl _ (Aa aw) ?_;rintro b6 aQ ⟨bp,aR,aS,P⟩;obtain rfl:=AS aR;obtain⟨r,s,t,y,z,A,C,D,E⟩:=bp;dsimp only at aR aS|-;have aT:=bl.after P NLN;obtain⟨e0,e1,e2,e3,e4,b7⟩:=Aq aT;have aU:=bm.below P;have br:=World.ownsRow.alloc aU.own (Bs r s t y z A C D E);have ax:=aT.alloc (Bs r s t y z A C D E);obtain⟨b8,b9,ca,cb,cc,cd⟩:=Aq ax;have bt:=World.news_of_block (heap_alloc_new aQ (Bs r s t y z A C D E));have ce:=P.size)
    |(refine step_append_lies _ rfl _ _ 97 rfl B 101 a4 (jE #[U V 0,U V 0,Q ByteArray.empty,X T 0 0,X T 0 0]) 5 80 underlying97 a5 a6 a7 a8 rfl (by decide) (X m f.length o) f.length (f.flatMap K5.cs) rfl br ⟨aQ.heap.size,0,T⟩ 1 1 (K5.cs ⟨r,s,t,y,z,A,C,D,E⟩) rfl rfl bt (by intro u hu;simp[K5.cs]at hu;rcases hu with rfl|rfl|rfl|rfl|rfl<;>rfl) (by decide) (by unfold maxLen;omega) (by omega) (by have:wr.drew.heap.size=wr.heap.size:=rfl;simp;omega) _ rfl ?_;intro g7 G ad bu S hat cf;have ae:Ah ad g _ _:=⟨(S.block g ax.lt (fun e=>by have:=(ac _ e.symm).1;omega)).trans ax.out⟩;have cg:ad.cell? ⟨g,4,T⟩=Y (X m f.length o):=ae.cell 4;have ch:=ae.frozen 4))
   all_goals
    have ci:wr.drew.heap.size=wr.heap.size:=rfl;have bv:=aU.snoc (lo:=wr.drew.heap.size) (k:=⟨r,s,t,y,z,A,C,D,E⟩) (b:=bk) (by omega) (by omega) (fun q O=>by have:=(ac q O).2;omega) aS bu S (hat.imp id (fun e=>by rw[e];simp));have bw:=bv.set ⟨g,4,T⟩ (X (Y ⟨g7,0,T⟩) (f.length+1) G) bf.2.2 (by show w0.heap.size<=g;omega) (CW.set ae (by decide) _ _);have aV:=ae.set 4 (X (Y ⟨g7,0,T⟩) (f.length+1) G);simp only[zV,zX,zQ]at aV;have aW:∀q,q<B->Y q≠(Value.slice m f.length o).ownBlock:=fun q O e=>by have:=(ac q e.symm).1;omega
    have bx:=(((((aJ.after BRN.drew NLN).after P NLN).alloc (Bs r s t y z A C D E)).grown S (aW M (by omega))).setFar (p:=⟨g,4,T⟩) (by show M≠g;omega) (X (Y ⟨g7,0,T⟩) (f.length+1) G))
    have bz:=(((((aK.after BRN.drew NLN).after P NLN).alloc (Bs r s t y z A C D E)).grown S (aW d (by omega))).setFar (p:=⟨g,4,T⟩) (by show d≠g;omega) (X (Y ⟨g7,0,T⟩) (f.length+1) G))
    have bA:=((((au.drew).trans (P.mono (by omega))).alloc (by omega) (Bs r s t y z A C D E)).grown S (by simp;omega) (fun q O=>by have:=(ac q O).1;omega)).setCell (p:=⟨g,4,T⟩) (by show d<=g;omega) (X (Y ⟨g7,0,T⟩) (f.length+1) G);have bB:B<=(ad.setCell ⟨g,4,T⟩ (X (Y ⟨g7,0,T⟩) (f.length+1) G)).heap.size:=by have:=S.size;simp at this|-;omega
    have bC:=Ab (show(f++[(⟨r,s,t,y,z,A,C,D,E⟩:K5)]).length=j+1 by rw[zB,Aa aI];rfl);have bD:=Ab (show Tt w0 B (X (Y ⟨g7,0,T⟩) (f.length+1) G) (f++[(⟨r,s,t,y,z,A,C,D,E⟩:K5)]) (bs.take (j+1)) (ad.setCell ⟨g,4,T⟩ (X (Y ⟨g7,0,T⟩) (f.length+1) G)) by rw[Aa aO];exact bw);go_wp2
    go_roundw
    case rel=>exact⟨j+1,_,_,Aa aP,by go_num,bC,aV,bx,bz,Aa bD,bA,bB⟩
    case measure=>have:=Aa aP;simp[intOf];omega
  ·have e:j=l:=by omega
   subst e;have ay:=aK;obtain⟨cj,ck,cl,cm,co,cp⟩:=Aq ay;have af:=ay.set 0 (U V x.op);simp only[zV,zX]at af;obtain⟨cq,cr,ct,cu,cv,cw⟩:=Aq af;have ag:=af.set 1 (U V x.num);simp only[zV,zX,zQ]at ag;obtain⟨cx,cy,cz,cA,cB,cC⟩:=Aq ag;have ah:=ag.set 2 (Q x.text);simp only[zV,zX,zQ]at ah;obtain⟨cD,cE,cF,cG,cH,cI⟩:=Aq ah;have ai:=ah.set 3 (X an nn cn);simp only[zV,zX,zQ]at ai;obtain⟨cJ,cK,cL,cM,cN,cO⟩:=Aq ai;have aX:=ai.set 4 (X m f.length o);simp only[zV,zX,zQ]at aX;obtain⟨bE,s1,s2,bF,bG,_⟩:=Aq aX;have aY:=((((ab.set ⟨d,0,T⟩ (U V x.op) (by show d<B;omega) (by show w0.heap.size<=d;omega) (CW.set ay (by decide) _ _)).set ⟨d,1,T⟩ (U V x.num) (by show d<B;omega) (by show w0.heap.size<=d;omega) (CW.set af (by decide) _ _)).set ⟨d,2,T⟩ (Q x.text) (by show d<B;omega) (by show w0.heap.size<=d;omega) (CW.set ag (by decide) _ _)).set ⟨d,3,T⟩ (X an nn cn) (by show d<B;omega) (by show w0.heap.size<=d;omega) (CW.set ah (by decide) _ _)).set ⟨d,4,T⟩ (X m f.length o) (by show d<B;omega) (by show w0.heap.size<=d;omega) (CW.set ai (by decide) _ _);have aZ:=((((au.setCell (p:=⟨d,0,T⟩) (z0 d) (U V x.op)).setCell (p:=⟨d,1,T⟩) (z0 d) (U V x.num)).setCell (p:=⟨d,2,T⟩) (z0 d) (Q x.text)).setCell (p:=⟨d,3,T⟩) (z0 d) (X an nn cn)).setCell (p:=⟨d,4,T⟩) (z0 d) (X m f.length o);have bH:bs.take j=bs:=zf (by rw[Aa aE,Aa aD];exact NLN);rw[bH]at aY;have bI:=Ab (aY.all rfl (by omega:d<=B) x.op x.num x.text an nn cn x.names (by have q:=(Aa aF).trans ((show An w _ by show Below _ _ _;rw[Aa aa];exact aZ).mono (Aa aF).size);exact⟨(Aa ak).1.below q NLN,(Aa ak).2.1,(Aa ak).2.2.below q NLN⟩) e (Aa a9));go_wp2_with fail
   refine bodyPost_ret (v:= jE #[U V x.op,U V x.num,Q x.text,X an nn cn,X m f.length o]) (by simp[results,results53,go_sem,bE,s1,s2,bF,bG]) rfl ⟨⟨x.op,x.num,x.text,an,nn,cn,m,f.length,o⟩,rfl,?_,?_⟩
   ·rw[Aa aa];exact Aa bI
   ·show Below _ _ _;rw[Aa aa];exact aZ
def SM:Vv->Prop
 |.int n=>FJ n
 |.set ss=>ss.length<=1048576
 |_=>True
def Ix:Ex->Prop
 |.int _ n=>FJ n
 |.set _ _ _ _ ss=>ss.length<=1048576
 |.un _ _ k=>Ix k
 |.bin _ _ l r=>Ix l/\Ix r
 |.ite _ c t e=>Ix c/\Ix t/\Ix e
 |_=>True
theorem Agr (v:Vv)(h:SM v):Ix v.ex:=by cases v<;>exact h
theorem Ags {e:Ex}(h:e.cv=Y v)(a:Ix e):SM v:=by
 cases e<;>simp only[Ex.cv]at h<;>first|(cases h;exact a)|(cases h;trivial)|cases h
theorem TO {p:Int×Int}(h:Ge p= .ok v)(hp:p.2=0->FJ p.1):SM v:=by
 unfold Ge at h;split at h
 ·cases h;exact hp ‹_›
 ·cases h
theorem Agt (v:Int):(Nc v).2=0->FJ (Nc v).1:=fun h=>by
 unfold Nc at*;split at h
 ·rename_i q;rw[if_pos q];exact⟨q.1,q.2⟩
 ·cases h
theorem WF (op a b:Int):(Bz op a b).2=0->FJ (Bz op a b).1:=fun h=>by
 unfold Bz Aey Aez at*
 repeat' split at h
 all_goals first|(simp only[*,if_true,if_false]at*;exact Agt _ h)|(simp_all;done)|skip
theorem Afd (hv:SM v)(h:KV op v= .ok u):SM u:=by
 cases v with
 |int n=>simp only[KV]at h;split at h
         ·exact TO h (WF _ _ _)
         ·cases h
 |bool b=>simp only[KV]at h;split at h<;>cases h;trivial
 |set ss=>
  simp only[KV]at h;split at h
  ·cases h;have:ss.length<=1048576:=hv;exact⟨by omega,by omega⟩
  ·cases h
 |text s=>cases h
theorem Ado {ss tt:List ByteArray}(h:Gn (JQ ss tt)= .ok v):SM v:=by
 unfold Gn at h;split at h
 ·cases h;rename_i a;unfold JQ at*;split at a
  ·rename_i hp;rw[dif_pos hp];have q:=Classical.choose_spec hp;cases hv:(AR ss&&AR tt)with
   |false=>have:=(q.bad hv).2;rw[a]at this;cases this
   |true=>
    obtain⟨M,_,h1,b⟩:=q.good hv;by_cases c:M.length<=64
    ·show(Classical.choose hp).1.length<=1048576;rw[(b c).1];omega
    ·have:=(h1 (by omega)).2;rw[a]at this;cases this
  ·cases a
 ·cases h
theorem WG {w u:Vv}(hv:SM v)(a:SM w)(h:Eu op v w= .ok u):SM u:=by
 unfold Eu at h;split at h
 ·cases h;trivial
 split at h
 ·cases h;trivial
 split at h
 ·split at h<;>cases h;trivial
 ·rename_i ss tt;have hs:ss.length<=1048576:=hv;split at h
  ·exact Ado h
  split at h
  ·cases h;show(DB ss tt).length<=1048576;unfold DB;split
   ·exact zC (IP _ _ _) hs
   ·exact zE _
  split at h
  ·cases h;show(Cb ss tt).length<=1048576;unfold Cb;split
   ·exact zC (IP _ _ _) hs
   ·exact zE _
  split at h<;>cases h
  trivial
 ·split at h
  ·cases h;trivial
  split at h
  ·cases h;trivial
  split at h
  ·exact TO h (WF _ _ _)
  ·cases h
 ·cases h
theorem Jl {e:Ex}(hc:e.con=R)(a:Ix e)(h:H4 rq0 [] e= .ok v):SM v:=by
 cases e<;>first|(cases h;exact a)|(cases h;trivial)|cases hc
theorem Adp {e c:Ex}(d:Ix e)(h:AP e=Y c):Ix c:=by
 unfold AP at h;split at h
 ·cases h
 split at h
 ·rename_i hk;split at h
  ·rename_i v hv;cases h;refine Agr v ?_;cases e with
   |un i op k=>
    rw[H4]at hv;have m:k.con=R:=by simpa[Ex.kids]using hk
    cases a:H4 rq0 [] k with
    |err c=>rw[a]at hv;cases hv
    |ok x=>rw[a]at hv;exact Afd (Jl m d a) hv
   |bin i op l r=>
    rw[H4]at hv;have f:l.con=R/\r.con=R:=by simpa[Ex.kids]using hk
    cases a:H4 rq0 [] l with
    |err c=>rw[a]at hv;cases hv
    |ok x=>
     rw[a]at hv;dsimp only at hv;split at hv
     ·cases hv;exact Jl f.1 d.1 a
     ·cases g:H4 rq0 [] r with
      |err c=>rw[g]at hv;cases hv
      |ok y=>
       rw[g]at hv;dsimp only at hv
       first
       |exact WG (Jl f.1 d.1 a) (Jl f.2 d.2 g) hv
       |(split at hv
         ·cases hv;exact Jl f.2 d.2 g
         ·exact WG (Jl f.1 d.1 a) (Jl f.2 d.2 g) hv)
   |ite i x y z=>
    rw[H4]at hv;have j:x.con=R/\y.con=R/\z.con=R:=by simpa[Ex.kids]using hk
    cases a:H4 rq0 [] x with
    |err c=>rw[a]at hv;cases hv
    |ok b=>
     rw[a]at hv;cases b with
     |bool b=>cases b
              ·exact Jl j.2.2 d.2.2 hv
              ·exact Jl j.2.1 d.2.1 hv
     |_=>cases hv
   |_=>simp[Ex.kids]at*
  ·cases h
 ·cases h
theorem Adq {ls:List Ex}(F:∀c∈ls,Ix c){e c:Ex}(f:Ix e)(h:AV ls e=Y c):Ix c:=by
 cases e with
 |lett i n=>
  rw[AV]at h;split at h
  ·rename_i d hd;split at h
   ·cases h;exact F _ (zu hd)
   ·cases h
  ·cases h
 |un i op k=>
  rw[AV]at h;split at h
  ·cases k with
   |un G o j=>
    rw[SJ]at h;split at h<;>cases h
    exact f
   |_=>cases h
  ·cases h
 |bin i op x y=>
  rw[AV]at h;have a:∀{z:Ex},z=x\/z=y->Ix z:=fun q=>q.elim (fun e=>e ▸ f.1) (fun e=>e ▸ f.2);by_cases g:op=25
  ·subst g;exact a (FK h)
  by_cases l:op=26
  ·subst l;exact a (FK h)
  by_cases m:op=16
  ·subst m;exact a (Kf h)
  by_cases p:op=17
  ·subst p;exact a (MN h)
  by_cases r:op=18
  ·subst r;rcases Kg h with e|e
   ·exact a (.inl e)
   ·rw[e];exact zE _
  by_cases s:op=11
  ·subst s;exact a (Rh h)
  by_cases t:op=12
  ·subst t;exact a (FL h)
  by_cases u:op=13
  ·subst u;exact a (MO h)
  by_cases v:op=14
  ·subst v;exact a (FL h)
  by_cases w:op=19
  ·subst w;obtain⟨b,rfl⟩:=AW h;trivial
  by_cases A:op=22
  ·subst A;obtain⟨b,rfl⟩:=AW h;trivial
  by_cases B:op=20
  ·subst B;obtain⟨b,rfl⟩:=AW h;trivial
  by_cases C:op=21
  ·subst C;obtain⟨b,rfl⟩:=AW h;trivial
  by_cases D:op=24
  ·subst D;obtain⟨b,rfl⟩:=F7 h;trivial
  by_cases E:op=23
  ·subst E;obtain⟨b,rfl⟩:=MM h;trivial
  simp[DP,g,l,m,p,r,s,t,u,v,w,A,B,C,D,E]at h
 |ite i x y z=>
  rw[AV]at h
  repeat' split at h
  all_goals first|(cases h;first|exact f.2.1|exact f.2.2)|cases h
 |_=>cases h
theorem Is {ls:List Ex}(b:∀c∈ls,Ix c){e:Ex}(a:Ix e):Ix (Ie ls e):=by
 unfold Ie;cases d:AP e with
 |some c=>exact Adp a d
 |none=>
  cases f:AV ls e with
  |none=>exact a
  |some c=>exact Adq b a f
theorem GQ {ls:List Ex}(b:∀c∈ls,Ix c):∀(e:Ex),Ix e->Ix (AX ls e)
 |.un i op k,h=>by rw[AX];exact Is b (show Ix (.un i op _)from GQ b k h)
 |.bin i op x y,h=>by rw[AX];exact Is b (show Ix (.bin i op _ _)from⟨GQ b x h.1,GQ b y h.2⟩)
 |.ite i x y z,h=>by rw[AX];exact Is b (show Ix (.ite i _ _ _)from⟨GQ b x h.1,GQ b y h.2.1,GQ b z h.2.2⟩)
 |.int i n,h=>by rw[AX];exact Is b h;all_goals (intros;simp_all)
 |.text i n,h=>by rw[AX];exact Is b h;all_goals (intros;simp_all)
 |.bool i n,h=>by rw[AX];exact Is b h;all_goals (intros;simp_all)
 |.set i a n c ss,h=>by rw[AX];exact Is b h;all_goals (intros;simp_all)
 |.name i n,h=>by rw[AX];exact Is b h;all_goals (intros;simp_all)
 |.attr i n,h=>by rw[AX];exact Is b h;all_goals (intros;simp_all)
 |.lett i n,h=>by rw[AX];exact Is b h;all_goals (intros;simp_all)
section
open Go.RowKit Go.Lib
theorem AcH {g:Nat}{v v':jB}(hg:w.grownBy w' v.ownBlock)(a:∀q,v'.ownBlock=Y q->v.ownBlock=Y q\/q=w.heap.size)(u:jB):WK g w v (w'.setCell ⟨g,3,T⟩ u) v':=
 ⟨fun k hk b c=>(heap_setCell_other w' ⟨g,3,T⟩ k u b).trans (hg.block k hk c),fun q d=>by
  rcases a q d with e|e
  ·exact .inl e
  ·right;omega,by have:=hg.size;simpa using this⟩
theorem V5 (g:Nat)(h0 h1 d:Int)(v:jB)(O:List Int)(s:ByteArray)(w:Z)(t:Wr w g h0 h1 d v O)(u:O.length<=100000000)(hs:s.size<=1048576):
  Calls jL 59 #[jH (Y ⟨g,0,T⟩),Q s] w fun e w'=>VI w g h0 h1 d v (O++Bn s) e w':=by
 obtain⟨i,hi,y,z,A⟩:=info_parts Mm;go_enter func59,ntmps59
 go_wp2_with (first
  |(go_at_call 36;refine(Cy g h0 h1 d v O _ 1 _ t (by omega) u).mono ?_;rintro e w2 ⟨rfl,H,b,K2,B⟩;obtain⟨x,c,rfl⟩:=Au b.own;have k:(O++BS (↑s.size) 1).length=O.length+1:=(by rw[zB,AZ]);obtain⟨a,l⟩:∃a,Hid (O++BS (↑s.size) 1=a):=⟨_,Ab rfl⟩;rw[Aa l]at b K2 k;have I:a.length<=100000001:=(by omega);clear k;have C:=b.row.cell 3;have J:=b.row.frozen 3;simp only[List.getElem?_toArray,z1,z4]at C;have D:=b.row.lt;have m:∀q,(Value.slice x a.length c).ownBlock=Y q->g+1<=q:=fun q f=>(b.own.lt q f).1)
  |(at_builtin;refine Di rfl _ _ 22 9 rfl (g+1) 5 i underlying22 underlying9 hi y z A (.slice x a.length c) a.length (AA a) rfl b.own s rfl (by unfold maxLen;omega) (by omega) (by omega) ?_;intro K n o h hat;have j:Ah n g #[U V h0,U V h1,U V d,X x a.length c] 39:=⟨(h.block g D (fun e=>by have:=m g e.symm;omega)).trans b.row.out⟩;have E:=j.cell 3;have L:=j.frozen 3;simp only[List.getElem?_toArray,z1,z4]at E;obtain⟨r,c3,F⟩:=Au o;subst F))
 have G:Wr (n.setCell ⟨g,3,T⟩ (X r (a.length+s.size) c3)) g h0 h1 d (X r (a.length+s.size) c3) (a++KM s):=⟨j.set 3 _,Nw (Ty o)⟩
 refine bodyPost_end (by simp[results,results59,go_sem]) rfl ⟨rfl,_,?_,K2.trans (AcH h hat _),?_⟩
 ·rw[Bn,<-zJ,Aa l];exact G
 ·exact(B.grown h (by omega) (fun q f=>by have:=m q f;omega)).setCell (p:=⟨g,3,T⟩) NLN _
set_option maxRecDepth 100000
set_option maxHeartbeats 3200000
theorem Jh (a b:Option jD)(n c m d:Nat)(s:Int)(w:Z)(f:n<=1048576)(hm:m<=1048576):
  Calls jL 13 #[jE #[X a n c,U V s,X b m d]] w fun e w'=>e=jF (jE #[U V n,U V s,U V m])/\An w w':=by
 go_enter func13,ntmps13
 go_wp2
 exact bodyPost_ret (v:= jE #[U V n,U V s,U V m]) (by simp[results,results13,go_sem]) rfl ⟨rfl,(AN w _).alloc (by simp) _⟩
theorem Wb (n m:Nat)(s:Int)(w:Z):
  Calls jL 31 #[jE #[U V n,U V s,U V m]] w fun e w'=>e=jF (.bool (decide (n<=4000/\m<=20000/\0<=s/\s<=600)))/\An w w':=by
 go_enter func31,ntmps31
 go_wp2
 all_goals
  go_ret
  refine⟨Ag ?_,AN w _⟩;rw[zY];simp
  try omega
theorem JY (p:b->Bool)(L:List b):L.all p=R↔∀j,(h:j<L.length)->p L[j]=R:=by
 rw[zt];constructor
 ·intro h j a;exact h _ (zH a)
 ·intro h x hx;obtain⟨j,a,rfl⟩:=z9 hx;exact h j a
theorem GL (a b:Option jD)(n c m d:Nat)(s:Int)(P:List Vl)(I:List Cg)(w:Z)(B:Vls w a n c P)(F:Iss w b m d I):
  Calls jL 12 #[jE #[X a n c,U V s,X b m d]] w fun e w'=>e=jF (.bool (Da P s I))/\An w w':=by
 have af:=B.small;have hm:=F.small;have ag:=Ab B.len;have ah:=Ab F.len;have C:=Ab (show Da P s I=(decide (n<=4000/\m<=20000/\0<=s/\s<=600)&&P.all CH&&I.all Gl) by rw[Da,B.len,F.len]);have ai:=Ah.new w #[X a n c,U V s,X b m d] 26;have G:=AN w (.cells #[X a n c,U V s,X b m d] 26);generalize Da P s I=x at C|-;generalize aj:decide (n<=4000/\m<=20000/\0<=s/\s<=600)=ft at C;have ak:=Ab aj;clear aj;go_enter func12,ntmps12
 cases ft
 ·have u:=Ab (show x=jA by rw[Aa C];rfl);go_wp2_with (first
   |(go_at_call 13;refine(Jh _ _ _ _ _ _ _ _ af hm).mono ?_;rintro e w2 ⟨rfl,y⟩)
   |(go_at_call 31;refine(Wb _ _ _ _).mono ?_;rintro e au ⟨rfl,H⟩;rw[Aa ak]))
  go_ret
  exact⟨Ag (Aa u).symm,G.trans ((y.trans (H.mono y.size)).mono G.size)⟩
 ·have K:=Ab (show x=(P.all CH&&I.all Gl) by rw[Aa C,zr]);clear C;go_wp2_with (first
   |(go_at_call 13;refine(Jh _ _ _ _ _ _ _ _ af hm).mono ?_;rintro e w2 ⟨rfl,y⟩)
   |(go_at_call 31;refine(Wb _ _ _ _).mono ?_;rintro e au ⟨rfl,H⟩;rw[Aa ak];have J:=y.trans (H.mono y.size);obtain⟨L,M,N⟩:=Ao (ai.after J NLN)))
  have al:=G.trans (J.mono G.size);clear y H;go_loopw [14] (fun i wr=>∃k:Nat,k<=n/\i=U V k/\An w wr/\Ah wr w.heap.size #[X a n c,U V s,X b m d] 26/\Hid (∀j,(g:j<P.length)->j<k->CH P[j]=R)) (fun i _=>n-(intOf i).toNat)
  case atStart=>exact⟨0,zE _,rfl,al,ai.after J NLN,Ab (fun j _ h=>absurd h (by omega))⟩
  case round=>
   obtain⟨k,hk,rfl,l,O,o⟩:=hrel;clear L M N J al;by_cases D:k<n
   ·have S:(k:Int)<(n:Int):=by omega
    have A:k<P.length:=by rw[Aa ag];exact D
    have W:=B.sizes P[k] (zH A);obtain⟨av,aw,rfl,ax,an,nn,cn,aa,ab,ay,az,ao⟩:=(B.below l NLN).cells k A;have p:=Ab (show CH P[k]=jA->x=jA from fun e=>by
     rw[Aa K,show P.all CH=jA by rw[<-Bool.not_eq_true,JY];intro h;rw[h k A]at e;cases e];rfl)
    have q:=Ab (show CH P[k]=R->∀j,(g:j<P.length)->j<k+1->CH P[j]=R from fun e j g h'=>by
     by_cases ac:j=k
     ·subst ac;exact e
     ·exact Aa o j g (by omega))
    have E:=Ab D;clear o;generalize P[k]=z at aa ab ay az W ao p q;have r:=l.alloc l.size (.cells #[U V z.kind,U V z.num,Q z.text,X an nn cn] 44);have ap:=AN wr (.cells #[U V z.kind,U V z.num,Q z.text,X an nn cn] 44);have aq:=ao.below ap NLN;have aA:=O.after ap NLN;cases hv:CH z
    ·have u:=Ab (Aa p hv);have v:=Ab hv;clear hv p q;go_wp2_with (go_at_call 32;refine(JX z an nn cn _ aq W).mono ?_;rintro e ad ⟨rfl,t⟩;rw[Aa v])
     go_ret
     exact⟨Ag (Aa u).symm,r.trans (t.mono r.size)⟩
    ·have ae:=Ab (Aa q hv);have v:=Ab hv;clear hv p q;go_wp2_with (go_at_call 32;refine(JX z an nn cn _ aq W).mono ?_;rintro e ad ⟨rfl,t⟩;rw[Aa v])
     go_roundw
     case rel=>exact⟨k+1,Aa E,by go_num,r.trans (t.mono r.size),aA.after t NLN,ae⟩
     case measure=>have:=Aa E;simp[intOf];omega
   ·have ar:=Ab (show x=I.all Gl by rw[Aa K,(JY CH P).2 (fun j g=>Aa o j g (by have:=Aa ag;omega)),zr]);have S: ¬ ((k:Int)<(n:Int)):=by omega
    obtain⟨L,M,N⟩:=Ao O;have aB:=Ab l;clear o K l;go_wp2_with fail
    go_loopw [25] (fun i wr=>∃k:Nat,k<=m/\i=U V k/\An w wr/\Hid (∀j,(g:j<I.length)->j<k->Gl I[j]=R)) (fun i _=>m-(intOf i).toNat)
    case atStart=>exact⟨0,zE _,rfl,Aa aB,Ab (fun j _ h=>absurd h (by omega))⟩
    case round=>
     obtain⟨f,aC,rfl,l,o⟩:=hrel;clear O L M N;by_cases D:f<m
     ·have S:(f:Int)<(m:Int):=by omega
      have A:f<I.length:=by rw[Aa ah];exact D
      obtain⟨av,aw,rfl,ax,aa,ab⟩:=(F.below l NLN).cells f A;have p:=Ab (show Gl I[f]=jA->x=jA from fun e=>by
       rw[Aa ar,<-Bool.not_eq_true,JY];intro h;rw[h f A]at e;cases e)
      have q:=Ab (show Gl I[f]=R->∀j,(g:j<I.length)->j<f+1->Gl I[j]=R from fun e j g h'=>by
       by_cases ac:j=f
       ·subst ac;exact e
       ·exact Aa o j g (by omega))
      have E:=Ab D;clear o;generalize I[f]=z at aa ab p q;have r:=l.alloc l.size (.cells #[U V z.op,U V z.arg] 49);cases hv:Gl z
      ·have u:=Ab (Aa p hv);have v:=Ab hv;clear hv p q;go_wp2_with (go_at_call 33;refine(Mz z _).mono ?_;rintro e ad ⟨rfl,t⟩;rw[Aa v])
       go_ret
       exact⟨Ag (Aa u).symm,r.trans (t.mono r.size)⟩
      ·have ae:=Ab (Aa q hv);have v:=Ab hv;clear hv p q;go_wp2_with (go_at_call 33;refine(Mz z _).mono ?_;rintro e ad ⟨rfl,t⟩;rw[Aa v])
       go_roundw
       case rel=>exact⟨f+1,Aa E,by go_num,r.trans (t.mono r.size),ae⟩
       case measure=>have:=Aa E;simp[intOf];omega
     ·have u:=Ab (show x=R by rw[Aa ar];exact(JY Gl I).2 (fun j g=>Aa o j g (by have:=Aa ah;omega)));have S: ¬ ((f:Int)<(m:Int)):=by omega
      clear o;go_wp2
      go_ret
      exact⟨Ag (Aa u).symm,l⟩
def Eo (P:List Vl) (s:Int) (I:List Cg):List Int:=if Da P s I then Fb P s I else []
def AcJ (w:Z) (R:List Int) (e:Ending) (w':Z):Prop:=∃v,e=jF v/\w'.ownsRow w.heap.size 5 1 v R.length (AA R)/\An w w'
theorem Qa (P:List Vl)(s:Int)(I:List Cg):(Eo P s I).length<=20000000:=by
 rw[Eo];split
 ·rename_i h;rw[Da,zD,zD]at h;have h1:=of_decide_eq_true h.1.1;have a:=QK Cw 4000 P (fun x hx=>Qq (zt.1 h.1.2 x hx));have b:=QK I9 3 I (fun x _=>by rw[AcK];exact NLN);rw[Fb];simp only[zB,AZ,List.length_cons,List.length_nil];omega
 ·simp
end
abbrev AI:=List Int×Bool
def Be (n:Nat) (s:AI):List Int×AI:=if s.1.length<n then ([],s.1,R)else (s.1.take n,s.1.drop n,s.2)
def BO (n:Nat) (s:AI):List Int×AI:=if s.1.length<n then ([],[],R)else (s.1.take n,s.1.drop n,s.2)
def CL (L:List Int):Int:=L.foldl (fun v c=>wrap64 (v*256+c)) 0
def Bl {α β:Type} (f:AI->α×AI) (k:α->AI->β×AI):AI->β×AI:=fun s=>k (f s).1 (f s).2
def rt {α:Type} (a:α):AI->α×AI:=fun s=>(a,s)
def AG (n:Nat):AI->Int×AI:=Bl (Be n) fun a=>rt (CL a)
def At (n:Nat):AI->Int×AI:=Bl (BO n) fun a=>rt (CL a)
def Fr (L:List Int):ByteArray:=⟨(L.map fun x=>UInt8.ofNat x.toNat).toArray⟩
def DF:AI->ByteArray×AI:=Bl (AG 1) fun k=>Bl (Be k.toNat) fun a=>rt (Fr a)
def ES:AI->ByteArray×AI:=Bl (At 1) fun k=>Bl (BO k.toNat) fun a=>rt (Fr a)
def Av {α:Type} (f:AI->α×AI):Nat->AI->List α×AI
 |0,s=>([],s)
 |k+1,s=>if s.2 then ([],s)else ((f s).1 ::(Av f k (f s).2).1,(Av f k (f s).2).2)
def Dw {α:Type} (f:AI->α×AI):Nat->AI->List α×AI
 |0,s=>([],s)
 |k+1,s=>((f s).1 ::(Dw f k (f s).2).1,(Dw f k (f s).2).2)
def FQ (k:Int):AI->Vl×AI:=
 if k=1 then Bl (AG 1) fun a=>rt ⟨k,a,⟨#[]⟩,[]⟩
 else if k=2 then Bl (AG 8) fun a=>rt ⟨k,a,⟨#[]⟩,[]⟩
 else if k=3 then Bl DF fun a=>rt ⟨k,0,a,[]⟩
 else if k=4 then Bl (AG 1) fun n=>Bl (Av DF n.toNat) fun a=>rt ⟨k,0,⟨#[]⟩,a⟩
 else rt ⟨k,0,⟨#[]⟩,[]⟩
def JC:AI->Vl×AI:=Bl (AG 1) FQ
def Jx (k:Int):AI->Vl×AI:=
 if k=1 then Bl (At 1) fun a=>rt ⟨k,a,⟨#[]⟩,[]⟩
 else if k=2 then Bl (At 8) fun a=>rt ⟨k,a,⟨#[]⟩,[]⟩
 else if k=3 then Bl ES fun a=>rt ⟨k,0,a,[]⟩
 else if k=4 then Bl (At 1) fun n=>Bl (Dw ES n.toNat) fun a=>rt ⟨k,0,⟨#[]⟩,a⟩
 else rt ⟨k,0,⟨#[]⟩,[]⟩
def KZ:AI->Vl×AI:=Bl (At 1) Jx
def IF:AI->Cg×AI:=Bl (AG 1) fun a=>Bl (AG 2) fun b=>rt ⟨a,b⟩
def LJ:AI->Cg×AI:=Bl (At 1) fun a=>Bl (At 2) fun b=>rt ⟨a,b⟩
structure Cd where
 pool:List Vl
 slots:Int
 ins:List Cg
def DA:AI->Cd×AI:=Bl (AG 2) fun n=>Bl (Av JC n.toNat) fun p=>Bl (AG 2) fun sl=>Bl (AG 2) fun m=>Bl (Av IF m.toNat) fun i=>rt ⟨p,sl,i⟩
def EC:AI->Cd×AI:=Bl (At 2) fun n=>Bl (Av KZ n.toNat) fun p=>Bl (At 2) fun sl=>Bl (At 2) fun m=>Bl (Av LJ m.toNat) fun i=>rt ⟨p,sl,i⟩
def CF {α:Type} (f g:AI->α×AI):Prop:=∀s:AI,(s.2=R->(f s).2.2=R/\(g s).2.2=R)/\(s.2=jA->f s=g s\/((f s).2.2=R/\(g s).2.2=R))
theorem CF.bnd {d:Type}{f g:AI->d×AI}{b c:d->AI->j×AI}(h:CF f g)(h':∀a,CF (b a) (c a)):CF (Bl f b) (Bl g c):=fun s=>by
 refine⟨fun hs=>⟨((h' _ _).1 ((h s).1 hs).1).1,((h' _ _).1 ((h s).1 hs).2).2⟩,fun hs=>?_⟩;rcases(h s).2 hs with e|⟨e1,e2⟩
 ·show b (f s).1 (f s).2=c (g s).1 (g s).2\/(b (f s).1 (f s).2).2.2=R/\(c (g s).1 (g s).2).2.2=R;rw[e];cases i:(g s).2.2 with
  |true=>exact .inr ((h' _ _).1 i)
  |false=>exact(h' _ _).2 i
 ·exact .inr ⟨((h' _ _).1 e1).1,((h' _ _).1 e2).2⟩
theorem CF.rt (a:b):CF (rt a) (rt a):=fun s=>⟨fun h=>⟨h,h⟩,fun _=> .inl rfl⟩
theorem NF (n:Nat):CF (Be n) (BO n):=fun s=>by
 unfold Be BO;by_cases h:s.1.length<n
 ·simp[h]
 ·rw[if_neg h,if_neg h];exact⟨fun e=>⟨e,e⟩,fun _=> .inl rfl⟩
theorem DN (n:Nat):CF (AG n) (At n):=(NF n).bnd fun a=>CF.rt _
theorem NG:CF DF ES:=(DN 1).bnd fun k=>(NF k.toNat).bnd fun a=>CF.rt _
theorem BK {a:Type}{f:AI->a×AI} :∀(k:Nat) (s:AI),s.2=R->(Av f k s).2.2=R
 |0,s,h=>h
 |k+1,s,h=>by rw[Av,if_pos h];exact h
theorem Gq {a:Type}{f g:AI->a×AI}(h:CF f g):∀(k:Nat) (s:AI),s.2=R->(Dw g k s).2.2=R
 |0,s,hs=>hs
 |k+1,s,hs=>by rw[Dw];exact Gq h k _ ((h s).1 hs).2
theorem NH {b:Type}{f g:AI->b×AI}(h:CF f g):∀k,CF (Av f k) (Av g k)
 |0=>fun s=>⟨fun e=>⟨e,e⟩,fun _=> .inl rfl⟩
 |k+1=>fun s=>by
  refine⟨fun e=>⟨BK _ _ e,BK _ _ e⟩,fun e=>?_⟩;simp only[Av,e];have c:=NH h k;rcases(h s).2 e with h1|⟨h1,d⟩
  ·simp only[h1];cases a:(g s).2.2 with
   |true=>exact .inr ⟨BK _ _ a,BK _ _ a⟩
   |false=>
    rcases(c (g s).2).2 a with e1|e1
    ·left;simp[e1]
    ·right;simpa using e1
  ·exact .inr ⟨BK _ _ h1,BK _ _ d⟩
theorem QP {b:Type}{f g:AI->b×AI}(h:CF f g):∀k,CF (Av f k) (Dw g k)
 |0=>fun s=>⟨fun e=>⟨e,e⟩,fun _=> .inl rfl⟩
 |k+1=>fun s=>by
  refine⟨fun e=>⟨BK _ _ e,Gq h _ _ e⟩,fun e=>?_⟩;simp only[Av,Dw,e];have c:=QP h k;rcases(h s).2 e with h1|⟨h1,d⟩
  ·simp only[h1];cases a:(g s).2.2 with
   |true=>exact .inr ⟨BK _ _ a,Gq h _ _ a⟩
   |false=>
    rcases(c (g s).2).2 a with e1|e1
    ·left;simp[e1]
    ·right;simpa using e1
  ·exact .inr ⟨BK _ _ h1,Gq h _ _ d⟩
theorem AcO:CF JC KZ:=(DN 1).bnd fun k=>by
 unfold FQ Jx;by_cases h1:k=1
 ·rw[if_pos h1,if_pos h1];exact(DN 1).bnd fun a=>CF.rt _
 rw[if_neg h1,if_neg h1];by_cases b:k=2
 ·rw[if_pos b,if_pos b];exact(DN 8).bnd fun a=>CF.rt _
 rw[if_neg b,if_neg b];by_cases c:k=3
 ·rw[if_pos c,if_pos c];exact NG.bnd fun a=>CF.rt _
 rw[if_neg c,if_neg c];by_cases d:k=4
 ·rw[if_pos d,if_pos d];exact(DN 1).bnd fun n=>(QP NG n.toNat).bnd fun a=>CF.rt _
 rw[if_neg d,if_neg d];exact CF.rt _
theorem AcP:CF IF LJ:=(DN 1).bnd fun a=>(DN 2).bnd fun b=>CF.rt _
theorem NI:CF DA EC:=(DN 2).bnd fun n=>(NH AcO n.toNat).bnd fun p=>(DN 2).bnd fun sl=>(DN 2).bnd fun m=>(NH AcP m.toNat).bnd fun i=>CF.rt _
def AB (L:List Int):Prop:=∀x∈L,0<=x/\x<256
theorem AB.app {A B:List Int}(h:AB (A++B)):AB A/\AB B:=⟨fun x hx=>h x (Z8 _ hx),fun x hx=>h x (List.mem_append_right _ hx)⟩
theorem AB.take {A:List Int}(h:AB A)(n:Nat):AB (A.take n):=fun x hx=>h x (List.mem_of_mem_take hx)
theorem AB.drop {A:List Int}(h:AB A)(n:Nat):AB (A.drop n):=fun x hx=>h x (List.mem_of_mem_drop hx)
theorem UD (x:Int):∃q,wrap64 x=x+q*18446744073709551616:=by
 refine⟨(wrap64 x-x) / 18446744073709551616,?_⟩;unfold wrap64;omega
theorem AcQ (x c:Int)(h0: 0<=c)(h1:c<256):BQ (wrap64 (x*256+c)) 0=c:=by
 obtain⟨q,a⟩:=UD (x*256+c);rw[a];unfold BQ;simp only[Nat.mul_zero,Int.pow_zero,Int.ediv_one];omega
theorem AcR (x c:Int)(h0: 0<=c)(h1:c<256):∀j,j<7->BQ (wrap64 (x*256+c)) (j+1)=BQ x j:=by
 obtain⟨q,a⟩:=UD (x*256+c);rw[a];intro j b;have:j=0\/j=1\/j=2\/j=3\/j=4\/j=5\/j=6:=by omega
 unfold BQ;rcases this with rfl|rfl|rfl|rfl|rfl|rfl|rfl<;>simp<;>omega
theorem Wh (x c:Int)(h0: 0<=c)(h1:c<256):∀w,w<=7->BS (wrap64 (x*256+c)) (w+1)=BS x w++[c]
 |0,_=>by simp[BS,AcQ x c h0 h1]
 |w+1,h=>by
  have a:=Wh x c h0 h1 w (by omega);rw[BS,AcR x c h0 h1 w (by omega),a];rfl
theorem Kr (L:List Int)(c:Int):CL (L++[c])=wrap64 (CL L*256+c):=by simp[CL,List.foldl_append]
theorem Wi:∀(n:Nat) (L:List Int),L.length=n->n<=8->AB L->BS (CL L) n=L
 |0,L,h,_,_=>by
  have:L=[]:=zj h;subst this;rfl
 |n+1,L,h,h8,ok=>by
  have a:L≠ []:=by intro e;subst e;simp at h
  have b:=List.dropLast_concat_getLast a;have hc:=ok _ (List.getLast_mem a);have hd:L.dropLast.length=n:=by rw[List.length_dropLast,h];rfl
  have c:=Wi n L.dropLast hd (by omega) (fun x hx=>ok x (List.dropLast_subset L hx))
  conv=>lhs;rw[<-b,Kr]
  rw[Wh _ _ hc.1 hc.2 n (by omega),c,b]
def Bh {α:Type} (f:AI->α×AI):Prop:=∀s:AI,s.2=R->(f s).2.2=R
theorem CF.mono {a:Type}{f g:AI->a×AI}(h:CF f g):Bh f:=fun s hs=>((h s).1 hs).1
theorem Bh.rt (a:b):Bh (rt a):=fun s h=>h
theorem Bh.bnd {c:Type}{f:AI->b×AI}{k:b->AI->c×AI}(h:Bh f)(h':∀a,Bh (k a)):Bh (Bl f k):=fun s hs=>h' _ _ (h s hs)
def EY {α:Type} (f:AI->α×AI) (P:α->List Int->Prop):Prop:=∀L,AB L->∀x L',f (L,jA)=(x,(L',jA))->∃E,P x E/\L=E++L'
theorem EY.bnd {i:Type}{f:AI->i×AI}{k:i->AI->j×AI}{P:i->List Int->Prop}{Q:i->j->List Int->Prop}(h:EY f P)(hm:∀a,Bh (k a))(h':∀a,EY (k a) (Q a)):
  EY (Bl f k) (fun y E=>∃a c d,P a c/\Q a y d/\E=c++d):=fun L ok y l e=>by
 have e':k (f (L,jA)).1 (f (L,jA)).2=(y,(l,jA)):=e;obtain⟨a,g,b⟩:∃a g,∃b,f (L,jA)=(a,(g,b)):=⟨_,_,_,rfl⟩
 obtain⟨b,m⟩:=b;rw[m]at e';cases b with
 |true=>
  have:=hm a (g,R) rfl;rw[e']at this;cases this
 |false=>
  obtain⟨c,n,rfl⟩:=h L ok a g m;obtain⟨d,o,rfl⟩:=h' a g ok.app.2 y l e';exact⟨c++d,⟨a,c,d,n,o,rfl⟩,by rw[zJ]⟩
theorem EY.rt (a:b):EY (rt a) (fun x E=>x=a/\E=[]):=fun L ok x c e=>by
 have e':(a,(L,jA))=(x,(c,jA)):=e;cases e';exact⟨[],⟨rfl,rfl⟩,rfl⟩
theorem EY.imp {a:Type}{f:AI->a×AI}{P Q:a->List Int->Prop}(h:EY f P)(hi:∀x E,AB E->P x E->Q x E):EY f Q:=fun L ok x b e=>by
 obtain⟨E,p,rfl⟩:=h L ok x b e;exact⟨E,hi x E ok.app.1 p,rfl⟩
theorem EY.take (n:Nat):EY (Be n) (fun a E=>E=a/\a.length=n):=fun L ok x b e=>by
 unfold Be at e;split at e
 ·cases e
 ·rename_i h;cases e;exact⟨L.take n,⟨rfl,by simp at h|-;omega⟩,(Z9 n L).symm⟩
theorem Bh.take (n:Nat):Bh (Be n):=(NF n).mono
theorem Bh.num (n:Nat):Bh (AG n):=(DN n).mono
theorem EY.num (n:Nat)(c:n<=8):EY (AG n) (fun x E=>E=BS x n/\E.length=n/\x=CL E):=
 ((EY.take n).bnd (fun a=>Bh.rt _) (fun a=>EY.rt _)).imp fun x E ok ⟨a,g,h,⟨h1,b⟩,⟨d,f⟩,h5⟩=>by
  subst h1 d f;rw[zd]at h5;subst h5;exact⟨(Wi n _ b c ok).symm,b,rfl⟩
theorem QQ (x:Int)(h0: 0<=x)(h1:x<256):CL [x]=x:=by
 show wrap64 (0*256+x)=x;unfold wrap64;omega
theorem Wj (x y:Int)(h0: 0<=x/\x<256)(h1: 0<=y/\y<256):CL [x,y]=x*256+y:=by
 show wrap64 (wrap64 (0*256+x)*256+y)=_;unfold wrap64;omega
theorem EY.num1:EY (AG 1) (fun x E=>E=BS x 1/\E=[x]/\0<=x/\x<256):=
 (EY.num 1 (by omega)).imp fun x E ok ⟨h1,b,a⟩=>by
  match E,b with
  |[y],_=>
   have:=ok y (zS ..);rw[QQ y this.1 this.2]at a;subst a;exact⟨h1,rfl,this⟩
theorem EY.num2:EY (AG 2) (fun x E=>E=BS x 2/\0<=x/\x<65536):=
 (EY.num 2 (by omega)).imp fun x E ok ⟨h1,c,d⟩=>by
  match E,c with
  |[y,z],_=>
   have a:=ok y (zS ..);have b:=ok z (za _ (zS ..));rw[Wj y z a b]at d;exact⟨h1,by omega,by omega⟩
theorem NJ (L:List Int):(Fr L).size=L.length:=by simp[Fr,ByteArray.size]
theorem Kw (L:List Int)(ok:AB L):KM (Fr L)=L:=by
 rw[KM,Fr];simp only[z7]
 conv=>rhs;rw[<-List.map_id L]
 apply List.map_congr_left;intro x hx;have:=ok x hx;simp only[Function.comp,id];have a:x.toNat<256:=by omega
 rw[UInt8.toNat_ofNat',Nat.mod_eq_of_lt (by omega)];omega
theorem EY.text:EY DF (fun s E=>E=Bn s/\s.size<256):=
 (EY.num1.bnd (fun k=>(Bh.take _).bnd fun a=>Bh.rt _) (fun k=>(EY.take _).bnd (fun a=>Bh.rt _) (fun a=>EY.rt _))).imp fun s E ok ⟨k,h,i,⟨h1,j,h0,l⟩,⟨a,m,n,⟨c,d⟩,⟨f,g⟩,b⟩,h5⟩=>by
  subst c g f;rw[zd]at b;subst b h5;rw[Bn,NJ,d,Kw _ ok.app.2,h1];have:((k.toNat:Nat):Int)=k:=by omega
  rw[this];exact⟨rfl,by omega⟩
theorem Bh.text:Bh DF:=NG.mono
theorem Bh.many {a:Type}{f:AI->a×AI}(k:Nat):Bh (Av f k):=fun s hs=>BK k s hs
theorem EY.many {g:Type}{f:AI->g×AI}{enc:g->List Int}(h:EY f (fun x E=>E=enc x)):∀k,EY (Av f k) (fun l E=>l.length=k/\E=l.flatMap enc)
 |0=>fun L ok x d e=>by
  rw[Av]at e;cases e;exact⟨[],⟨rfl,rfl⟩,rfl⟩
 |k+1=>fun L ok x d e=>by
  rw[Av,if_neg (by simp)]at e;obtain⟨a,c,b,h1⟩:∃a c,∃b,f (L,jA)=(a,(c,b)):=⟨_,_,_,rfl⟩
  rw[h1]at e;cases b with
  |true=>
   have:=Bh.many (f:=f) k (c,R) rfl;have e2:(Av f k (c,R)).2=(d,jA):=congrArg Prod.snd e;rw[e2]at this;cases this
  |false=>
   obtain⟨n,rfl,rfl⟩:=h L ok a c h1;obtain⟨l,i,j⟩:∃l i,Av f k (c,jA)=(l,i):=⟨_,_,rfl⟩
   rw[j]at e;cases e;obtain⟨o,⟨m,rfl⟩,rfl⟩:=EY.many h k c ok.app.2 l d j;exact⟨enc a++l.flatMap enc,⟨by simp[m],by simp⟩,by rw[List.append_assoc]⟩
theorem EY.val:EY JC (fun v E=>E=Cw v):=by
 have q:∀k:Int,EY (FQ k) (fun v E=>BS k 1++E=Cw v):=fun k=>by
  unfold FQ;by_cases h1:k=1
  ·rw[if_pos h1];exact(EY.num1.bnd (fun a=>Bh.rt _) (fun a=>EY.rt _)).imp fun v E ok ⟨a,j,m,⟨c,o⟩,⟨b,f⟩,d⟩=>by
    subst f b d c;rw[Cw,if_pos h1,zd]
  rw[if_neg h1];by_cases g:k=2
  ·rw[if_pos g];exact((EY.num 8 (by omega)).bnd (fun a=>Bh.rt _) (fun a=>EY.rt _)).imp fun v E ok ⟨a,j,m,⟨c,o⟩,⟨b,f⟩,d⟩=>by
    subst f b d;rw[zd,Cw,if_neg h1,if_pos g,<-c]
  rw[if_neg g];by_cases i:k=3
  ·rw[if_pos i];exact(EY.text.bnd (fun a=>Bh.rt _) (fun a=>EY.rt _)).imp fun v E ok ⟨a,j,m,⟨c,o⟩,⟨b,f⟩,d⟩=>by
    subst f b d c;rw[Cw,if_neg h1,if_neg g,if_pos i,zd]
  rw[if_neg i];by_cases p:k=4
  ·rw[if_pos p];exact(EY.num1.bnd (fun n=>(Bh.many _).bnd fun a=>Bh.rt _) (fun n=>(EY.many (EY.text.imp fun _ _ _ h=>h.1) n.toNat).bnd (fun a=>Bh.rt _) (fun a=>EY.rt _))).imp fun v E ok ⟨n,j,m,⟨c,o,b,f⟩,⟨l,w,x,⟨y,r⟩,⟨s,t⟩,u⟩,d⟩=>by
    subst t s u r d;rw[Cw,if_neg h1,if_neg g,if_neg i,if_pos p,zd,c];have:((l.length:Nat):Int)=n:=by omega
    simp only[this]
  rw[if_neg p];exact(EY.rt _).imp fun v E ok ⟨b,f⟩=>by
   subst f b;rw[Cw,if_neg h1,if_neg g,if_neg i,if_neg p]
 have hm:∀k:Int,Bh (FQ k):=fun k=>by
  unfold FQ;split
  ·exact(Bh.num 1).bnd fun a=>Bh.rt _
  split
  ·exact(Bh.num 8).bnd fun a=>Bh.rt _
  split
  ·exact Bh.text.bnd fun a=>Bh.rt _
  split
  ·exact(Bh.num 1).bnd fun n=>(Bh.many _).bnd fun a=>Bh.rt _
  ·exact Bh.rt _
 exact(EY.num1.bnd hm q).imp fun v E ok ⟨k,j,m,⟨c,o⟩,b,d⟩=>by
  subst d c;exact b
theorem EY.ins:EY IF (fun i E=>E=I9 i):=
 (EY.num1.bnd (fun a=>(Bh.num 2).bnd fun b=>Bh.rt _) (fun a=>EY.num2.bnd (fun b=>Bh.rt _) (fun b=>EY.rt _))).imp fun i E ok ⟨a,k,l,⟨c,m⟩,⟨b,n,o,⟨d,p⟩,⟨f,g⟩,h⟩,j⟩=>by
  subst g f h j d c;rw[I9,zd]
def Lg (c:Cd):List Int:=BS c.pool.length 2++c.pool.flatMap Cw++BS c.slots 2++BS c.ins.length 2++c.ins.flatMap I9
theorem Bh.body:Bh DA:=NI.mono
theorem EY.body:EY DA (fun c E=>E=Lg c):=
 (EY.num2.bnd (fun n=>(Bh.many _).bnd fun p=>(Bh.num 2).bnd fun sl=>(Bh.num 2).bnd fun m=>(Bh.many _).bnd fun i=>Bh.rt _)
  (fun n=>(EY.many EY.val n.toNat).bnd (fun p=>(Bh.num 2).bnd fun sl=>(Bh.num 2).bnd fun m=>(Bh.many _).bnd fun i=>Bh.rt _)
   (fun p=>EY.num2.bnd (fun sl=>(Bh.num 2).bnd fun m=>(Bh.many _).bnd fun i=>Bh.rt _)
    (fun sl=>EY.num2.bnd (fun m=>(Bh.many _).bnd fun i=>Bh.rt _)
     (fun m=>(EY.many EY.ins m.toNat).bnd (fun i=>Bh.rt _) (fun i=>EY.rt _)))))).imp
 fun c E ok ⟨n,f,g,⟨a1,a2⟩,⟨p,h,j,⟨b1,b2⟩,⟨sl,k,l,⟨c1,c2⟩,⟨m,o,q,⟨d1,d2⟩,⟨i,r,s,⟨t,a⟩,⟨h1,b⟩,d⟩,d3⟩,c3⟩,b3⟩,a3⟩=>by
  subst b h1 d d3 c3 b3 a3 a1 b2 c1 d1 a;rw[Lg];have e1:((p.length:Nat):Int)=n:=by omega
  have e2:((i.length:Nat):Int)=m:=by omega
  simp only[e1,e2,zd,zJ]
theorem Ys (c:Cd):Fb c.pool c.slots c.ins=[80,76,49]++Lg c:=by
 rw[Fb,Lg];simp only[zJ]
def Mj (L:List Int):Option Cd:=
 if L.take 3=[80,76,49]/\(DA (L.drop 3,jA)).2=([],jA)/\Da (DA (L.drop 3,jA)).1.pool (DA (L.drop 3,jA)).1.slots (DA (L.drop 3,jA)).1.ins=R then Y (DA (L.drop 3,jA)).1 else T
def Ju (L:List Int):Option Cd:=
 if 3<=L.length/\(EC (L.drop 3,jA)).2=([],jA)/\Eo (EC (L.drop 3,jA)).1.pool (EC (L.drop 3,jA)).1.slots (EC (L.drop 3,jA)).1.ins≠ []/\Eo (EC (L.drop 3,jA)).1.pool (EC (L.drop 3,jA)).1.slots (EC (L.drop 3,jA)).1.ins=L then Y (EC (L.drop 3,jA)).1 else T
theorem Qb (L:List Int)(ok:AB L):Mj L=Ju L:=by
 unfold Mj Ju;rcases(NI (L.drop 3,jA)).2 rfl with e|⟨e1,e2⟩
 ·rw[<-e];generalize g:DA (L.drop 3,jA)=B;obtain⟨c,s⟩:=B;by_cases hs:s=([],jA)
  ·subst hs;obtain⟨E,rfl,d⟩:=EY.body (L.drop 3) (ok.drop 3) c [] g;rw[zd]at d;have f:L=L.take 3++Lg c:=by rw[<-d,Z9]
   by_cases b:Da c.pool c.slots c.ins=R
   ·have a:Eo c.pool c.slots c.ins=[80,76,49]++Lg c:=by rw[Eo,if_pos b,Ys]
    by_cases hm:L.take 3=[80,76,49]
    ·have i: 3<=L.length:=by have:=congrArg List.length hm;simp at this;omega
     rw[hm]at f;rw[if_pos ⟨hm,rfl,b⟩,if_pos ⟨i,rfl,by rw[a];simp,by rw[a];exact f.symm⟩]
    ·rw[if_neg (fun h=>hm h.1),if_neg];rintro⟨_,_,_,h⟩;apply hm;rw[a]at h;rw[<-h];rfl
   ·have a:Eo c.pool c.slots c.ins=[]:=by rw[Eo,if_neg b]
    rw[if_neg (fun h=>b h.2.2),if_neg (fun h=>h.2.2.1 a)]
  ·rw[if_neg (fun h=>hs h.2.1),if_neg (fun h=>hs h.2.1)]
 ·rw[if_neg,if_neg]
  ·rintro⟨_,h,_⟩;rw[h]at e2;cases e2
  ·rintro⟨_,h,_⟩;rw[h]at e1;cases e1
set_option maxHeartbeats 1600000
structure KQ (w:Z) (B:Nat) (a:Option jD) (n c:Nat) (L:List Int):Prop where
 len:L.length=n
 cap:n<=c
 small:c<=9223372036854775807
 ok:AB L
 cells:∀j,(h:j<L.length)->∃b off,a=Y ⟨b,off,T⟩/\b<B/\b<w.heap.size/\w.cell? ⟨b,off+j,T⟩=Y (U .u8 L[j])
theorem KQ.touch {lo hi n c:Nat}{L:List Int}(h:KQ w B a n c L)(T:Al lo hi w w')(l:B<=lo):KQ w' B a n c L:=
 ⟨h.len,h.cap,h.small,h.ok,fun j f=>by
  obtain⟨b,g,i,k,d,hc⟩:=h.cells j f;exact⟨b,g,i,k,zR d T.size,(World.cell?_of_block (T.block b d (.inl (by omega)))).trans hc⟩⟩
theorem KQ.nil (w:Z)(B:Nat):KQ w B T 0 0 []:=⟨rfl,NLN,zE _,(fun x hx=>by cases hx),fun j a=>absurd a (by simp)⟩
theorem KQ.take {w:Z}{B n c:Nat}{a:Option jD}{L:List Int}(h:KQ w B a n c L)(k:Nat)(hk:k<=n):KQ w B a k c (L.take k):=
 ⟨by rw[zv,h.len];omega,by have:=h.cap;omega,h.small,h.ok.take k,fun j d=>by
  have m:=h.len;have f:j<L.length:=by rw[zv]at d;omega
  obtain⟨b,g,i,h1,l,hc⟩:=h.cells j f;exact⟨b,g,i,h1,l,by rw[hc,List.getElem_take]⟩⟩
theorem KQ.drop {w:Z}{B n c:Nat}{a:Option jD}{L:List Int}(h:KQ w B a n c L)(k:Nat)(hk:k<=n):KQ w B (a.map fun x=>x.add k) (n-k) (c-k) (L.drop k):=
 ⟨by rw[List.length_drop,h.len],by have:=h.cap;omega,by have:=h.small;omega,h.ok.drop k,fun j d=>by
  have l:=h.len;rw[List.length_drop]at d;obtain⟨b,f,g,h1,i,hc⟩:=h.cells (k+j) (by omega);subst g;refine⟨b,f+k,?_,h1,i,?_⟩
  ·by_cases e:k=0<;>simp[Addr.add,e]
  ·rw[List.getElem_drop,<-hc,Z1]⟩
theorem KQ.dropAll {n c:Nat}{L:List Int}(h:KQ w B a n c L)(k:Nat)(hk:n<=k):KQ w B a (n-k) 0 (L.drop k):=by
 have d:=h.len;have e:L.drop k=[]:=List.drop_eq_nil_of_le (by omega);rw[e];exact⟨by simp;omega,by omega,zE _,(fun x hx=>by cases hx),fun j b=>absurd b (by simp)⟩
structure IRd (w:Z) (g:Nat) (h0 h1 h2:Int) (a:Option jD) (n c:Nat) (s:AI):Prop where
 row:Ah w g #[U V h0,U V h1,U V h2,X a n c,.bool s.2] 51
 bys:KQ w g a n c s.1
def EN (w:Z) (g:Nat) (h0 h1 h2:Int) (s:AI):Prop:=∃a n c,IRd w g h0 h1 h2 a n c s
def AfV (w:Z) (g:Nat) (h0 h1 h2:Int) (r:List Int×AI) (e:Ending) (w':Z):Prop:=∃a n c,e=jF (X a n c)/\KQ w' g a n c r.1/\EN w' g h0 h1 h2 r.2/\Al g (g+1) w w'
theorem QR (g:Nat)(h0 h1 m:Int)(s:AI)(k:Nat)(w:Z)(h:EN w g h0 h1 m s)(hk:k<=65535):
  Calls jL 39 #[jH (Y ⟨g,0,T⟩),U V k] w fun e w'=>AfV w g h0 h1 m (Be k s) e w':=by
 obtain⟨a,n,c,R,d⟩:=h;obtain⟨L,l⟩:=s;have f:=d.len;simp only at f R d;have q:=d.cap;obtain⟨r,t,u,v,y⟩:=DM R;have z:=fun j=>R.frozen j;by_cases A:n<k
 ·have p:(n:Int)<(k:Int):=by omega
  have i:=Ab (show Be k (L,l)=([],L,true) by unfold Be;rw[if_pos (by show L.length<k;omega)]);have B:=Ab f;clear f;go_enter func39,ntmps39
  go_wp2
  go_ret
  rw[Aa i];have b:=Al.setCell (lo:=g) (hi:=g+1) w ⟨g,4,T⟩ (.bool true) NLN (z5 _);exact⟨_,_,_,rfl,KQ.nil _ _,⟨a,n,c,R.set 4 (.bool true),d.touch b NLN⟩,b⟩
 ·have p: ¬ ((n:Int)<(k:Int)):=by omega
  have i:=Ab (show Be k (L,l)=(L.take k,L.drop k,l) by unfold Be;rw[if_neg (by show ¬ L.length<k;omega)]);clear f;go_enter func39,ntmps39
  go_wp2
  ·have o:KQ w g a n k L:=by
    have e:c=k:=by assumption
    rw[<-e];exact d
   go_ret
   rw[Aa i];have b:=Al.setCell (lo:=g) (hi:=g+1) w ⟨g,3,T⟩ (X a (n-k) 0) NLN (z5 _);exact⟨_,_,_,rfl,(o.take k (by omega)).touch b NLN,⟨a,n-k,0,R.set 3 (X a (n-k) 0),(o.dropAll k (by omega)).touch b NLN⟩,b⟩
  ·go_ret
   rw[Aa i];have b:=Al.setCell (lo:=g) (hi:=g+1) w ⟨g,3,T⟩ (X (a.map fun x=>x.add k) (n-k) (c-k)) NLN (z5 _);exact⟨_,_,_,rfl,(d.take k (by omega)).touch b NLN,⟨_,n-k,c-k,R.set 3 (X (a.map fun x=>x.add k) (n-k) (c-k)),(d.drop k (by omega)).touch b NLN⟩,b⟩
theorem Zx (v x:Int)(h0: 0<=x)(h1:x<256):bits .or V (wrap64 (v*256)) x=wrap64 (v*256+x):=by
 have hx:(BitVec.ofInt 64 x).toNat=x.toNat:=by rw[BitVec.toNat_ofInt];omega
 obtain⟨q,a⟩:=UD (v*256);have hv:(BitVec.ofInt 64 (wrap64 (v*256))).toNat=2 ^ 8*((v % 72057594037927936).toNat):=by
  rw[BitVec.toNat_ofInt,a];omega
 show IntKind.i64.wrap ((BitVec.ofInt 64 (wrap64 (v*256))|||BitVec.ofInt 64 x).toNat:Int)=_;rw[BitVec.toNat_or,hv,hx,<-Nat.two_pow_add_eq_or_of_lt (by omega)];have b:∀y:Int,IntKind.i64.wrap y=wrap64 y:=fun y=>by simp[IntKind.wrap,IntKind.bits,IntKind.signed,wrap64];omega
 rw[b];unfold wrap64;omega
theorem J3 (L:List Int)(k:Nat)(h:k<L.length):CL (L.take (k+1))=wrap64 (CL (L.take k)*256+L[k]):=by
 rw[zc h,Kr]
def Wk (w:Z) (g:Nat) (h0 h1 h2:Int) (r:Int×AI) (e:Ending) (w':Z):Prop:=e=jF (U V r.1)/\EN w' g h0 h1 h2 r.2/\Al g (g+1) w w'
theorem J4 (g:Nat)(h0 h1 l:Int)(s:AI)(k:Nat)(w:Z)(h:EN w g h0 h1 l s)(hk:k<=65535):
  Calls jL 42 #[jH (Y ⟨g,0,T⟩),U V k] w fun e w'=>Wk w g h0 h1 l (AG k s) e w':=by
 have p:=Ab (QR g h0 h1 l s k w h hk);have q:=Ab (show AG k s=(CL (Be k s).1,(Be k s).2)from rfl);generalize Be k s=r at p q;obtain⟨L,s2⟩:=r;clear h;go_enter func42,ntmps42
 go_wp2_with (go_at_call 39;refine(Aa p).mono ?_;rintro e A ⟨a,n,c,rfl,d,B,C⟩)
 have t:=d.len;have D:=d.cap;have E:=d.small;have u:=Ab t;clear t;go_loopw [5,12] (fun v i wr=>∃j:Nat,j<=n/\i=U V j/\v=U V (CL (L.take j))/\wr=A) (fun _ i _=>n-(intOf i).toNat)
 case atStart=>exact⟨0,zE _,rfl,rfl,rfl⟩
 case round=>
  obtain⟨j,F,rfl,rfl,rfl⟩:=hrel;by_cases y:j<n
  ·have m:j<L.length:=by rw[Aa u];exact y
   obtain⟨b,G,rfl,_,_,hc⟩:=d.cells j m;have hx:=d.ok L[j] (zH m);have H:(j:Int)<(n:Int):=by omega
   have f:=Ab (J3 L j m);have o:=Zx (CL (L.take j)) L[j] hx.1 hx.2;generalize L[j]=x at hc hx f o;generalize CL (L.take j)=v at f o;have z:=Ab y;go_wp2
   go_roundw
   case rel=>exact⟨j+1,Aa z,by go_num,by rw[Aa f,<-o],(by first|rfl|trivial)⟩
   case measure=>have:=Aa z;simp[intOf];omega
  ·have e:j=n:=by omega
   subst e;have f:=Ab (show L.take j=L from zf (by rw[Aa u];exact NLN));rw[Aa f];go_wp2
   go_ret
   rw[Aa q];exact⟨rfl,B,C⟩
end Go.Proofs.YtppafecmccdplaaGreat

import Derived.Shelf.RegionOpen
import Derived.OwnWalkIn
import Derived.LoopNIn
import Derived.LoopIn
import Derived.Test.YteiieikcjcfkkaaGreatDoorMXAX
import Derived.Test.YteiieikcjcfkkaaGreatDoorMXAN
open Go.Proofs.Tryz
open Option renaming none->T,some->X
open Go.Value renaming int->U,slice->Y,string->Q,agg->jG,pointer->jK
open Go.IntKind renaming i64->V
open Go renaming World->Z,Value->R,Addr->jD,Calls->jE,TypeId->jJ,bodyPost_ret->jN,heap_setCell_other->jc
open Bool renaming true->jA
open Go.Ending renaming returned->jH
open Go.RowKit renaming intOf->jI
open Go.World renaming size_alloc->jW,cell?_of_block->j0
open List renaming length_cons->jY,cons_append->js,length_nil->jx
open Go.DataW renaming trod->jf,trod_int->j1
open Go.Value.slice renaming injEq->jh
open List.cons renaming injEq->jo
open Option.some renaming injEq->jr
open Go.Proofs.Tryz renaming prog->j4
namespace Go.Proofs.YteiieikcjcfkkaaGreatDoor
set_option linter.unusedVariables false
set_option maxRecDepth 100000
set_option maxHeartbeats 3200000
variable {x:jD}{cs:Array R}{fuel n m hi':Nat}{t s:jJ}{v:R}{a w':Z}
section
open Go.RowKit Go.Shelf
attribute [local go_sem] Oper.semAt_some
def sxA (x:Sx):R:= jG #[U V x.at',U V x.kind,Q x.name,AH x.cond,AH x.grant]
def StC (w:Z) (g m:Nat) (x:Nat->Sx):Prop:=∀j,j<m->w.cell? ⟨g,j*5,T⟩=X (U V (x j).at')/\w.cell? ⟨g,j*5+1,T⟩=X (U V (x j).kind)/\w.cell? ⟨g,j*5+2,T⟩=X (Q (x j).name)/\w.cell? ⟨g,j*5+3,T⟩=X (AH (x j).cond)/\w.cell? ⟨g,j*5+4,T⟩=X (AH (x j).grant)
def KpB (n0 Bs:Nat) (W W':Z):Prop:=Below n0 W W'/\W'.heap[Bs]? =W.heap[Bs]?
theorem KpB.trans {n0 Bs:Nat}{A B C:Z}(h:KpB n0 Bs A B)(k:KpB n0 Bs B C):KpB n0 Bs A C:=⟨h.1.trans k.1,k.2.trans h.2⟩
theorem KpB.putObj {n0 Bs:Nat}{w:Z}(b:n0<=w.heap.size)(hB:Bs<w.heap.size)(a:Z)(l:Nat)(o o':Obj)(c:w.heap.size<=l)(h:a.heap[l]? =X o)(d:o.isCells=false):KpB n0 Bs a (a.putObj l o'):=
 ⟨(Below.refl n0 a).grown (grownBy_putObj' a l o') (by have:=(z4.1 h).1;omega) (fun k e=>by cases e;omega),World.putObj_heap_other (by omega)⟩
theorem Abr (n:Nat)(l Bs n0 g m c:Nat)(x:Nat->Sx)(hm:m<=65535)(hg:g<n0)(b:Nat->Z->Prop)
  (y:∀k a,b k a->k<m->YieldAt Fence.wide (n-1) j4 l #[U V ((m-1-k:Nat):Int),sxA (x (m-1-k))] a fun e d=>e=jH (.bool jA)/\b (k+1) d/\KpB n0 Bs a d)
  (a:Z)(z:a.cell? ⟨Bs,0,T⟩=X (Y (X ⟨g,0,T⟩) m c))(hc:StC a g m x)(h0:b 0 a):
  CallsIn Fence.wide n j4 112 #[.func (.yield l) #[] #[],jK (X ⟨Bs,0,T⟩)] a fun e d=>(∃v,e=jH v)/\b m d:=by
 refine callsIn_of_wp func112 rfl trivial ?_ rfl;simp only[ntmps112,List.size_toArray,jY,jx,Nat.reduceAdd,Nat.reduceSub,Array.replicate_succ,Array.replicate_zero,List.push_toArray,List.append_toArray,List.nil_append,js]
 gi_wp2
 gi_loopw [3] (fun i wr=>∃k:Nat,k<=m/\i=U V ((m:Int)-1-(k:Int))/\b k wr/\KpB n0 Bs a wr) (fun i _=>(jI i+1).toNat)
 case atStart=>exact⟨0,zD _,by simp,h0,⟨BRN,rfl⟩⟩
 case round=>
  obtain⟨k,E,rfl,s,q⟩:=hrel;have F:wr.cell? ⟨Bs,0,T⟩=X (Y (X ⟨g,0,T⟩) m c):=(j0 q.2).trans z;by_cases t:k<m
  ·obtain⟨j,r⟩:∃j,j=m-1-k:=⟨_,rfl⟩
   obtain⟨fn,tmps,assign,body,hy,A⟩:=y k wr s t;rw[<-r]at hy;have f:(m:Int)-1-(k:Int)=(j:Int):=by omega
   have B:j<m:=by omega
   obtain⟨u,c1,c2,c3,c4⟩:=hc j B;have cc:∀(o:Nat) (v:R),a.cell? ⟨g,o,T⟩=X v->wr.cell? ⟨g,o,T⟩=X v:=fun o v h=>(q.1.cell (p:=⟨g,o,T⟩) hg).trans h;replace u:=cc _ _ u;replace c1:=cc _ _ c1;replace c2:=cc _ _ c2;replace c3:=cc _ _ c3;replace c4:=cc _ _ c4;rw[f];have G:(j:Int)<(m:Int):=by omega
   unfold sxA at hy;have w:=Ab r;clear cc f r
   gi_wp2
   refine⟨fun h=>by simp[Fence.wide]at h,?_⟩;refine A.mono ?_;rintro e H ⟨rfl,C,D⟩
   gi_wp2
   go_roundw
   case rel=>exact⟨k+1,t,by have:=Aa w;rw[show(m:Int)-1-((k+1 :Nat):Int)=(j:Int)-1 by omega],C,q.trans D⟩
   case measure=>have:=Aa w;simp[jI]
  ·obtain rfl:k=m:=by omega
   have f:(k:Int)-1-(k:Int)= -1:=by omega
   rw[f]
   gi_wp2
   go_end0
   exact⟨⟨_,rfl⟩,s⟩
theorem Uh (n:Nat)(a:Option jD)(m c:Nat)(w:Z):
  CallsIn Fence.wide n j4 62 #[Y a m c] w fun e w'=>e=jH (.func (.func 112) #[] #[jK (X ⟨w.heap.size,0,T⟩)])/\w'=w.alloc (.cells #[Y a m c] 64):=by
 refine callsIn_of_wp func62 rfl trivial ?_ rfl;simp only[ntmps62,List.size_toArray,jY,jx,Nat.reduceAdd,Nat.reduceSub,Array.replicate_succ,Array.replicate_zero,List.push_toArray,List.append_toArray,List.nil_append,js]
 gi_wp2
 go_ret
 exact⟨rfl,rfl⟩
theorem OJ (n:Nat)(Bs n0 g m c:Nat)(x:Nat->Sx)(hm:m<=65535)(hg:g<n0)(w:Z)(f:n0<=w.heap.size)(R:Ag w Bs #[Y (X ⟨g,0,T⟩) m c] 64)(hc:StC w g m x):
  Ac7 Fence.wide n j4 112 #[jK (X ⟨Bs,0,T⟩)] (fun k=>#[U V ((m-1-k:Nat):Int),sxA (x (m-1-k))]) m (KpB n0 Bs) w:=fun l i b d o h0=>
 Abr n l Bs n0 g m c x hm hg i o b ((d.cell (p:=⟨Bs,0,T⟩) R.lt).trans (R.cell 0))
  (fun j q=>by
   have cc:∀(a:Nat) (v:Value),w.cell? ⟨g,a,T⟩=X v->b.cell? ⟨g,a,T⟩=X v:=fun a v h=>((d.mono f).cell (p:=⟨g,a,T⟩) hg).trans h;obtain⟨r,c1,c2,c3,c4⟩:=hc j q;exact⟨cc _ _ r,cc _ _ c1,cc _ _ c2,cc _ _ c3,cc _ _ c4⟩) h0
end
section
open Go.RowKit
theorem Is {w:Z}{B:Nat}(a:Below B w w')(hB:w.heap.size<=B)(o:Option Ex)(h:VO w o):VO w' o:=by
 cases o with
 |none=>trivial
 |some e=>exact Ex.sok_below a hB e h
def TdA (S:List Sx) (a:Option jD) (k f:Nat) (w:Z) (r:Ending) (w':Z):Prop:=
 (∃nd pl nv kv sv,r=jH (jG #[nd,sv,Y a k f])/\Ci w' w.heap.size nd (AM 0 S) nv kv/\w'.ownsRow w.heap.size 53 4 sv S.length (Dk (BK 0 S))/\w'.ownsRow w.heap.size 3 1 pl (GX S).length (Aq (GX S)))/\Below w.heap.size w w'
theorem VP (S:List Sx)(g m c:Nat)(o:Array Value)(a:Option jD)(k f:Nat)(w:Z)(hm:S.length=m)(R:Ag w g o 108)(y:∀(r:Nat) (u:Value),(GN S)[r]? =X u->o[r]? =X u)(hS:∀x∈S,VO w x.cond/\VO w x.grant)(z:Bu S<=65535)(A:m<=65535):
  jE j4 60 #[Y (X ⟨g,0,T⟩) m c,Y a k f] w (TdA S a k f w):=by
 have i:=Av w (Fo T 0 0 T 0 0 T 0 0);have F:=Ag.new w #[Y T 0 0,Y T 0 0,Y T 0 0] 31;have B:=Ab (YE S g m c o (w.alloc (Fo T 0 0 T 0 0 T 0 0)) hm (R.after i NLN) y (fun x hx=>⟨Is i NLN _ (hS x hx).1,Is i NLN _ (hS x hx).2⟩) z A);clear hS y R z A hm;go_enter func60,ntmps60
 go_wp2_with fail
 refine(Aa B).mono ?_;rintro r s ⟨⟨nd,pl,P,W,aa,rfl,l,h,j,G⟩,t⟩;have C:=i.trans (t.mono i.size);have H:=F.after t NLN;obtain⟨b,cn,rfl,_⟩:=Ae l.own;obtain⟨d,cs,rfl,_⟩:=Ae h;clear B t G;have D:(w.alloc (Fo T 0 0 T 0 0 T 0 0)).heap.size=w.heap.size+1:=by simp
 rw[D]at l h j;have E:=H.alloc (.cells #[Y b (AM 0 S).length cn,Y d S.length cs] 68);have I:=C.alloc C.size (.cells #[Y b (AM 0 S).length cn,Y d S.length cs] 68);have n:∀q,w.heap.size+1<=q->q<s.heap.size->((((s.alloc (.cells #[Y b (AM 0 S).length cn,Y d S.length cs] 68)).setCell ⟨w.heap.size,0,T⟩ (Y b (AM 0 S).length cn)).setCell ⟨w.heap.size,1,T⟩ (Y d S.length cs)).setCell ⟨w.heap.size,2,T⟩ (Y a k f)).heap[q]? =s.heap[q]? :=fun q h1 h2=>by
  rw[jc _ _ q _ (by show q≠w.heap.size;omega),jc _ _ q _ (by show q≠w.heap.size;omega),jc _ _ q _ (by show q≠w.heap.size;omega),Below.heap_alloc _ _ q h2]
 have J:=Ab ((l.blocks n).low (zj w.heap.size));have K:=Ab (Dv (Af h (fun q hq=>n q (h.lt q hq).1 (h.lt q hq).2)) (zj w.heap.size));have L:=Ab (Dv (Af j (fun q hq=>n q (j.lt q hq).1 (j.lt q hq).2)) (zj w.heap.size));clear n l h j D;have M:=((E.set 0 (Y b (AM 0 S).length cn)).set 1 (Y d S.length cs)).set 2 (Y a k f);have N:=((I.setCell (p:=⟨w.heap.size,0,T⟩) NLN (Y b (AM 0 S).length cn)).setCell (p:=⟨w.heap.size,1,T⟩) NLN (Y d S.length cs)).setCell (p:=⟨w.heap.size,2,T⟩) NLN (Y a k f);generalize (AM 0 S).length=O at*;obtain⟨ab,c1,c2,_⟩:=PJ E;dsimp only;go_wp2_with fail
 obtain⟨e0,e1,e2,_⟩:=PJ M;exact jN (v:= jG #[Y b O cn,Y d S.length cs,Y a k f]) (by simp[results,results60,go_sem,e0,e1,e2]) rfl ⟨⟨_,_,_,_,_,rfl,Aa J,Aa K,Aa L⟩,N⟩
set_option maxHeartbeats 6400000
theorem As.mono2 {lo hi lo':Nat}{w:Z}(t:As lo hi w w')(h1:lo'<=lo)(h2:hi<=hi'):As lo' hi' w w':=
 ⟨t.os,t.tape,t.output,t.size,fun k a b=>t.block k a (by omega)⟩
theorem Wd.one {w:Z}{q:Nat}(h:Wd w x n t)(T:As q (q+1) w w')(k:Wd w ⟨q,0,none⟩ m s)(b:Wd w' ⟨q,0,none⟩ m s):Wd w' x n t:=by
 obtain⟨p,cs,rfl,a,z⟩:=h;by_cases e:p=q
 ·subst e;obtain⟨_,f,e1,c,d⟩:=k;cases e1;have e2:=a.out.symm.trans c.out;simp only[jr,Obj.cells.injEq]at e2;obtain⟨rfl,rfl,_⟩:=e2;rw[<-z,d];exact b
 ·exact⟨p,cs,rfl,⟨(T.block p a.lt (by omega)).trans a.out⟩,z⟩
theorem YR (q n c k:Nat)(w:Z)(h:Wd w ⟨q,0,none⟩ n 3)(r:k+n<=35184372088832):
  jE j4 36 #[Y (X ⟨q,0,none⟩) n c,U V k] w fun e w'=>e=jH (U V ((k:Int)+n))/\Wd w' ⟨q,0,none⟩ n 3/\As q (q+1) w w':=by
 obtain⟨_,g,e0,a,l⟩:=h;cases e0;go_enter func36,ntmps36
 go_wp2
 go_loopw [1,5] (fun v i wr=>∃ (j:Nat) (cs:Array Value),j<=n/\i=U V j/\v=U V ((k:Int)+j)/\Ag wr q cs 3/\cs.size=n/\As q (q+1) w wr) (fun _ i _=>n-(jI i).toNat)
 case atStart=>exact⟨0,g,zD _,rfl,by go_num,a,l,As.refl _ _ _⟩
 case round=>
  obtain⟨j,cs,s,rfl,rfl,R,z,T⟩:=hrel;clear a;by_cases b:j<n
  ·obtain⟨u,d⟩:=Cb (cs:=cs) (p:=j) (by omega);have hc:=(R.cell j).trans d;have hf:=fun i=>R.frozen i;have t:(j:Int)<(n:Int):=by omega
   have m:=Ab R;have f:=Ab b;have o:=Ab z;clear R d z b;go_wp2_with fail
   go_roundw
   case rel=>exact⟨j+1,_,Aa f,by go_num,by go_num,(Aa m).set j _,by simpa using Aa o,T.trans (As.setCell _ _ _ NLN (yB _))⟩
   case measure=>have:=Aa f;simp[jI];omega
  ·have e:j=n:=by omega
   subst e;go_wp2
   go_ret
   exact⟨rfl,⟨q,cs,rfl,R,z⟩,T⟩
theorem Sn (q n c k:Nat)(w:Z)(h:Wd w ⟨q,0,none⟩ n 9)(x:k+n<=35184372088832):
  jE j4 72 #[Y (X ⟨q,0,none⟩) n c,U V k] w fun e w'=>e=jH (U V ((k:Int)+n))/\Wd w' ⟨q,0,none⟩ n 9/\As q (q+1) w w':=by
 obtain⟨_,m,e0,d,o⟩:=h;cases e0;go_enter func72,ntmps72
 go_wp2
 go_loopw [1,5] (fun v i wr=>∃ (j:Nat) (cs:Array Value),j<=n/\i=U V j/\v=U V ((k:Int)+j)/\Ag wr q cs 9/\cs.size=n/\As q (q+1) w wr) (fun _ i _=>n-(jI i).toNat)
 case atStart=>exact⟨0,m,zD _,rfl,by go_num,d,o,As.refl _ _ _⟩
 case round=>
  obtain⟨j,cs,y,rfl,rfl,R,z,T⟩:=hrel;clear d;by_cases f:j<n
  ·obtain⟨u,g⟩:=Cb (cs:=cs) (p:=j) (by omega);have A:(j:Int)<(n:Int):=by omega
   go_wp2_with fail
   refine(BN _ wr (by omega) (by omega)).mono ?_;rintro e B ⟨rfl,b⟩;have a:=R.after b NLN;have r:=T.trans (As.of_below (lo:=q) (hi:=q+1) b NLN);have hc:=(a.cell j).trans g;have hf:=fun i=>a.frozen i;have s:=Ab a;have l:=Ab f;have t:=Ab z;generalize Br ((k:Int)+(j:Int)).toNat=C;clear R a g z f T b;go_wp2_with fail
   go_roundw
   case rel=>exact⟨j+1,_,Aa l,by go_num,by go_num,(Aa s).set j _,by simpa using Aa t,r.trans (As.setCell _ _ _ NLN (yB _))⟩
   case measure=>have:=Aa l;simp[jI];omega
  ·have e:j=n:=by omega
   subst e;go_wp2
   go_ret
   exact⟨rfl,⟨q,cs,rfl,R,z⟩,T⟩
theorem N8 (q n c:Nat)(x:Int)(w:Z)(h:Wd w ⟨q,0,T⟩ n 3)(h0: 0<=x)(a:x+n<=35184372088832):
  jE j4 36 #[Y (X ⟨q,0,T⟩) n c,U V x] w fun e w'=>e=jH (U V (x+n))/\Wd w' ⟨q,0,T⟩ n 3/\As q (q+1) w w':=by
 obtain⟨k,rfl⟩:=yJ h0;exact YR q n c k w h (by omega)
theorem Qe (q n c:Nat)(x:Int)(w:Z)(h:Wd w ⟨q,0,T⟩ n 9)(h0: 0<=x)(a:x+n<=35184372088832):
  jE j4 72 #[Y (X ⟨q,0,T⟩) n c,U V x] w fun e w'=>e=jH (U V (x+n))/\Wd w' ⟨q,0,T⟩ n 9/\As q (q+1) w w':=by
 obtain⟨k,rfl⟩:=yJ h0;exact Sn q n c k w h (by omega)
def Cd (w w':Z):Prop:=∀x n t,Wd w x n t->Wd w' x n t
theorem Cd.refl (w:Z):Cd w w:=fun _ _ _ h=>h
theorem Cd.trans {b c:Z}(h:Cd a b)(k:Cd b c):Cd a c:=fun x n t d=>k x n t (h x n t d)
theorem Cd.below {w w':Z}(a:Below w.heap.size w w'):Cd w w':=fun x n t b=>b.below a NLN
theorem Cd.one {w w':Z}{q m:Nat}{s:jJ}(T:As q (q+1) w w')(k:Wd w ⟨q,0,none⟩ m s)(a:Wd w' ⟨q,0,none⟩ m s):Cd w w':=fun x n t b=>b.one T k a
theorem Cd.set (w:Z)(g i:Nat)(u:R):Cd w (w.setCell ⟨g,i,T⟩ u):=fun x n t b=>by
 obtain⟨q,cs,rfl,a,z⟩:=b;by_cases e:q=g
 ·subst e;exact⟨q,_,rfl,a.set i u,by simpa using z⟩
 ·exact⟨q,cs,rfl,a.setFar e u,z⟩
def NdZ (w:Z) (lo hi n:Nat) (cs:Array R):Prop:=∀i,i<n->∃q1 nn q2 nk,cs[i*5+3]? =X (Y (X ⟨q1,0,T⟩) nn nn)/\cs[i*5+4]? =X (Y (X ⟨q2,0,T⟩) nk nk)/\Wd w ⟨q1,0,T⟩ nn 9/\Wd w ⟨q2,0,T⟩ nk 3/\nn<=1048576/\nk<=1048576/\(lo<=q1/\q1<hi)/\lo<=q2/\q2<hi
theorem NdZ.one {w w':Z}{lo hi n q m:Nat}{cs:Array R}{s:jJ}(h:NdZ w lo hi n cs)(T:As q (q+1) w w')(k:Wd w ⟨q,0,none⟩ m s)(a:Wd w' ⟨q,0,none⟩ m s):NdZ w' lo hi n cs:=fun i hi'=>by
 obtain⟨b,nn,c,d,c3,c4,f,g,l1,j,b1,b2⟩:=h i hi';exact⟨b,nn,c,d,c3,c4,f.one T k a,g.one T k a,l1,j,b1,b2⟩
theorem NdZ.below {w w':Z}{lo hi n:Nat}{cs:Array R}(h:NdZ w lo hi n cs)(a:Below w.heap.size w w'):NdZ w' lo hi n cs:=fun i hi'=>by
 obtain⟨b,nn,c,d,c3,c4,f,g,l1,j,b1,b2⟩:=h i hi';exact⟨b,nn,c,d,c3,c4,f.below a NLN,g.below a NLN,l1,j,b1,b2⟩
theorem NdZ.set {w:Z}{lo hi n g:Nat}(h:NdZ w lo hi n cs)(R:Ag w g cs 85)(j a:Nat)(p:a<3)(u:Value):NdZ (w.setCell ⟨g,j*5+a,T⟩ u) lo hi n (cs.setIfInBounds (j*5+a) u):=fun i hi'=>by
 obtain⟨d,nn,f,k,c3,c4,b,c,l1,l,b1,b2⟩:=h i hi';have far:∀{q m:Nat} {t:jJ},Wd w ⟨q,0,T⟩ m t->t≠85->g≠q:=fun {q m t} hw ht e=>by
  obtain⟨_,r,e1,o,_⟩:=hw;cases e1;subst e;have e2:=o.out.symm.trans R.out;simp only[jr,Obj.cells.injEq]at e2;exact ht e2.2.1
 exact⟨d,nn,f,k,by rw[zq (by omega)];exact c3,by rw[zq (by omega)];exact c4,b.setFar (far b (by decide)) u,c.setFar (far c (by decide)) u,l1,l,b1,b2⟩
theorem Ag.one {w:Z}{q m g:Nat}(h:Ag w g cs t)(T:As q (q+1) w w')(k:Wd w ⟨q,0,none⟩ m s)(a:t≠s):Ag w' g cs t:=by
 by_cases e:g=q
 ·obtain⟨_,c,e1,b,_⟩:=k;cases e1;subst e;have e2:=h.out.symm.trans b.out;simp only[jr,Obj.cells.injEq]at e2;exact absurd e2.2.1 a
 ·exact⟨(T.block g h.lt (by omega)).trans h.out⟩
theorem VL (lo hi g n c k:Nat)(q:Array Value)(w:Z)(S:Ag w g q 85)(aD:q.size=n*5)(h0:NdZ w lo hi n q)(hg:lo<=g/\g<hi)(aS:n<=1048576)(aT:k<=1048576):
  jE j4 34 #[Y (X ⟨g,0,none⟩) n c,U V k] w fun e w'=>(∃y:Nat,e=jH (U V y)/\y<=k+n*2097155)/\As lo hi w w'/\Cd w w':=by
 go_enter func34,ntmps34
 go_wp2
 go_loopw [1,5] (fun v i wr=>∃ (j y:Nat) (cs:Array Value),j<=n/\i=U V j/\v=U V y/\y<=k+j*2097155/\Ag wr g cs 85/\cs.size=n*5/\NdZ wr lo hi n cs/\As lo hi w wr/\Cd w wr) (fun _ i _=>n-(jI i).toNat)
 case atStart=>exact⟨0,k,q,zD _,rfl,rfl,by omega,S,aD,h0,As.refl _ _ _,Cd.refl _⟩
 case round=>
  obtain⟨j,y,cs,aU,rfl,rfl,hy,R,z,D,T,K⟩:=hrel;clear S;by_cases E:j<n
  ·have aV:(j:Int)<(n:Int):=by omega
   have aW:y<=4398046511104:=by omega
   obtain⟨u0,e0⟩:=Cb (cs:=cs) (p:=j*5) (by omega);obtain⟨u1,e1⟩:=Cb (cs:=cs) (p:=j*5+1) (by omega);obtain⟨u2,e2⟩:=Cb (cs:=cs) (p:=j*5+2) (by omega);obtain⟨F,nn,G,a,c3,c4,r,aE,l1,aX,b1,b2⟩:=D j E;have aF:=(R.cell _).trans e0;have d1:=(R.cell _).trans e1;have aG:=fun i=>R.frozen i;have aH:=Ab hy;have H:=Ab E;have W:=Ab hg;have I:=(R.set (j*5) (U V y)).set (j*5+1) (U V ((y:Int)+1));have J:=(D.set R j 0 (by decide) (U V y)).set (R.set (j*5) (U V y)) j 1 (by decide) (U V ((y:Int)+1));have aa:=(T.trans (As.setCell wr ⟨g,j*5,none⟩ (U V y) hg.1 hg.2)).trans (As.setCell _ ⟨g,j*5+1,none⟩ (U V ((y:Int)+1)) hg.1 hg.2);have g2:((cs.setIfInBounds (j*5) (U V y)).setIfInBounds (j*5+1) (U V ((y:Int)+1)))[j*5+2]? =X u2:=by rw[zq (by omega),zq (by omega)];exact e2
   have g3:((cs.setIfInBounds (j*5) (U V y)).setIfInBounds (j*5+1) (U V ((y:Int)+1)))[j*5+3]? =X (Y (X ⟨F,0,none⟩) nn nn):=by rw[zq (by omega),zq (by omega)];exact c3
   have L:((cs.setIfInBounds (j*5) (U V y)).setIfInBounds (j*5+1) (U V ((y:Int)+1)))[j*5+4]? =X (Y (X ⟨G,0,none⟩) a a):=by rw[zq (by omega),zq (by omega)];exact c4
   have M:((cs.setIfInBounds (j*5) (U V y)).setIfInBounds (j*5+1) (U V ((y:Int)+1))).size=n*5:=by simpa using z
   generalize ((cs.setIfInBounds (j*5) (U V y)).setIfInBounds (j*5+1) (U V ((y:Int)+1)))=s at I J g2 g3 L M;have ab:=Ab I;have ac:=Ab J;have ad:=Ab aa;have ae:=Ab ((K.trans (Cd.set wr g (j*5) (U V y))).trans (Cd.set _ g (j*5+1) (U V ((y:Int)+1))));have t:=Ab (And.intro g2 (And.intro g3 L));have af:=Ab M;clear R D T K hy e0 e1 e2 c3 c4 z r aE E hg I J aa g2 g3 L M;go_wp2_with fail
   refine(BN _ _ (by omega) (by omega)).mono ?_;rintro e r ⟨rfl,h⟩;generalize Br ((y:Int)+1+1).toNat=b;have l:=(Aa ab).after h NLN;have ag:=(Aa ac).below h;have ah:=(Aa ad).trans (As.of_below (lo:=lo) (hi:=hi) h NLN);have u:=l.set (j*5+2) (Q b);have ai:=Ab (((Aa ae).trans (Cd.below h)).trans (Cd.set r g (j*5+2) (Q b)));have x:=ag.set l j 2 (by decide) (Q b);have aj:=ah.trans (As.setCell r ⟨g,j*5+2,none⟩ (Q b) (Aa W).1 (Aa W).2);have aI:=(l.cell _).trans (Aa t).1;have aJ:=fun i=>l.frozen i;have A:(s.setIfInBounds (j*5+2) (Q b))[j*5+3]? =X (Y (X ⟨F,0,none⟩) nn nn):=by rw[zq (by omega)];exact(Aa t).2.1
   have B:(s.setIfInBounds (j*5+2) (Q b))[j*5+4]? =X (Y (X ⟨G,0,none⟩) a a):=by rw[zq (by omega)];exact(Aa t).2.2
   have N:(s.setIfInBounds (j*5+2) (Q b)).size=n*5:=by simpa using Aa af
   generalize s.setIfInBounds (j*5+2) (Q b)=aK at u x A B N;have c3:=(u.cell _).trans A;obtain⟨aY,aZ,a0,a1,ak,al,ao,ap,_⟩:=x j (Aa H);rw[A]at ak;rw[B]at al;cases ak;cases al;have aq:=Ab u;have ar:=Ab x;have au:=Ab aj;have aL:=Ab B;have aM:=Ab N;have d:=Ab ao;have av:=Ab ap;clear l ag ah u x aj A B N ao ap h ab ac ad ae t af aF d1 aG;dsimp only;go_wp2_with fail
   refine(Qe F nn nn _ _ (Aa d) (by omega) (by omega)).mono ?_;rintro e a2 ⟨rfl,C,f⟩;have O:=(Aa aq).one f (Aa d) (by decide);have aw:=(Aa ar).one f (Aa d) C;have ax:=(Aa av).one f (Aa d) C;have ay:=Ab ((Aa ai).trans (Cd.one f (Aa d) C));have az:=(Aa au).trans (f.mono2 b1.1 b1.2);have c4:=(O.cell _).trans (Aa aL);have aA:=Ab O;have aB:=Ab aw;have m:=Ab ax;have aC:=Ab az;clear O aw ax az f C aq ar au ai d av c3 aJ aI;dsimp only;go_wp2_with fail
   refine(N8 G a a _ _ (Aa m) (by omega) (by omega)).mono ?_;rintro e a3 ⟨rfl,P,o⟩;have aN:=(Aa aA).one o (Aa m) (by decide);have aO:=(Aa aB).one o (Aa m) P;have aP:=(Aa ay).trans (Cd.one o (Aa m) P);have aQ:=(Aa aC).trans (o.mono2 b2.1 b2.2);have aR:=Ab (show y+3+nn+a<=k+(j+1)*2097155 by have:=Aa aH;omega);clear o P aA aB m aC ay c4;dsimp only;go_wp2_with fail
   go_roundw
   case rel=>exact⟨j+1,y+3+nn+a,aK,Aa H,by go_num,by go_num,Aa aR,aN,Aa aM,aO,aQ,aP⟩
   case measure=>have:=Aa H;simp[jI];omega
  ·have e:j=n:=by omega
   subst e;go_wp2
   go_ret
   exact⟨⟨y,rfl,hy⟩,T,K⟩
theorem VM (g n c:Nat)(x:Int)(w:Z)(h:Wd w ⟨g,0,none⟩ (n*4) 53)(O:n<=1048576)(P: 0<=x)(hx:x<=4398046511104):
  jE j4 35 #[Y (X ⟨g,0,none⟩) n c,U V x] w fun e w'=>e=jH (U V (x+4*n))/\As g (g+1) w w'/\Cd w w':=by
 obtain⟨_,D,e0,m,E⟩:=h;cases e0;go_enter func35,ntmps35
 go_wp2
 go_loopw [1,5] (fun v i wr=>∃ (j:Nat) (cs:Array Value),j<=n/\i=U V j/\v=U V (x+4*j)/\Ag wr g cs 53/\cs.size=n*4/\As g (g+1) w wr/\Cd w wr) (fun _ i _=>n-(jI i).toNat)
 case atStart=>exact⟨0,D,zD _,rfl,by go_num,m,E,As.refl _ _ _,Cd.refl _⟩
 case round=>
  obtain⟨j,cs,S,rfl,rfl,R,z,T,K⟩:=hrel;clear m;by_cases o:j<n
  ·have W:(j:Int)<(n:Int):=by omega
   obtain⟨u0,e0⟩:=Cb (cs:=cs) (p:=j*4) (by omega);obtain⟨u1,e1⟩:=Cb (cs:=cs) (p:=j*4+1) (by omega);obtain⟨u2,e2⟩:=Cb (cs:=cs) (p:=j*4+2) (by omega);obtain⟨u3,e3⟩:=Cb (cs:=cs) (p:=j*4+3) (by omega);have F:=(R.cell _).trans e0;have G:=fun i=>R.frozen i;generalize H:x+4*(j:Int)=y;have aa: 0<=y:=by omega
   have ab:y<=4398050705408:=by omega
   have I:=Ab (show y+1+1+1+1=x+4*((j+1 :Nat):Int) by omega);have f:=R.set (j*4) (U V y);have q:=T.trans (As.setCell wr ⟨g,j*4,none⟩ (U V y) NLN (yB _));have r:=K.trans (Cd.set wr g (j*4) (U V y));have g1:(cs.setIfInBounds (j*4) (U V y))[j*4+1]? =X u1:=by rw[zq (by omega)];exact e1
   have g2:(cs.setIfInBounds (j*4) (U V y))[j*4+2]? =X u2:=by rw[zq (by omega)];exact e2
   have g3:(cs.setIfInBounds (j*4) (U V y))[j*4+3]? =X u3:=by rw[zq (by omega)];exact e3
   have k:(cs.setIfInBounds (j*4) (U V y)).size=n*4:=by simpa using z
   generalize cs.setIfInBounds (j*4) (U V y)=ac at f g1 g2 g3 k;have s:=Ab f;have t:=Ab q;have u:=Ab r;have b:=Ab (And.intro g1 (And.intro g2 g3));have J:=Ab k;have A:=Ab o;clear H R T K e0 e1 e2 e3 z o f q r g1 g2 g3 k;go_wp2_with fail
   refine(BN _ _ (by omega) (by omega)).mono ?_;rintro e ad ⟨rfl,d⟩;generalize Br (y+1).toNat=l;have a:=(Aa s).after d NLN;have B:=(Aa t).trans (As.of_below (lo:=g) (hi:=g+1) d NLN);have C:=(Aa u).trans (Cd.below d);have d1:=(a.cell _).trans (Aa b).1;have d2:=(a.cell _).trans (Aa b).2.1;have d3:=(a.cell _).trans (Aa b).2.2;have ae:=fun i=>a.frozen i;have L:=Ab (((a.set (j*4+1) (Q l)).set (j*4+2) (U V (y+1+1))).set (j*4+3) (U V (y+1+1+1)));have M:=Ab (((B.trans (As.setCell _ ⟨g,j*4+1,none⟩ (Q l) NLN (yB _))).trans (As.setCell _ ⟨g,j*4+2,none⟩ (U V (y+1+1)) NLN (yB _))).trans (As.setCell _ ⟨g,j*4+3,none⟩ (U V (y+1+1+1)) NLN (yB _)));have N:=Ab (((C.trans (Cd.set _ g (j*4+1) (Q l))).trans (Cd.set _ g (j*4+2) (U V (y+1+1)))).trans (Cd.set _ g (j*4+3) (U V (y+1+1+1))));clear a B C d s t u b F G;dsimp only;go_wp2_with fail
   go_roundw
   case rel=>exact⟨j+1,_,Aa A,by go_num,by rw[Aa I],Aa L,by simpa using Aa J,Aa M,Aa N⟩
   case measure=>have:=Aa A;simp[jI];omega
  ·have e:j=n:=by omega
   subst e;go_wp2
   go_ret
   exact⟨rfl,T,K⟩
set_option maxHeartbeats 3200000
theorem AK.setFar2 {w:Z}{a:Option jD}{n c:Nat}{L:List Int}(h:AK w a n c L){q:jD}(hq:∀x,a=X x->x.block≠q.block)(u:R):AK (w.setCell q u) a n c L:=
 ⟨h.len,h.small,fun j f=>by
  obtain⟨b,g,d,i,k⟩:=h.cells j f;refine⟨b,g,d,by simpa using i,?_⟩;rw[j0 (w:=w) (jc w q b u (hq _ d))];exact k⟩
def TdM (B:Nat) (w:Z) (x1 x2 x3:jD) (m p:Nat) (N:List Nd):Prop:=(∃g,x1=⟨g,0,T⟩/\Hi w g N)/\Wd w x2 (m*4) 53/\Wd w x3 p 3/\B<=x1.block/\B<=x2.block/\B<=x3.block
theorem Wq (a b f:Option jD)(n c m d p g:Nat)(N:List Nd)(L:List St)(T:List Int)(w:Z)(h1:Pa w a n c N)(h2:Pb w b m d L)(h3:Gv w f p g T)(hs:Ur n m p N L):
  jE j4 6 #[jG #[Y a n c,Y b m d,Y f p g]] w fun e w'=>∃E x2 x3,e=jH (jG #[Y (X E) n n,Y (X x2) m m,Y (X x3) p p])/\GY w' (X E) n n N/\Jl w' (X x2) m m L/\AK w' (X x3) p p T/\Below w.heap.size w w'/\TdM w.heap.size w' E x2 x3 m p N:=by
 go_enter func6,ntmps6
 go_wp2_with fail
 have F:=(((Av w (.cells #[Y a n c,Y b m d,Y f p g] 26)).alloc (by simp) (Fo none 0 0 none 0 0 none 0 0)).alloc (by simp;omega) (Fo none 0 0 none 0 0 none 0 0))
 have aa:=((Ag.new w #[Y a n c,Y b m d,Y f p g] 26).alloc (Fo none 0 0 none 0 0 none 0 0)).alloc (Fo none 0 0 none 0 0 none 0 0);have G:=(Ag.new (w.alloc (.cells #[Y a n c,Y b m d,Y f p g] 26)) #[Y none 0 0,Y none 0 0,Y none 0 0] 31).alloc (Fo none 0 0 none 0 0 none 0 0);have H:=Ag.new ((w.alloc (.cells #[Y a n c,Y b m d,Y f p g] 26)).alloc (Fo none 0 0 none 0 0 none 0 0)) #[Y none 0 0,Y none 0 0,Y none 0 0] 31;simp only[jW]at G H;refine(Ya _ _ _ _ _ (h1.below F NLN) hs.1.1.1 hs.1.1.2).mono ?_;rintro e I ⟨rfl,o,k⟩;have J:=F.trans (o.mono (by simp;omega));have r:=aa.after o NLN;have s:=G.after o NLN;have r2:=H.after o NLN;have q:=o.size;simp only[jW]at q k|-;clear F aa G H o;generalize ab:w.heap.size=g0 at r s r2 q k J|-;generalize ap:g0+1=g1 at s r2 q k|-;generalize aq:g1+1=g2 at r2 q k|-;generalize ar:g2+1=g3 at q k|-;have au:g0<g1/\g1<g2/\g2<g3/\g3<=I.heap.size:=by omega
 have t:=Ab ab;clear ap aq ar ab;obtain⟨k0,K,M⟩:=BI r;obtain⟨u,y,z⟩:=BI r2;have O:=fun j=>r2.frozen j
 try dsimp only
 go_wp2_with fail
 have P:=J.setCell (p:=⟨g2,0,none⟩) (by show g0<=g2;omega) (Y (X ⟨g3,0,none⟩) n n);have ac:Below w.heap.size w (I.setCell ⟨g2,0,none⟩ (Y (X ⟨g3,0,none⟩) n n)):=by rw[Aa t];exact P
 refine(Yb _ _ _ _ _ (h2.below ac NLN) hs.1.2.1 hs.1.2.2).mono ?_;rintro e ad ⟨rfl,l,A,B⟩;have ae:=(r.setFar (p:=⟨g2,0,none⟩) (by show g0≠g2;omega) (Y (X ⟨g3,0,none⟩) n n)).after l NLN;have af:=(s.setFar (p:=⟨g2,0,none⟩) (by show g1≠g2;omega) (Y (X ⟨g3,0,none⟩) n n)).after l NLN;have C:=(r2.set 0 (Y (X ⟨g3,0,none⟩) n n)).after l NLN;have s1:=(k.setLow (p:=⟨g2,0,none⟩) (by show g2<g3;omega) (Y (X ⟨g3,0,none⟩) n n)).below l NLN;have ag:=P.trans (l.mono (by simp;omega));have S:=l.size;simp only[World.size_setCell]at S A B|-;clear r s r2 k k0 K M u y z O J P ac l;generalize av:I.heap.size=h at au S A B|-;clear av;obtain⟨k0,K,M⟩:=BI ae;obtain⟨u,y,z⟩:=BI C;have O:=fun j=>C.frozen j
 try dsimp only
 go_wp2_with fail
 have W:=ag.setCell (p:=⟨g2,1,none⟩) (by show g0<=g2;omega) (Y (X ⟨h,0,none⟩) m m);have ah:Below w.heap.size w (ad.setCell ⟨g2,1,none⟩ (Y (X ⟨h,0,none⟩) m m)):=by rw[Aa t];exact W
 refine(RA _ _ _ _ _ (h3.below ah NLN) hs.2).mono ?_;rintro e aE ⟨rfl,i,D⟩;have ai:=(af.setFar (p:=⟨g2,1,none⟩) (by show g1≠g2;omega) (Y (X ⟨h,0,none⟩) m m)).after i NLN;have aj:=(C.set 1 (Y (X ⟨h,0,none⟩) m m)).after i NLN;have s2:=(s1.setLow (p:=⟨g2,1,none⟩) (by show g2<g3;omega) (Y (X ⟨h,0,none⟩) m m)).below i NLN;have aw:=(Jl.setFar A (p:=⟨g2,1,none⟩) (by show g2≠h;omega) (Y (X ⟨h,0,none⟩) m m)).below i NLN;have ax:=(B.setFar (p:=⟨g2,1,none⟩) (by show g2≠h;omega) (Y (X ⟨h,0,none⟩) m m)).below i NLN;have ay:=W.trans (i.mono (by simp;omega));have ak:=i.size;simp only[World.size_setCell]at ak D|-;have al:=BS D hs.2;have ao:=Wd.of_owns D;clear ae af C s1 A B D k0 K M u y z O ag W ah i;generalize az:ad.heap.size=aA at S ak al ao|-;clear az;have aF:=fun j=>ai.frozen j;have aG:=fun j=>aj.frozen j;obtain⟨aB,aC,aD⟩:=BI ai;obtain⟨u,y,z⟩:=BI aj
 try dsimp only
 go_wp2_with fail
 refine jN (v:= jG #[Y (X ⟨g3,0,none⟩) n n,Y (X ⟨h,0,none⟩) m m,Y (X ⟨aA,0,none⟩) p p]) (by simp[results,results6,go_sem,aB,aC,aD]) rfl ⟨_,_,_,rfl,?_,?_,?_,?_,?_,?_,?_,?_⟩
 ·refine Hi.nds ?_ h1.len hs.1.1.1 hs.1.1.2;refine Hi.setLow (Hi.setLow (Hi.setLow (Hi.setLow s2 ?_ _) ?_ _) ?_ _) ?_ _
  all_goals (dsimp only;omega)
 ·refine Jl.setFar (Jl.setFar (Jl.setFar (Jl.setFar aw ?_ _) ?_ _) ?_ _) ?_ _
  all_goals (dsimp only;omega)
 ·refine AK.setFar2 (AK.setFar2 (AK.setFar2 (AK.setFar2 al ?_ _) ?_ _) ?_ _) ?_ _
  all_goals (intro x hx;cases hx;dsimp only;omega)
 ·rw[Aa t];refine Below.setCell (Below.setCell (Below.setCell (Below.setCell ay ?_ _) ?_ _) ?_ _) ?_ _
  all_goals (dsimp only;omega)
 ·refine⟨g3,rfl,?_⟩;refine Hi.setLow (Hi.setLow (Hi.setLow (Hi.setLow s2 ?_ _) ?_ _) ?_ _) ?_ _
  all_goals (dsimp only;omega)
 ·refine Wd.setFar (Wd.setFar (Wd.setFar (Wd.setFar ax ?_ _) ?_ _) ?_ _) ?_ _
  all_goals (dsimp only;omega)
 ·refine Wd.setFar (Wd.setFar (Wd.setFar (Wd.setFar ao ?_ _) ?_ _) ?_ _) ?_ _
  all_goals (dsimp only;omega)
 ·rw[Aa t];dsimp only;omega
set_option maxHeartbeats 1600000
def TyZ (w:Z) (lo hi:Nat) (x1 x2 x3:jD) (n m p:Nat):Prop:=∃g cs g2 g3,x1=⟨g,0,T⟩/\x2=⟨g2,0,T⟩/\x3=⟨g3,0,T⟩/\Ag w g cs 85/\cs.size=n*5/\NdZ w lo hi n cs/\Wd w ⟨g2,0,T⟩ (m*4) 53/\Wd w ⟨g3,0,T⟩ p 3/\(lo<=g/\g<hi)/\(lo<=g2/\g2<hi)/\lo<=g3/\g3<hi
theorem TyZ.below {w w':Z}{lo hi n m p:Nat}{c x2 x3:jD}(h:TyZ w lo hi c x2 x3 n m p)(a:Below w.heap.size w w'):TyZ w' lo hi c x2 x3 n m p:=by
 obtain⟨g,cs,g2,g3,e1,e2,e3,R,z,d,f,i,b⟩:=h;exact⟨g,cs,g2,g3,e1,e2,e3,R.after a NLN,z,d.below a,f.below a NLN,i.below a NLN,b⟩
theorem TyZ.of {B p:Nat}{w:Z}{c x2 x3:jD}{N:List Nd}{L:List St}(h:TdM B w c x2 x3 m p N)(j:N.length=n)(hs:Ur n m p N L):TyZ w B w.heap.size c x2 x3 n m p:=by
 obtain⟨⟨g,rfl,cs,⟨R,z⟩,hx⟩,⟨g2,c2,rfl,d,k⟩,⟨g3,c3,rfl,f,l⟩,b1,b2,b3⟩:=h;refine⟨g,cs,g2,g3,rfl,rfl,rfl,R,by rw[z,j],fun i hi=>?_,⟨g2,c2,rfl,d,k⟩,⟨g3,c3,rfl,f,l⟩,⟨b1,R.lt⟩,⟨b2,d.lt⟩,b3,f.lt⟩;obtain⟨A,nn,C,o,_,_,_,d3,d4,hS,q,⟨r,s⟩,g1,g2⟩:=hx i (by omega);have t:=hs.1.1.2 _ (zH (by omega:i<N.length));obtain⟨a,u,rfl,s1,v⟩:=r;obtain⟨b,x,rfl,s2,y⟩:=s;exact⟨a,nn,b,o,d3,d4,⟨a,u,rfl,s1,v⟩,⟨b,x,rfl,s2,y⟩,by rw[hS.len];exact t.2.1,q.small,⟨by have:g<a:=g1;have:B<=g:=b1;omega,s1.lt⟩,by have:g<b:=g2;have:B<=g:=b1;omega,s2.lt⟩
theorem VK (lo hi:Nat)(k x2 x3:jD)(n m p:Nat)(w:Z)(h:TyZ w lo hi k x2 x3 n m p)(B:hi<=w.heap.size)(C:n<=1048576)(hm:m<=1048576)(hp:p<=1048576):
  jE j4 9 #[jG #[Y (X k) n n,Y (X x2) m m,Y (X x3) p p],U V 1] w fun e w'=>(∃y:Nat,e=jH (U V y)/\y<=8796093022208)/\As lo hi w w':=by
 obtain⟨g,cs,g2,g3,rfl,rfl,rfl,R,z,l,o,b,b1,b2,b3⟩:=h;have a:=Av w (.cells #[Y (X ⟨g,0,T⟩) n n,Y (X ⟨g2,0,T⟩) m m,Y (X ⟨g3,0,T⟩) p p] 31);have c:=Ag.new w #[Y (X ⟨g,0,T⟩) n n,Y (X ⟨g2,0,T⟩) m m,Y (X ⟨g3,0,T⟩) p p] 31;have d:=Cd.below a;have q:=As.of_below (lo:=lo) (hi:=hi) a NLN;have r:=Ab (VL lo hi g n n 1 cs _ (R.after a NLN) z (l.below a) b1 C (by omega));have s:=d _ _ _ o;have t:=d _ _ _ b;clear o b R l d;go_enter func9,ntmps9
 go_wp2_with fail
 refine(Aa r).mono ?_;rintro e D ⟨⟨y,rfl,hy⟩,f,i⟩;have X1:Ag D w.heap.size _ 31:=⟨(f.block _ c.lt (.inr B)).trans c.out⟩
 have u:=i _ _ _ s;have v:=i _ _ _ t;have x:=q.trans f;obtain⟨m0,E,F⟩:=BI X1;clear s t f i c q r;dsimp only;go_wp2_with fail
 refine(VM g2 m m _ _ u hm (by omega) (by omega)).mono ?_;rintro e G ⟨rfl,j,A⟩;have X2:Ag G w.heap.size _ 31:=⟨(j.block _ X1.lt (.inr (by have:=b2.2;omega))).trans X1.out⟩
 have H:=A _ _ _ v;have I:=x.trans (j.mono2 b2.1 b2.2);obtain⟨L,M,r2⟩:=BI X2;clear u v j A X1 x m0 E F;dsimp only;go_wp2_with fail
 refine(N8 g3 p p _ _ H (by omega) (by omega)).mono ?_;rintro e N ⟨rfl,b,J⟩;have K:=I.trans (J.mono2 b3.1 b3.2);dsimp only;go_wp2_with fail
 go_ret
 exact⟨⟨y+4*m+p,by go_num,by omega⟩,K⟩
theorem OD (a f:Option jD)(n c c':Nat)(L:List Int)(w:Z)(h:AK w a n c L)(j:AK w f n c' L):
  jE j4 33 #[Y a n c,Y f n c'] w fun e w'=>e=jH (.bool jA)/\Below w.heap.size w w':=by
 have p:=h.small;have l:=Ab h.len;go_enter func33,ntmps33
 go_wp2
 go_loopw [5] (fun i wr=>∃k:Nat,k<=n/\i=U V k/\Below w.heap.size w wr) (fun i _=>n-(jI i).toNat)
 case atStart=>exact⟨0,zD _,rfl,BRN⟩
 case round=>
  obtain⟨k,q,rfl,d⟩:=hrel;by_cases m:k<n
  ·have g:k<L.length:=by rw[Aa l];exact m
   obtain⟨b,r,rfl,_,hc⟩:=(h.below d NLN).cells k g;obtain⟨s,t,rfl,_,o⟩:=(j.below d NLN).cells k g;have u:(k:Int)<(n:Int):=by omega
   generalize L[k]=x at hc o;go_wp2
   go_quiet (fail)
   go_wp2
   go_roundw
   case rel=>exact⟨k+1,by omega,by go_num,d.trans ((Cj wr _).mono d.size)⟩
   case measure=>simp[jI];omega
  ·go_wp2
   go_ret
   exact⟨rfl,d⟩
theorem Yc (x:Nd)(an b:Option jD)(nn cn c:Nat)(d f:Option jD)(a g h:Nat)(w:Z)
  (h1:Ap w an nn cn x.names)(n:Ap w b nn c x.names)(h2:AK w d a g x.kids)(o:AK w f a h x.kids):
  jE j4 69 #[jG #[U V x.op,U V x.num,Q x.text,Y an nn cn,Y d a g],jG #[U V x.op,U V x.num,Q x.text,Y b nn c,Y f a h]] w fun e w'=>e=jH (.bool jA)/\Below w.heap.size w w':=by
 have j:=(Av w (Dw x.op x.num x.text an nn cn d a g)).alloc (by simp) (Dw x.op x.num x.text b nn c f a h);have m:=(Ag.new w #[U V x.op,U V x.num,Q x.text,Y an nn cn,Y d a g] 85).alloc (Dw x.op x.num x.text b nn c f a h);have k:=Ag.new (w.alloc (Dw x.op x.num x.text an nn cn d a g)) #[U V x.op,U V x.num,Q x.text,Y b nn c,Y f a h] 85;simp only[jW]at k;go_enter func69,ntmps69
 go_wp2_with fail
 refine(Qc _ _ _ _ _ _ _ (h1.below j NLN) (n.below j NLN)).mono ?_;rintro e t ⟨rfl,i⟩;have l:=j.trans (i.mono (by simp;omega));have p:=(m.after i NLN).cell 4;have q:=(k.after i NLN).cell 4;have r:=i.size;simp at p q r;clear m k j i;go_wp2_with fail
 refine(OD _ _ _ _ _ _ _ (h2.below l NLN) (o.below l NLN)).mono ?_;rintro e u ⟨rfl,s⟩;go_wp2_with fail
 go_ret
 exact⟨rfl,l.trans (s.mono (by omega))⟩
theorem Va (a G:Option jD)(n c c':Nat)(N:List Nd)(w:Z)(h:GY w a n c N)(H:GY w G n c' N):
  jE j4 31 #[Y a n c,Y G n c'] w fun e w'=>e=jH (.bool jA)/\Below w.heap.size w w':=by
 have W:=h.small;have L:=Ab h.len;go_enter func31,ntmps31
 go_wp2_with fail
 go_loopw [5] (fun i wr=>∃k:Nat,k<=n/\i=U V k/\Below w.heap.size w wr) (fun i _=>n-(jI i).toNat)
 case atStart=>exact⟨0,zD _,rfl,BRN⟩
 case round=>
  obtain⟨k,aa,rfl,o⟩:=hrel;by_cases r:k<n
  ·have I:k<N.length:=by rw[Aa L];exact r
   obtain⟨b,d,rfl,p,an,nn,cn,s,l,t,u,c1,c2,c3,c4,v,y⟩:=(h.below o NLN).cells k I;obtain⟨f,g,rfl,q,z,M,A,B,O,C,D,d1,d2,d3,d4,E,F⟩:=(H.below o NLN).cells k I;have P:(k:Int)<(n:Int):=by omega
   generalize N[k]=x at u c1 c2 c3 c4 v y D d1 d2 d3 d4 E F;obtain rfl:nn=M:=by rw[v.len,E.len]
   obtain rfl:l=O:=by rw[<-y.len,<-F.len]
   have J:=Ab r;clear r h H;go_wp2_with fail
   have m:Below wr.heap.size wr wr.drew:=BRN.drew;have ab:wr.drew.cell? ⟨b,d+k*5,T⟩=X (U V x.op)/\wr.drew.cell? ⟨b,d+k*5+1,T⟩=X (U V x.num)/\wr.drew.cell? ⟨b,d+k*5+2,T⟩=X (Q x.text)/\wr.drew.cell? ⟨b,d+k*5+3,T⟩=X (Y an nn cn)/\wr.drew.cell? ⟨b,d+k*5+4,T⟩=X (Y s l t)/\wr.drew.cell? ⟨f,g+k*5,T⟩=X (U V x.op)/\wr.drew.cell? ⟨f,g+k*5+1,T⟩=X (U V x.num)/\wr.drew.cell? ⟨f,g+k*5+2,T⟩=X (Q x.text)/\wr.drew.cell? ⟨f,g+k*5+3,T⟩=X (Y z nn A)/\wr.drew.cell? ⟨f,g+k*5+4,T⟩=X (Y B l C):=⟨u,c1,c2,c3,c4,D,d1,d2,d3,d4⟩
   go_region_held3 (fun w'=>w'.cell? ⟨b,d+k*5,T⟩=X (U V x.op)/\w'.cell? ⟨b,d+k*5+1,T⟩=X (U V x.num)/\w'.cell? ⟨b,d+k*5+2,T⟩=X (Q x.text)/\w'.cell? ⟨b,d+k*5+3,T⟩=X (Y an nn cn)/\w'.cell? ⟨b,d+k*5+4,T⟩=X (Y s l t)/\w'.cell? ⟨f,g+k*5,T⟩=X (U V x.op)/\w'.cell? ⟨f,g+k*5+1,T⟩=X (U V x.num)/\w'.cell? ⟨f,g+k*5+2,T⟩=X (Q x.text)/\w'.cell? ⟨f,g+k*5+3,T⟩=X (Y z nn A)/\w'.cell? ⟨f,g+k*5+4,T⟩=X (Y B l C)) (first|assumption|go_keep)
    (first
     |(go_at_call 69;refine(Yc x _ _ _ _ _ _ _ _ _ _ _ (v.below m NLN) (E.below m NLN) (y.below m NLN) (F.below m NLN)).mono ?_;rintro e j ⟨rfl,S⟩;have K:=m.trans (S.mono m.size);obtain⟨ec,_⟩:=AhD K;have ac:j.cell? ⟨b,d+k*5,T⟩=X (U V x.op)/\j.cell? ⟨b,d+k*5+1,T⟩=X (U V x.num)/\j.cell? ⟨b,d+k*5+2,T⟩=X (Q x.text)/\j.cell? ⟨b,d+k*5+3,T⟩=X (Y an nn cn)/\j.cell? ⟨b,d+k*5+4,T⟩=X (Y s l t)/\j.cell? ⟨f,g+k*5,T⟩=X (U V x.op)/\j.cell? ⟨f,g+k*5+1,T⟩=X (U V x.num)/\j.cell? ⟨f,g+k*5+2,T⟩=X (Q x.text)/\j.cell? ⟨f,g+k*5+3,T⟩=X (Y z nn A)/\j.cell? ⟨f,g+k*5+4,T⟩=X (Y B l C):=⟨(ec _ _ p).trans u,(ec _ _ p).trans c1,(ec _ _ p).trans c2,(ec _ _ p).trans c3,(ec _ _ p).trans c4,(ec _ _ q).trans D,(ec _ _ q).trans d1,(ec _ _ q).trans d2,(ec _ _ q).trans d3,(ec _ _ q).trans d4⟩))
   go_wp2_with fail
   go_roundw
   case rel=>exact⟨k+1,Aa J,by go_num,o.trans (K.mono o.size)⟩
   case measure=>have:=Aa J;simp[jI];omega
  ·have P: ¬ ((k:Int)<(n:Int)):=by omega
   go_wp2_with fail
   go_ret
   exact⟨rfl,o⟩
theorem Yd (s:St)(w:Z):
  jE j4 70 #[jG #[U V s.kind,Q s.name,U V s.cond,U V s.grant],jG #[U V s.kind,Q s.name,U V s.cond,U V s.grant]] w fun e w'=>e=jH (.bool jA)/\Below w.heap.size w w':=by
 go_enter func70,ntmps70
 go_wp2
 go_ret
 exact⟨rfl,(Av w _).alloc (by simp) _⟩
theorem Vb (a s:Option jD)(n c c':Nat)(N:List St)(w:Z)(h:Jl w a n c N)(t:Jl w s n c' N):
  jE j4 32 #[Y a n c,Y s n c'] w fun e w'=>e=jH (.bool jA)/\Below w.heap.size w w':=by
 have D:=h.small;have A:=Ab h.len;go_enter func32,ntmps32
 go_wp2_with fail
 go_loopw [5] (fun i wr=>∃k:Nat,k<=n/\i=U V k/\Below w.heap.size w wr) (fun i _=>n-(jI i).toNat)
 case atStart=>exact⟨0,zD _,rfl,BRN⟩
 case round=>
  obtain⟨k,E,rfl,l⟩:=hrel;by_cases p:k<n
  ·have u:k<N.length:=by rw[Aa A];exact p
   obtain⟨b,d,rfl,m,q,c1,c2,c3⟩:=(h.below l NLN).cells k u;obtain⟨f,g,rfl,o,r,d1,d2,d3⟩:=(t.below l NLN).cells k u;have B:(k:Int)<(n:Int):=by omega
   generalize N[k]=x at q c1 c2 c3 r d1 d2 d3;have v:=Ab p;clear p h t;go_wp2_with fail
   have y:Below wr.heap.size wr wr.drew:=BRN.drew;have F:wr.drew.cell? ⟨b,d+k*4,T⟩=X (U V x.kind)/\wr.drew.cell? ⟨b,d+k*4+1,T⟩=X (Q x.name)/\wr.drew.cell? ⟨b,d+k*4+2,T⟩=X (U V x.cond)/\wr.drew.cell? ⟨b,d+k*4+3,T⟩=X (U V x.grant)/\wr.drew.cell? ⟨f,g+k*4,T⟩=X (U V x.kind)/\wr.drew.cell? ⟨f,g+k*4+1,T⟩=X (Q x.name)/\wr.drew.cell? ⟨f,g+k*4+2,T⟩=X (U V x.cond)/\wr.drew.cell? ⟨f,g+k*4+3,T⟩=X (U V x.grant):=⟨q,c1,c2,c3,r,d1,d2,d3⟩
   go_region_held3 (fun w'=>w'.cell? ⟨b,d+k*4,T⟩=X (U V x.kind)/\w'.cell? ⟨b,d+k*4+1,T⟩=X (Q x.name)/\w'.cell? ⟨b,d+k*4+2,T⟩=X (U V x.cond)/\w'.cell? ⟨b,d+k*4+3,T⟩=X (U V x.grant)/\w'.cell? ⟨f,g+k*4,T⟩=X (U V x.kind)/\w'.cell? ⟨f,g+k*4+1,T⟩=X (Q x.name)/\w'.cell? ⟨f,g+k*4+2,T⟩=X (U V x.cond)/\w'.cell? ⟨f,g+k*4+3,T⟩=X (U V x.grant)) (first|assumption|go_keep)
    (first
     |(go_at_call 70;refine(Yd x _).mono ?_;rintro e j ⟨rfl,C⟩;have z:=y.trans (C.mono y.size);obtain⟨ec,_⟩:=AhD z;have G:j.cell? ⟨b,d+k*4,T⟩=X (U V x.kind)/\j.cell? ⟨b,d+k*4+1,T⟩=X (Q x.name)/\j.cell? ⟨b,d+k*4+2,T⟩=X (U V x.cond)/\j.cell? ⟨b,d+k*4+3,T⟩=X (U V x.grant)/\j.cell? ⟨f,g+k*4,T⟩=X (U V x.kind)/\j.cell? ⟨f,g+k*4+1,T⟩=X (Q x.name)/\j.cell? ⟨f,g+k*4+2,T⟩=X (U V x.cond)/\j.cell? ⟨f,g+k*4+3,T⟩=X (U V x.grant):=⟨(ec _ _ m).trans q,(ec _ _ m).trans c1,(ec _ _ m).trans c2,(ec _ _ m).trans c3,(ec _ _ o).trans r,(ec _ _ o).trans d1,(ec _ _ o).trans d2,(ec _ _ o).trans d3⟩))
   go_wp2_with fail
   go_roundw
   case rel=>exact⟨k+1,Aa v,by go_num,l.trans (z.mono l.size)⟩
   case measure=>have:=Aa v;simp[jI];omega
  ·have B: ¬ ((k:Int)<(n:Int)):=by omega
   go_wp2_with fail
   go_ret
   exact⟨rfl,l⟩
theorem L9 (a h b i f j:Option jD)(n c c' m d k p g l:Nat)(N:List Nd)(L:List St)(T:List Int)(w:Z)(h1:GY w a n c N)(z:GY w h n c' N)(h2:Jl w b m d L)(A:Jl w i m k L)(h3:AK w f p g T)(B:AK w j p l T):
  jE j4 8 #[jG #[Y a n c,Y b m d,Y f p g],jG #[Y h n c',Y i m k,Y j p l]] w fun e w'=>e=jH (.bool jA)/\Below w.heap.size w w':=by
 have q:=(Av w (Fo a n c b m d f p g)).alloc (by simp) (Fo h n c' i m k j p l);have v:=(Ag.new w #[Y a n c,Y b m d,Y f p g] 31).alloc (Fo h n c' i m k j p l);have s:=Ag.new (w.alloc (Fo a n c b m d f p g)) #[Y h n c',Y i m k,Y j p l] 31;simp only[jW]at s;go_enter func8,ntmps8
 go_wp2_with fail
 refine(Va _ _ _ _ _ _ _ (h1.below q NLN) (z.below q NLN)).mono ?_;rintro e E ⟨rfl,o⟩;have t:=q.trans (o.mono (by simp;omega));have x:=v.after o NLN;have y:=s.after o NLN;obtain⟨F,G,H⟩:=BI x;obtain⟨I,s1,s2⟩:=BI y;have C:=o.size;simp at C;clear v s q o
 try dsimp only
 go_wp2_with fail
 refine(Vb _ _ _ _ _ _ _ (h2.below t NLN) (A.below t NLN)).mono ?_;rintro e J ⟨rfl,r⟩;have u:=t.trans (r.mono (by omega));obtain⟨K,M,O⟩:=BI (x.after r NLN);obtain⟨P,S,W⟩:=BI (y.after r NLN)
 try dsimp only
 go_wp2_with fail
 refine(OD _ _ _ _ _ _ _ (h3.below u NLN) (B.below u NLN)).mono ?_;rintro e aa ⟨rfl,D⟩;go_wp2_with fail
 go_ret
 exact⟨rfl,u.trans (D.mono (by have:=r.size;omega))⟩
end
section
open Go.ChangeShapes Go.WideShapes Go.RowKit Go.Deep
theorem JB: j4.cellsOf 9 =1:=by kernel_rfl
theorem AfM: j4.cellsOf 2 =1:=by kernel_rfl
theorem CR: j4.cellsOf 3 =1:=by kernel_rfl
theorem AhB: j4.cellsOf 46 =1:=by kernel_rfl
theorem Abo: j4.cellsOf 24 =1:=by kernel_rfl
theorem Abp: j4.cellsOf 78 =5:=by kernel_rfl
theorem AhC: j4.cellsOf 80 =4:=by kernel_rfl
theorem AfN: j4.cellsOf 22 =1:=by kernel_rfl
theorem AfO: j4.cellsOf 23 =1:=by kernel_rfl
theorem AfP: j4.cellsOf 26 =3:=by kernel_rfl
instance:Inhabited Nd:=⟨⟨0,0,⟨#[]⟩,[],[]⟩⟩
instance:Inhabited St:=⟨⟨0,⟨#[]⟩,0,0⟩⟩
section
variable {H : Type} {enc : jJ×R -> H} {w : Z} {held : Bool}
theorem Gk (b a j:Nat):(⟨b,a,T⟩:jD).add j=⟨b,a+j,T⟩:=by
 by_cases e:j=0<;>simp[Addr.add,e]
theorem Gl {e:jJ}{x:DataW H×List MemPlace}(d: j4.underlying t=X (.slice e))(h:jf enc j4 w 0 (fun _=>jA) held fuel t [v]=X x):∃a l c,v=Y a l c:=by
 rcases open_slice d h with⟨b,_⟩|⟨_,_,_,_,_,_,_,b,_⟩
 ·simp only[jo,and_true]at b;exact⟨_,_,_,b⟩
 ·simp only[jo,and_true]at b;exact⟨_,_,_,b⟩
theorem Vf {a:jD}(h:w.cell? (a.add 0)=X v):∃b c,a=⟨b,c,T⟩:=by
 have hs:=World.cell?_spot h;obtain⟨b,c,d⟩:=a;simp[Addr.add]at hs;subst hs;exact⟨b,c,rfl⟩
theorem Gv.of_trod {x:DataW H×List MemPlace}{a:Option jD}{c:Nat}(h:jf enc j4 w 0 (fun _=>jA) held fuel 24 [Y a n c]=X x):∃L,Gv w a n c L:=by
 rcases open_slice1 underlying24 CR h with⟨d,_⟩|⟨o,len,cap,m,k,u,v,y,d,_,q,hm,r,_,hx⟩
 ·simp only[jo,jh,and_true]at d;obtain⟨rfl,rfl,rfl⟩:=d;exact⟨[],rfl,NLN,zD _,fun j g=>absurd g (by simp)⟩
 ·simp only[jo,jh,and_true]at d;obtain⟨rfl,rfl,rfl⟩:=d;simp only[if_true]at r;obtain⟨f,hf⟩:=choose_lt (α:=Int) (n:=n) (p:=fun i z=>w.cell? (o.add i)=X (U V z)) (fun i hi=>by
   obtain⟨h1,h2⟩:=hx i (by omega);obtain⟨z,l,_⟩:=j1 underlying3 h2;simp only[jo,and_true]at l;exact⟨z,by rw[h1,l]⟩)
  refine⟨(List.range n).map f,by simp,q,hm,fun j g=>?_⟩;have s:j<n:=by simpa using g
  obtain⟨b,t,rfl⟩:=Vf (hf 0 (by omega));have hc:=hf j s;rw[Gk]at hc;refine⟨b,t,rfl,IV hc,?_⟩;rw[hc];simp
theorem OC.of_trod {fuel b o:Nat}{cs:List R}{x:DataW H×List MemPlace}(h:jf enc j4 w 0 (fun _=>jA) held fuel 78 cs=X x)(hc:∀i,i<5->w.cell? ⟨b,o+i,T⟩=cs[i]?):∃y:Nd,OC w b o y/\y.text.size<=maxLen/\(-9223372036854775808<=y.num/\y.num<=9223372036854775807):=by
 obtain⟨c,n,_,_,d,l,hx⟩:=DataW.trod_struct underlying78 h;rw[Abp]at d
 match cs,d with
 |[x0,x1,x2,x3,x4],_=>
  have get:∀i,i<5->∃y,c[i]? =X y:=fun i hi=>⟨c[i]'(by simp at l;omega),zG _⟩
  obtain⟨m,e0⟩:=get 0 (by omega);obtain⟨p,e1⟩:=get 1 (by omega);obtain⟨q,e2⟩:=get 2 (by omega);obtain⟨r,e3⟩:=get 3 (by omega);obtain⟨s,e4⟩:=get 4 (by omega);have t:jf enc j4 w 0 (fun _=>jA) held n 3 [x0]=X m:=by
   have:=(hx 0 _ rfl).trans e0;simpa[CR]using this
  have u:jf enc j4 w 0 (fun _=>jA) held n 2 [x1]=X p:=by
   have:=(hx 1 _ rfl).trans e1;simpa[AfM]using this
  have v:jf enc j4 w 0 (fun _=>jA) held n 9 [x2]=X q:=by
   have:=(hx 2 _ rfl).trans e2;simpa[JB]using this
  have f:jf enc j4 w 0 (fun _=>jA) held n 46 [x3]=X r:=by
   have:=(hx 3 _ rfl).trans e3;simpa[AhB]using this
  have g:jf enc j4 w 0 (fun _=>jA) held n 24 [x4]=X s:=by
   have:=(hx 4 _ rfl).trans e4;simpa[Abo]using this
  obtain⟨op,k0,_,_⟩:=j1 underlying3 t;obtain⟨num,j,_,a⟩:=j1 underlying2 u;have z: -9223372036854775808<=num/\num<=9223372036854775807:=by
   simp only[Lit.wf,zF,zI]at a;exact⟨a.1,a.2⟩
  obtain⟨text,k,_,A⟩:=DataW.trod_string underlying9 v;simp only[jo,and_true]at k0 j k;subst k0 j k;obtain⟨an,nn,cn,rfl⟩:=Gl underlying46 f;obtain⟨B,C,D,rfl⟩:=Gl underlying24 g;obtain⟨names,E⟩:=Ap.of_trod underlying46 underlying9 JB f;obtain⟨kids,F⟩:=Gv.of_trod g;exact⟨⟨op,num,text,names,kids⟩,⟨an,nn,cn,B,C,D,hc 0 (by omega),hc 1 (by omega),hc 2 (by omega),hc 3 (by omega),hc 4 (by omega),E,F⟩,A,z⟩
theorem Pa.of_trod {fuel:Nat}{x:DataW H×List MemPlace}{a:Option jD}{n c:Nat}(h:jf enc j4 w 0 (fun _=>jA) held fuel 22 [Y a n c]=X x):∃L,Pa w a n c L/\∀x∈L,-9223372036854775808<=x.num/\x.num<=9223372036854775807:=by
 rcases open_slice underlying22 h with⟨g,_⟩|⟨t,len,cap,m,k,F,G,g,_,u,hm,z,_,hx⟩
 ·simp only[jo,jh,and_true]at g;obtain⟨rfl,rfl,rfl⟩:=g;exact⟨[],⟨rfl,NLN,zD _,fun x hx=>(by cases hx),fun j l=>absurd l (by simp)⟩,fun x hx=>(by cases hx)⟩
 ·simp only[jo,jh,and_true]at g;obtain⟨rfl,rfl,rfl⟩:=g;simp only[if_true]at z;rw[Abp]at hx;obtain⟨f,hf⟩:=choose_lt (α:=Nd) (n:=n) (p:=fun i y=>∃b d,t=⟨b,d,T⟩/\b<w.heap.size/\OC w b (d+i*5) y/\y.text.size<=maxLen/\(-9223372036854775808<=y.num/\y.num<=9223372036854775807)) (fun i hi=>by
   obtain⟨s,h1,h2⟩:=hx i (by omega);obtain⟨_,I,hc⟩:=World.cells?_some h1;obtain⟨v,hv⟩:∃v,s[0]? =X v:=⟨s[0]'(by omega),zG _⟩
   obtain⟨A,B,J⟩:=hx 0 (by omega);obtain⟨_,K,C⟩:=World.cells?_some B;obtain⟨b,d,rfl⟩:=Vf (v:=A[0]'(by omega)) (by have:=(C 0 (by omega)).trans (zG (by omega));simpa[Addr.add]using this);have r:=(hc 0 (by omega)).trans hv;rw[Gk]at hc r;rw[Gk]at r;obtain⟨y,hy,q⟩:=OC.of_trod (b:=b) (o:=d+i*5) h2 (fun j l=>by rw[<-hc j l,Gk]);exact⟨y,b,d,rfl,IV r,hy,q⟩)
  refine⟨(List.range n).map f,⟨by simp,u,hm,fun x hx=>?_,fun j l=>?_⟩,fun x hx=>?_⟩
  ·obtain⟨i,hi,rfl⟩:=zg.1 hx;obtain⟨_,_,_,_,_,q,_⟩:=hf i (by simpa using hi);exact q
  ·have D:j<n:=by simpa using l
   obtain⟨b,d,rfl,E,hy,_,_⟩:=hf j D;exact⟨b,d,rfl,E,by simpa using hy⟩
  ·obtain⟨i,hi,rfl⟩:=zg.1 hx;obtain⟨_,_,_,_,_,_,q⟩:=hf i (by simpa using hi);exact q
theorem Pb.of_trod {x:DataW H×List MemPlace}{a:Option jD}{c:Nat}(h:jf enc j4 w 0 (fun _=>jA) held fuel 23 [Y a n c]=X x):∃L,Pb w a n c L:=by
 rcases open_slice underlying23 h with⟨g,_⟩|⟨B,len,cap,m,k,af,ag,g,_,C,hm,D,_,hx⟩
 ·simp only[jo,jh,and_true]at g;obtain⟨rfl,rfl,rfl⟩:=g;exact⟨[],rfl,NLN,zD _,fun x hx=>(by cases hx),fun j l=>absurd l (by simp)⟩
 ·simp only[jo,jh,and_true]at g;obtain⟨rfl,rfl,rfl⟩:=g;simp only[if_true]at D;rw[AhC]at hx;obtain⟨f,hf⟩:=choose_lt (α:=St) (n:=n) (p:=fun i y=>∃b d,B=⟨b,d,T⟩/\b<w.heap.size/\(w.cell? ⟨b,d+i*4,T⟩=X (U V y.kind)/\w.cell? ⟨b,d+i*4+1,T⟩=X (Q y.name)/\w.cell? ⟨b,d+i*4+2,T⟩=X (U V y.cond)/\w.cell? ⟨b,d+i*4+3,T⟩=X (U V y.grant))/\y.name.size<=maxLen) (fun i hi=>by
   obtain⟨o,h1,h2⟩:=hx i (by omega);obtain⟨_,E,hc⟩:=World.cells?_some h1;obtain⟨v,hv⟩:∃v,o[0]? =X v:=⟨o[0]'(by omega),zG _⟩
   obtain⟨F,G,ah⟩:=hx 0 (by omega);obtain⟨_,ai,I⟩:=World.cells?_some G;obtain⟨b,d,rfl⟩:=Vf (v:=F[0]'(by omega)) (by have:=(I 0 (by omega)).trans (zG (by omega));simpa[Addr.add]using this);have s:=(hc 0 (by omega)).trans hv;rw[Gk]at hc s;rw[Gk]at s;have q:∀j,j<4->w.cell? ⟨b,d+i*4+j,T⟩=o[j]? :=fun j l=>by rw[<-hc j l,Gk]
   obtain⟨t,n',_,_,aj,J,r⟩:=DataW.trod_struct underlying80 h2
   match o,E with
   |[x0,x1,x2,x3],_=>
    have get:∀i,i<4->∃y,t[i]? =X y:=fun i hi=>⟨t[i]'(by simp at J;omega),zG _⟩
    obtain⟨K,e0⟩:=get 0 (by omega);obtain⟨M,e1⟩:=get 1 (by omega);obtain⟨N,e2⟩:=get 2 (by omega);obtain⟨O,e3⟩:=get 3 (by omega);have P:jf enc j4 w 0 (fun _=>jA) held n' 3 [x0]=X K:=by
     have:=(r 0 _ rfl).trans e0;simpa[CR]using this
    have S:jf enc j4 w 0 (fun _=>jA) held n' 9 [x1]=X M:=by
     have:=(r 1 _ rfl).trans e1;simpa[JB]using this
    have W:jf enc j4 w 0 (fun _=>jA) held n' 3 [x2]=X N:=by
     have:=(r 2 _ rfl).trans e2;simpa[CR]using this
    have aa:jf enc j4 w 0 (fun _=>jA) held n' 3 [x3]=X O:=by
     have:=(r 3 _ rfl).trans e3;simpa[CR]using this
    obtain⟨kind,k0,_,_⟩:=j1 underlying3 P;obtain⟨name,u,_,ab⟩:=DataW.trod_string underlying9 S;obtain⟨cond,z,_,_⟩:=j1 underlying3 W;obtain⟨grant,A,_,_⟩:=j1 underlying3 aa;simp only[jo,and_true]at k0 u z A;subst k0 u z A;exact⟨⟨kind,name,cond,grant⟩,b,d,rfl,IV s,⟨q 0 (by omega),q 1 (by omega),q 2 (by omega),q 3 (by omega)⟩,ab⟩)
  refine⟨(List.range n).map f,by simp,C,hm,fun x hx=>?_,fun j l=>?_⟩
  ·obtain⟨i,hi,rfl⟩:=zg.1 hx;obtain⟨_,_,_,_,_,ac⟩:=hf i (by simpa using hi);exact ac
  ·have ad:j<n:=by simpa using l
   obtain⟨b,d,rfl,ae,hy,_⟩:=hf j ad;exact⟨b,d,rfl,ae,by simpa using hy⟩
theorem Aeb {r:Reach}{s:Nat}{d:DataW H}{p:List MemPlace}
  (hv:Value.okWide j4 w r s 26 v)(h:DataW.Trod enc j4 w 0 (fun _=>jA) held 26 v d p):
  ∃ (a b e:Option jD) (n c m d k f:Nat) (N:List Nd) (L:List St) (T:List Int),v=jG #[Y a n c,Y b m d,Y e k f]/\Pa w a n c N/\Pb w b m d L/\Gv w e k f T/\∀x∈N,-9223372036854775808<=x.num/\x.num<=9223372036854775807:=by
 obtain⟨cs,rfl,t⟩:=okWide_struct underlying26 hv;have u:=t.trans AfP;obtain⟨l⟩:=cs
 match l,u with
 |[x0,x1,x2],_=>
  obtain⟨fuel,hf⟩:=h;obtain⟨g,n,_,_,_,z,hx⟩:=DataW.trod_struct underlying26 hf;have get:∀i,i<3->∃y,g[i]? =X y:=fun i hi=>⟨g[i]'(by simp at z;omega),zG _⟩
  obtain⟨A,e0⟩:=get 0 (by omega);obtain⟨B,e1⟩:=get 1 (by omega);obtain⟨C,e2⟩:=get 2 (by omega);have j:jf enc j4 w 0 (fun _=>jA) held n 22 [x0]=X A:=by
   have:=(hx 0 _ rfl).trans e0;simpa[Value.cells,AfN]using this
  have o:jf enc j4 w 0 (fun _=>jA) held n 23 [x1]=X B:=by
   have:=(hx 1 _ rfl).trans e1;simpa[Value.cells,AfO]using this
  have q:jf enc j4 w 0 (fun _=>jA) held n 24 [x2]=X C:=by
   have:=(hx 2 _ rfl).trans e2;simpa[Value.cells,Abo]using this
  obtain⟨a1,n1,c1,rfl⟩:=Gl underlying22 j;obtain⟨a2,n2,c2,rfl⟩:=Gl underlying23 o;obtain⟨a3,n3,c3,rfl⟩:=Gl underlying24 q;obtain⟨N,D,E⟩:=Pa.of_trod j;obtain⟨L,F⟩:=Pb.of_trod o;obtain⟨G,I⟩:=Gv.of_trod q;exact⟨a1,a2,a3,n1,c1,n2,c2,n3,c3,N,L,G,rfl,D,F,I,E⟩
end
end
end Go.Proofs.YteiieikcjcfkkaaGreatDoor

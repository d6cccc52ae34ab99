import Derived.Test.YteiieikcjcfkkaaGreatDoorMXAC
import Derived.Test.YteiieikcjcfkkaaGreatDoorMA
import Derived.Test.YteiieikcjcfkkaaGreatDoorMB
import Derived.Test.YteiieikcjcfkkaaGreatDoorML
open Go.Proofs.Tryz
open Option renaming none->T,some->X
open Go.Value renaming int->U,slice->Y,string->Q,iface->jB,agg->jG,nilIface->jL,tuple->jO
open Go.IntKind renaming i64->V,u64->jP
open Go renaming World->Z,Value->R,Addr->jD,Calls->jE,TypeId->jJ,maxLen->jM,bodyPost_ret->jN,results->jR,Ending->jT,below_drewN->jg,run_underlying->jl
open Bool renaming true->jA,false->jC
open Go.Ending renaming returned->jH
open Go.RowKit renaming intOf->jI,Below->jQ
open Go.World renaming ownsRow_nil->jX
open Go.Instr renaming typeAssert->ji
open Go.Proofs.Tryz renaming prog->j4
namespace Go.Proofs.YteiieikcjcfkkaaGreatDoor
open Go.RowKit
set_option linter.unusedVariables false
set_option maxRecDepth 100000
set_option maxHeartbeats 3200000
variable {c t:Int}{ss tt K:List ByteArray}{B n:Nat}{v:R}{w w':Z}
def Al (ts:List Int):Ex->Option Int
 |.int .. =>X 2
 |.text .. =>X 3
 |.bool .. =>X 1
 |.set .. =>X 4
 |.name .. =>T
 |.attr _ n=>X (Bw n)
 |.lett _ n=>if 0<=n then ts[n.toNat]? else T
 |.un _ op k=>match Al ts k with
  |some a=>nz (Ba op [a])
  |none=>T
 |.bin _ op l r=>match Al ts l with
  |some a=>match Al ts r with
   |some b=>nz (Ba op [a,b])
   |none=>T
  |none=>T
 |.ite _ c t e=>match Al ts c with
  |some a=>match Al ts t with
   |some b=>match Al ts e with
    |some d=>nz (Ba 27 [a,b,d])
    |none=>T
   |none=>T
  |none=>T
def Ex.kids:Ex->List Ex
 |.un _ _ k=> [k]
 |.bin _ _ l r=> [l,r]
 |.ite _ c t e=> [c,t,e]
 |_=> []
def A7 (ts:List Int):Ex->List Int
 |.un i op k=>A7 ts k++[(Al ts (.un i op k)).getD 0]
 |.bin i op l r=>A7 ts l++A7 ts r++[(Al ts (.bin i op l r)).getD 0]
 |.ite i c t e=>A7 ts c++A7 ts t++A7 ts e++[(Al ts (.ite i c t e)).getD 0]
 |e=> [(Al ts e).getD 0]
theorem Ct (ts:List Int):∀(e:Ex),(A7 ts e).length=e.cnt
 |.int ..| .text ..| .bool ..| .set ..| .name ..| .attr ..| .lett .. =>rfl
 |.un _ _ k=>by simp[A7,Ex.cnt,Ct ts k]
 |.bin _ _ l a=>by simp[A7,Ex.cnt,Ct ts l,Ct ts a];omega
 |.ite _ c t e=>by simp[A7,Ex.cnt,Ct ts c,Ct ts t,Ct ts e];omega
def Ex.typed:Ex->Prop
 |.name .. =>False
 |.attr _ n=>0<=n/\n<6
 |.un _ op k=>(8<=op/\op<=10)/\k.typed
 |.bin _ op l r=>(11<=op/\op<=26)/\l.typed/\r.typed
 |.ite _ c t e=>c.typed/\t.typed/\e.typed
 |_=>True
set_option maxRecDepth 100000
set_option maxHeartbeats 3200000
structure AK (w:Z) (a:Option jD) (n c:Nat) (L:List Int):Prop where
 len:L.length=n
 small:n<=1048576
 cells:∀j,(h:j<L.length)->∃b off,a=X ⟨b,off,T⟩/\b<w.heap.size/\w.cell? ⟨b,off+j,T⟩=X (U V L[j])
theorem AK.below {a:Option jD}{c:Nat}{L:List Int}(h:AK w a n c L)(d:jQ B w w')(hB:w.heap.size<=B):AK w' a n c L:=
 ⟨h.len,h.small,fun j g=>by
  obtain⟨b,f,i,k,l⟩:=h.cells j g;exact⟨b,f,i,zE k d.size,(d.cell (p:=⟨b,f+j,T⟩) (by show b<B;omega)).trans l⟩⟩
theorem AbC (A B:List Int)(a:A.length=B.length):A=B↔∀j,(h:j<A.length)->A[j]=B[j]'(a ▸ h):=by
 constructor
 ·intro e j h;subst e;rfl
 ·intro h;exact yD a (fun j h1 h2=>h j h1)
theorem Cj (w:Z)(m:Nat):Ah w (w.drewN m):=by
 exact⟨(Ji w).os,(Ji w).tape,(Ji w).output,NLN,fun _ _=>rfl⟩
theorem PO (h:∃m,w'=w.drewN m):∃m,w'.drew=w.drewN m:=by
 obtain⟨m,rfl⟩:=h;exact⟨m+1,rfl⟩
theorem Adv (a b:Option jD)(n c m d:Nat)(A B:List Int)(w:Z)(h1:AK w a n c A)(h2:AK w b m d B):
  jE j4 55 #[Y a n c,Y b m d] w fun e w'=>e=jH (.bool (decide (A=B)))/\∃m,w'=w.drewN m:=by
 have s1:=h1.small;have z:=Ab h1.len;have I:=Ab h2.len;by_cases f:n=m
 ·have J:((n:Int)!=(m:Int))=jC:=by rw[f];simp
  have q:=Ab (show A.length=B.length by rw[h1.len,h2.len,f]);have C:=Ab (AbC A B (Aa q));have D:=Ab f;clear f;go_enter func55,ntmps55
  go_wp2_with fail
  go_loopw [13] (fun i wr=>∃k:Nat,k<=n/\i=U V k/\(∃m,wr=w.drewN m)/\∀j,(h:j<A.length)->j<k->A[j]=B[j]'(Aa q ▸ h)) (fun i _=>n-(jI i).toNat)
  case atStart=>exact⟨0,by omega,rfl,⟨0,rfl⟩,fun j _ h=>absurd h (by omega)⟩
  case round=>
   obtain⟨k,P,rfl,r,E⟩:=hrel;have s:=Ab r;have F:Ah w wr:=by obtain⟨K,rfl⟩:=r;exact Cj w K
   clear r;have t:=Ab E;clear E;by_cases u:k<n
   ·have S:(k:Int)<(n:Int):=by omega
    have W:(k:Int)<(m:Int):=by have:=Aa D;omega
    have G:k<A.length:=by rw[Aa z];exact u
    have L:k<B.length:=by rw[Aa I,<-Aa D];exact u
    obtain⟨b1,aa,rfl,ab,c1⟩:=(h1.below F NLN).cells k G;obtain⟨b2,o2,rfl,ac,c2⟩:=(h2.below F NLN).cells k L;have l:=Ab (show A[k]≠B[k]->decide (A=B)=jC from fun e=>zJ (fun e'=>e ((Aa C).1 e' k G)));have o:=Ab (show A[k]=B[k]->∀j,(h:j<A.length)->j<k+1->A[j]=B[j]'(Aa q ▸ h)from fun e j v ad=>by
     by_cases M:j=k
     ·subst M;exact e
     ·exact Aa t j v (by omega))
    have H:=Ab u;clear t;generalize A[k]=x at c1 l o;generalize B[k]=y at c2 l o;by_cases g:x=y
    ·have N:(x !=y)=jC:=by rw[g];simp
     have O:=Ab (Aa o g);clear g l o;go_wp2_with fail
     go_region
     go_wp2_with fail
     go_roundw
     case rel=>exact⟨k+1,Aa H,by go_num,PO (Aa s),Aa O⟩
     case measure=>have:=Aa H;simp[jI];omega
    ·have N:(x !=y)=jA:=zc.2 g;have p:=Ab (Aa l g);clear g l o;go_wp2_with fail
     go_region
     go_wp2_with fail
     go_ret
     exact⟨Ad (Aa p).symm,PO (Aa s)⟩
   ·have e:k=n:=by omega
    subst e;have p:=Ab (show decide (A=B)=jA from zL ((Aa C).2 (fun j v=>Aa t j v (by have:=Aa z;omega))));go_wp2
    go_ret
    exact⟨Ad (Aa p).symm,Aa s⟩
 ·have J:((n:Int)!=(m:Int))=jA:=zc.2 (by omega);have p:=Ab (show decide (A=B)=jC from zJ (fun e=>f (by rw[<-h1.len,<-h2.len,e])));clear f;go_enter func55,ntmps55
  go_wp2
  go_ret
  exact⟨Ad (Aa p).symm,0,rfl⟩
theorem PP (a b:Option jD)(n c m d:Nat)(A B:List Int)(w:Z)(h1:AK w a n c A)(h2:AK w b m d B):
  jE j4 55 #[Y a n c,Y b m d] w fun e w'=>e=jH (.bool (decide (A=B)))/\Ah w w':=
 (Adv a b n c m d A B w h1 h2).mono fun e w' h=>⟨h.1,by obtain⟨m,rfl⟩:=h.2;exact Cj w m⟩
structure As (lo hi:Nat) (w w':Z):Prop where
 os:w'.os=w.os
 tape:w'.tape=w.tape
 output:w'.output=w.output
 size:w.heap.size<=w'.heap.size
 block:∀k,k<w.heap.size->(k<lo\/hi<=k)->w'.heap[k]? =w.heap[k]?
theorem As.refl (lo hi:Nat)(w:Z):As lo hi w w:=⟨rfl,rfl,rfl,NLN,fun _ _ _=>rfl⟩
theorem As.trans {lo hi:Nat}{a b c:Z}(h:As lo hi a b)(k:As lo hi b c):As lo hi a c:=
 ⟨k.os.trans h.os,k.tape.trans h.tape,k.output.trans h.output,zB h.size k.size,fun i hi d=>(k.block i (zE hi h.size) d).trans (h.block i hi d)⟩
theorem As.of_below {lo hi B:Nat}(h:jQ B w w')(hB:w.heap.size<=B):As lo hi w w':=
 ⟨h.os,h.tape,h.output,h.size,fun k a _=>h.block k (by omega)⟩
theorem As.setCell {lo hi:Nat}(w:Z)(p:jD)(u:R)(h1:lo<=p.block)(h2:p.block<hi):As lo hi w (w.setCell p u):=
 ⟨rfl,rfl,rfl,by simp,fun k _ a=>heap_setCell_other w p k u (by omega)⟩
theorem Gw {lo hi:Nat}{a b:Z}(h:jQ B w a)(t:As lo hi a b)(hB:B<=lo)(hs:B<=a.heap.size):jQ B w b:=
 h.trans ⟨t.os,t.tape,t.output,t.size,fun k c=>t.block k (by omega) (.inl (by omega))⟩
structure Zy (w:Z) (lo hi:Nat) (a:Option jD) (n c:Nat) (ss:List ByteArray):Prop where
 own:w.ownsRow lo 9 1 (Y a n c) n (ss.map Q)
 lt:∀x,a=X x->x.block<hi
 sizes:∀j,j<n->(Aw ss j).size<=jM
 top:hi<=w.heap.size
theorem Zy.strs {lo hi n c:Nat}{a:Option jD}(h:Zy w lo hi a n c ss):Ap w a n c ss:=Ap.of_owns h.own h.sizes
theorem SJ {lo c:Nat}{a:Option jD}{b:List R}(h:w.ownsRow lo 9 1 (Y a n c) n b)(d:∀x,a=X x->w'.heap[x.block]? =w.heap[x.block]?):w'.ownsRow lo 9 1 (Y a n c) n b:=by
 refine⟨h.1,?_⟩;rcases h.2 with h2|⟨g,cap,f,hv,h3,hg,h4⟩
 ·exact .inl h2
 ·refine .inr ⟨g,cap,f,hv,h3,?_,h4⟩;simp only[Value.slice.injEq]at hv;rw[<-hg];exact d ⟨g,0,T⟩ hv.1
theorem JS {a base' e n:Nat}{b:List R}(h:w.ownsRow a e 1 v n b)(c:base'<=a):w.ownsRow base' e 1 v n b:=by
 refine⟨h.1,?_⟩;rcases h.2 with h2|⟨g,cap,d,hv,h3,h4⟩
 ·exact .inl h2
 ·exact .inr ⟨g,cap,d,hv,zB c h3,h4⟩
set_option maxHeartbeats 1600000
def DD (k n:Nat):List ByteArray:=(List.range n).map fun j=>Br (k+j)
def EA (ss:List ByteArray) (k n i:Nat):List ByteArray:=(List.range n).map fun j=>if j<i then Br (k+j)else Aw ss j
theorem Xy (ss:List ByteArray)(k n:Nat)(h:n=ss.length):EA ss k n 0=ss:=by
 apply yD
 ·simp[EA,h]
 ·intro i h1 h2;simp[EA,Bv ss i h2]
theorem Xz (ss:List ByteArray)(k n:Nat):EA ss k n n=DD k n:=by
 apply yD
 ·simp[EA,DD]
 ·intro i h1 h2;have:i<n:=by simpa[EA]using h1
  simp[EA,DD,this]
theorem Zz (ss:List ByteArray)(k n i:Nat):((EA ss k n i).map Q).set i (Q (Br (k+i)))=(EA ss k n (i+1)).map Q:=by
 apply yD
 ·simp[EA]
 ·intro j h1 h2;rw[List.getElem_set];simp only[EA,List.getElem_map,List.getElem_range];by_cases e:i=j
  ·subst e;simp
  ·rw[if_neg e];by_cases h:j<i
   ·rw[if_pos h,if_pos (by omega)]
   ·rw[if_neg h,if_neg (by omega)]
theorem AcA (ss:List ByteArray)(k n i:Nat)(h:i<n):((EA ss k n i).map Q)[i]? =X (Q (Aw ss i)):=by
 simp[EA,h]
theorem TU (k n j:Nat)(h:j<n):Aw (DD k n) j=Br (k+j):=by
 rw[Bv _ j (by simpa[DD]using h)];simp[DD]
theorem Oj (k n:Nat)(b:k+n<=35184372088832):∀j,j<n->(Aw (DD k n) j).size<=jM:=fun j a=>by
 rw[TU k n j a];have:=YS (k+j);unfold jM;omega
theorem Pn (lo hi:Nat)(a:Option jD)(n c:Nat)(ss:List ByteArray)(k:Nat)(w:Z)(h:Zy w lo hi a n c ss)(o:k+n<=35184372088832):
  jE j4 72 #[Y a n c,U V k] w fun e w'=>e=jH (U V ((k:Int)+n))/\Zy w' lo hi a n c (DD k n)/\As lo hi w w':=by
 have m:=h.strs.len;have p:=Ab m;clear m;go_enter func72,ntmps72
 go_wp2
 go_loopw [1,5] (fun q i wr=>∃j:Nat,j<=n/\i=U V j/\q=U V ((k:Int)+j)/\wr.ownsRow lo 9 1 (Y a n c) n ((EA ss k n j).map Q)/\As lo hi w wr) (fun _ i _=>n-(jI i).toNat)
 case atStart=>exact⟨0,zD _,rfl,by go_num,by rw[Xy ss k n (Aa p)];exact h.own,As.refl _ _ _⟩
 case round=>
  obtain⟨j,A,rfl,rfl,b,d⟩:=hrel;by_cases r:j<n
  ·obtain⟨g,hg⟩:∃g,a=X ⟨g,0,T⟩:=by
    rcases b.2 with⟨_,h0⟩|⟨g,cap,B,hv,_⟩
    ·omega
    ·simp only[Value.slice.injEq]at hv;exact⟨g,hv.1⟩
   subst hg;have s:lo<=g:=(b.lt g rfl).1;have t:g<hi:=h.lt _ rfl;have u:g<wr.heap.size:=(b.lt g rfl).2;have C:(j:Int)<(n:Int):=by omega
   go_wp2_with fail
   refine(BN _ wr (by omega) (by omega)).mono ?_;rintro e v ⟨rfl,l⟩;rw[show((k:Int)+(j:Int)).toNat=k+j from by omega];have f:=SJ (w':=v) b (fun x hx=>by cases hx;exact l.block g u);have D:=(f.cellAt j (by omega)).trans (AcA ss k n j r);have E:=f.frozenAt j;have y:=Ab (f.stored j (Q (Br (k+j)))).1;have z:=d.trans (As.of_below (lo:=lo) (hi:=hi) l NLN);clear b f l d;go_wp2
   go_roundw
   case rel=>exact⟨j+1,by omega,by go_num,by go_num,by rw[<-Zz];exact Aa y,z.trans (As.setCell _ _ _ s t)⟩
   case measure=>simp[jI];omega
  ·have e:j=n:=by omega
   subst e;go_wp2
   go_ret
   rw[Xz]at b;exact⟨rfl,⟨b,h.lt,Oj k j o,zB h.top d.size⟩,d⟩
theorem Pd (lo hi:Nat)(a:Option jD)(n c:Nat)(ss:List ByteArray)(x:Int)(w:Z)(h:Zy w lo hi a n c ss)(h0: 0<=x)(b:x+n<=35184372088832):
  jE j4 72 #[Y a n c,U V x] w fun e w'=>e=jH (U V (x+n))/\Zy w' lo hi a n c (DD x.toNat n)/\As lo hi w w':=by
 obtain⟨k,rfl⟩:=yJ h0;rw[zV];exact Pn lo hi a n c ss k w h (by omega)
theorem Pm (a:Option jD)(n c:Nat)(k:Nat)(w:Z)(h:Ap w a n c (DD k n))(r:k+n<=35184372088832):
  jE j4 73 #[Y a n c,U V k] w fun e w'=>e=jH (U V ((k:Int)+n))/\Ah w w':=by
 go_enter func73,ntmps73
 go_wp2
 go_loopw [1,5] (fun q i wr=>∃j:Nat,j<=n/\i=U V j/\q=U V ((k:Int)+j)/\Ah w wr) (fun _ i _=>n-(jI i).toNat)
 case atStart=>exact⟨0,zD _,rfl,by go_num,BRN⟩
 case round=>
  obtain⟨j,s,rfl,rfl,d⟩:=hrel;by_cases f:j<n
  ·obtain⟨b,g,m,o,hc⟩:=(h.below d NLN).cells j f;rw[TU k n j f]at hc;subst m;have t:(j:Int)<(n:Int):=by omega
   go_wp2_with fail
   go_region_held3 (fun w'=>w'.cell? ⟨b,g+j,T⟩=X (Q (Br (k+j)))) (go_keep)
    ((go_at_call 71;refine(BN _ _ (by omega) (by omega)).mono ?_;rintro e u ⟨rfl,l⟩;rw[show((k:Int)+(j:Int)).toNat=k+j from by omega];have hq:=(l.cell (p:=⟨b,g+j,T⟩) o).trans hc))
   go_wp2
   go_roundw
   case rel=>exact⟨j+1,by omega,by go_num,by go_num,d.drew.trans (l.mono d.size)⟩
   case measure=>simp[jI];omega
  ·have e:j=n:=by omega
   subst e;go_wp2
   go_ret
   exact⟨rfl,d⟩
theorem Pe (a:Option jD)(n c:Nat)(x:Int)(w:Z)(h:Ap w a n c (DD x.toNat n))(h0: 0<=x)(b:x+n<=35184372088832):
  jE j4 73 #[Y a n c,U V x] w fun e w'=>e=jH (U V (x+n))/\Ah w w':=by
 obtain⟨k,rfl⟩:=yJ h0;rw[zV]at h;exact Pm a n c k w h (by omega)
theorem Ap.news {b a n c:Nat}(hq:Ap w (X ⟨b,a,T⟩) n c ss):∀j u,(ss.map Q)[j]? =X u->w.cell? ((⟨b,a,T⟩:jD).add j)=X u:=fun j u d=>by
 rw[zZ,Option.map_eq_some_iff]at d;obtain⟨s,hs,rfl⟩:=d;have f:j<ss.length:=(zd.1 hs).1;obtain⟨b1,i,g,_,hc⟩:=hq.cells j (by have:=hq.len;omega);simp only[Option.some.injEq,Addr.mk.injEq,and_true]at g;obtain⟨rfl,rfl⟩:=g;have h:(⟨b,a,T⟩:jD).add j=⟨b,a+j,T⟩:=by by_cases e:j=0<;>simp[Addr.add,e]
 rw[h,hc,Bv _ j f];rw[zG f]at hs;cases hs;rfl
section
structure AT (ss tt K:List ByteArray) (code:Int):Prop where
 bad:(AC ss&&AC tt)=jC->K=[]/\code=4
 good:(AC ss&&AC tt)=jA->∃M,DL (ss++tt) M/\(64<M.length->K=[]/\code=3)/\(M.length<=64->K=M/\code=0)
theorem AT.unique {ss tt K a:List ByteArray}{c c':Int}(h:AT ss tt K c)(b:AT ss tt a c'):K=a/\c=c':=by
 cases hv:(AC ss&&AC tt)with
 |false=>
  obtain⟨rfl,rfl⟩:=h.bad hv;obtain⟨rfl,rfl⟩:=b.bad hv;exact⟨rfl,rfl⟩
 |true=>
  obtain⟨M,f,h1,h2⟩:=h.good hv;obtain⟨k,g,i,j⟩:=b.good hv;have e:=f.unique g;subst e;by_cases d: 64<M.length
  ·obtain⟨rfl,rfl⟩:=h1 d;obtain⟨rfl,rfl⟩:=i d;exact⟨rfl,rfl⟩
  ·obtain⟨rfl,rfl⟩:=h2 (by omega);obtain⟨rfl,rfl⟩:=j (by omega);exact⟨rfl,rfl⟩
theorem AT.code (h:AT ss tt K c): 0<=c/\c<=4:=by
 cases hv:(AC ss&&AC tt)with
 |false=>obtain⟨_,rfl⟩:=h.bad hv;omega
 |true=>
  obtain⟨M,b,h1,h2⟩:=h.good hv;by_cases a: 64<M.length
  ·obtain⟨_,rfl⟩:=h1 a;omega
  ·obtain⟨_,rfl⟩:=h2 (by omega);omega
theorem AT.len (h:AT ss tt K c):K.length<=64:=by
 cases hv:(AC ss&&AC tt)with
 |false=>obtain⟨rfl,_⟩:=h.bad hv;simp
 |true=>
  obtain⟨M,b,h1,h2⟩:=h.good hv;by_cases a: 64<M.length
  ·obtain⟨rfl,_⟩:=h1 a;simp
  ·obtain⟨rfl,_⟩:=h2 (by omega);omega
theorem ZL {j:Nat}(h:j<(ss++tt).length):Aw (ss++tt) j=if j<ss.length then Aw ss j else Aw tt (j-ss.length):=by
 rw[Bv _ j h,List.getElem_append];split
 ·rw[Bv _ _ (by assumption)]
 ·rw[Bv _ _ (by simp at h;omega)]
theorem Ta (h:∀j,j<ss.length->(Aw ss j).size<=jM)(b:∀j,j<tt.length->(Aw tt j).size<=jM):∀j,j<(ss++tt).length->(Aw (ss++tt) j).size<=jM:=by
 intro j a;rw[ZL a];split
 ·exact h j (by assumption)
 ·exact b _ (by simp at a;omega)
theorem AT.sizes (h:AT ss tt K c)(hs:∀j,j<ss.length->(Aw ss j).size<=jM)(b:∀j,j<tt.length->(Aw tt j).size<=jM):∀j,j<K.length->(Aw K j).size<=jM:=by
 cases hv:(AC ss&&AC tt)with
 |false=>obtain⟨rfl,_⟩:=h.bad hv;intro j a;simp at a
 |true=>
  obtain⟨M,d,h1,h2⟩:=h.good hv;by_cases f: 64<M.length
  ·obtain⟨rfl,_⟩:=h1 f;intro j a;simp at a
  ·obtain⟨rfl,_⟩:=h2 (by omega);exact U0 d (Ta hs b)
theorem KA.sorted (h:KA ss tt ss.length tt.length K):DL (ss++tt) K:=
 ⟨h.rise,fun x=>by rw[h.mem,Z2,Z2,zN]⟩
theorem LF (h:AC ss=jA):ss.length<=64/\By ss=jA:=by
 simp[AC]at h;exact⟨h.1,h.2.2⟩
def S8 (w:Z) (ss tt:List ByteArray) (e:jT) (w':Z):Prop:=
 ∃x cx K c,e=jH (jO #[Y x K.length cx,U V c])/\w'.ownsRow w.heap.size 9 1 (Y x K.length cx) K.length (K.map Q)/\Ah w w'/\AT ss tt K c
theorem S8.nil (h:AT ss tt [] c)(a:Ah w w'):S8 w ss tt (jH (jO #[Y T 0 0,U V c])) w':=
 ⟨T,0,[],c,rfl,jX _ _ _ _,a,h⟩
theorem AT.of_bad (h:(AC ss&&AC tt)=jC):AT ss tt [] 4:=⟨fun _=>⟨rfl,rfl⟩,fun k=>by rw[h]at k;cases k⟩
theorem AT.of_wide {M:List ByteArray}(h:(AC ss&&AC tt)=jA)(a:DL (ss++tt) M)(b: 64<M.length):AT ss tt [] 3:=
 ⟨fun k=>(by rw[h]at k;cases k),fun _=>⟨M,a,fun _=>⟨rfl,rfl⟩,fun k=>by omega⟩⟩
theorem AT.of_good {M:List ByteArray}(h:(AC ss&&AC tt)=jA)(a:DL (ss++tt) M)(b:M.length<=64):AT ss tt M 0:=
 ⟨fun k=>(by rw[h]at k;cases k),fun _=>⟨M,a,fun k=>(by omega),fun _=>⟨rfl,rfl⟩⟩⟩
variable {aS aO aZ aW : jD}
def Il (aS aO aZ aW:jD) (w:Z) (ss tt:List ByteArray) (e:jT) (w':Z):Prop:=
 ∃x cx K c,e=jH (jO #[Y x K.length cx,Sb aS aO aZ aW c])/\w'.ownsRow w.heap.size 9 1 (Y x K.length cx) K.length (K.map Q)/\Ah w w'/\AT ss tt K c
theorem Il.nil (h:AT ss tt [] c)(a:Ah w w'):Il aS aO aZ aW w ss tt (jH (jO #[Y T 0 0,Sb aS aO aZ aW c])) w':=
 ⟨T,0,[],c,rfl,jX _ _ _ _,a,h⟩
theorem Aby (a:Option jD)(n c:Nat)(ss:List ByteArray)(m:Option jD)(n' c':Nat)(tt:List ByteArray)(w:Z)(hs:CZ w aS aO aZ aW)(h:Ap w a n c ss)(i:Ap w m n' c' tt):
  jE j4 202 #[Y a n c,Y m n' c'] w fun e w'=>Il aS aO aZ aW w ss tt e w':=by
 cases f:AC ss
 ·have j:=Ab (AT.of_bad (ss:=ss) (tt:=tt) (by rw[f];rfl));go_enter func202,ntmps202
  go_wp2_with fail
  refine(AB _ _ _ _ _ h).mono ?_;rintro e o ⟨rfl,b⟩;rw[f];have hg:=(hs.below b NLN).g0;go_wp2
  go_quiet (fail)
  go_wp2
  go_ret2
  exact Il.nil (Aa j) (jg b _)
 ·cases g:AC tt
  ·have j:=Ab (AT.of_bad (ss:=ss) (tt:=tt) (by rw[f,g];rfl));go_enter func202,ntmps202
   go_wp2_with fail
   refine(AB _ _ _ _ _ h).mono ?_;rintro e o ⟨rfl,b⟩;rw[f];go_wp2_with fail
   refine(AB _ _ _ _ _ (i.below b NLN)).mono ?_;rintro e u ⟨rfl,k⟩;rw[g];have d:=b.trans (k.mono b.size);have hg:=(hs.below d NLN).g0;go_wp2
   go_quiet (fail)
   go_wp2
   go_ret2
   exact Il.nil (Aa j) (jg d _)
  ·obtain⟨E,p⟩:=LF f;obtain⟨F,q⟩:=LF g;have v:=Ab p;have y:=Ab q;clear p q;have r:=Ab (show(AC ss&&AC tt)=jA by rw[f,g];rfl);go_enter func202,ntmps202
   go_wp2_with fail
   refine(AB _ _ _ _ _ h).mono ?_;rintro e o ⟨rfl,b⟩;rw[f];go_wp2_with fail
   refine(AB _ _ _ _ _ (i.below b NLN)).mono ?_;rintro e u ⟨rfl,k⟩;rw[g];have d:=b.trans (k.mono b.size);go_wp2_with fail
   refine(AdP _ _ _ _ _ _ _ _ _ (h.below d NLN) (i.below d NLN) (Aa v) (Aa y) (by have:=h.len;omega) (by have:=i.len;omega)).mono ?_;rintro e G ⟨x,z,K,rfl,A,B,s⟩;have t:=Ab s.sorted;clear s;have l:=d.trans (B.mono d.size);by_cases C: 64<K.length
   ·have D:(64 :Int)<(K.length:Int):=by omega
    have hg:=(hs.below l NLN).g3;go_wp2
    go_quiet (fail)
    go_wp2
    go_ret2
    exact Il.nil (AT.of_wide (Aa r) (Aa t) C) (jg l _)
   ·have D:(K.length:Int)<=64:=by omega
    go_wp2
    go_ret2
    exact⟨x,z,K,0,rfl,JS A d.size,l,AT.of_good (Aa r) (Aa t) (by omega)⟩
end
def BR (ss tt:List ByteArray):List ByteArray:=if AC ss&&AC tt then Dd ss tt jA else []
theorem KV (h:AC ss=jA):ss.length<=64/\By ss=jA:=by
 simp[AC]at h;exact⟨h.1,h.2.2⟩
theorem PE (ss tt:List ByteArray)(h:∀j,j<ss.length->(Aw ss j).size<=jM):∀j,j<(BR ss tt).length->(Aw (BR ss tt) j).size<=jM:=by
 unfold BR;split
 ·exact Qd ss tt jA h
 ·intro j a;simp at a
theorem VB (ss tt:List ByteArray):(BR ss tt).length<=ss.length:=by
 unfold BR;split
 ·exact H7 _ _ _
 ·simp
def LW (w:Z) (ss tt:List ByteArray) (e:jT) (w':Z):Prop:=
 ∃x cx,e=jH (Y x (BR ss tt).length cx)/\w'.ownsRow w.heap.size 9 1 (Y x (BR ss tt).length cx) (BR ss tt).length ((BR ss tt).map Q)/\Ah w w'
theorem Gt (h:BR ss tt=[])(a:Ah w w'):LW w ss tt (jH (Y T 0 0)) w':=by
 unfold LW;rw[h];exact⟨T,0,rfl,jX _ _ _ _,a⟩
theorem Abz (a:Option jD)(n c:Nat)(ss:List ByteArray)(l:Option jD)(n' c':Nat)(tt:List ByteArray)(w:Z)(h:Ap w a n c ss)(j:Ap w l n' c' tt):
  jE j4 203 #[Y a n c,Y l n' c'] w fun e w'=>LW w ss tt e w':=by
 cases d:AC ss
 ·have f:=Ab (show BR ss tt=[] by simp[BR,d]);go_enter func203,ntmps203
  go_wp2_with fail
  refine(AB _ _ _ _ _ h).mono ?_;rintro e m ⟨rfl,b⟩;rw[d];go_wp2_with fail
  go_ret
  exact Gt (Aa f) b
 ·cases g:AC tt
  ·have f:=Ab (show BR ss tt=[] by simp[BR,g]);go_enter func203,ntmps203
   go_wp2_with fail
   refine(AB _ _ _ _ _ h).mono ?_;rintro e m ⟨rfl,b⟩;rw[d];go_wp2_with fail
   refine(AB _ _ _ _ _ (j.below b NLN)).mono ?_;rintro e r ⟨rfl,k⟩;rw[g];go_wp2_with fail
   go_ret
   exact Gt (Aa f) (b.trans (k.mono b.size))
  ·obtain⟨A,o⟩:=KV d;obtain⟨B,p⟩:=KV g;have s:=Ab o;have t:=Ab p;clear o p;have f:=Ab (show BR ss tt=Dd ss tt jA by simp[BR,d,g]);go_enter func203,ntmps203
   go_wp2_with fail
   refine(AB _ _ _ _ _ h).mono ?_;rintro e m ⟨rfl,b⟩;rw[d];go_wp2_with fail
   refine(AB _ _ _ _ _ (j.below b NLN)).mono ?_;rintro e r ⟨rfl,k⟩;rw[g];have i:=b.trans (k.mono b.size);go_wp2_with fail
   refine(AdQ _ _ _ _ _ _ _ _ _ (h.below i NLN) (j.below i NLN) (Aa s) (Aa t) (by have:=h.len;omega) (by have:=j.len;omega)).mono ?_;rintro e C ⟨x,u,K,rfl,v,y,q⟩;have z:=Ab q.last;clear q;go_wp2_with fail
   go_ret
   have e1:K=BR ss tt:=by rw[Aa z,Aa f]
   subst e1;exact⟨x,u,rfl,JS v i.size,i.trans (y.mono i.size)⟩
def Bc (ss tt:List ByteArray):List ByteArray:=if AC ss&&AC tt then Dd ss tt jC else []
theorem Jt (h:AC ss=jA):ss.length<=64/\By ss=jA:=by
 simp[AC]at h;exact⟨h.1,h.2.2⟩
theorem N6 (ss tt:List ByteArray)(h:∀j,j<ss.length->(Aw ss j).size<=jM):∀j,j<(Bc ss tt).length->(Aw (Bc ss tt) j).size<=jM:=by
 unfold Bc;split
 ·exact Qd ss tt jC h
 ·intro j a;simp at a
theorem SV (ss tt:List ByteArray):(Bc ss tt).length<=ss.length:=by
 unfold Bc;split
 ·exact H7 _ _ _
 ·simp
def Js (w:Z) (ss tt:List ByteArray) (e:jT) (w':Z):Prop:=
 ∃x cx,e=jH (Y x (Bc ss tt).length cx)/\w'.ownsRow w.heap.size 9 1 (Y x (Bc ss tt).length cx) (Bc ss tt).length ((Bc ss tt).map Q)/\Ah w w'
theorem FF (h:Bc ss tt=[])(a:Ah w w'):Js w ss tt (jH (Y T 0 0)) w':=by
 unfold Js;rw[h];exact⟨T,0,rfl,jX _ _ _ _,a⟩
theorem YB (a:Option jD)(n c:Nat)(ss:List ByteArray)(l:Option jD)(n' c':Nat)(tt:List ByteArray)(w:Z)(h:Ap w a n c ss)(j:Ap w l n' c' tt):
  jE j4 204 #[Y a n c,Y l n' c'] w fun e w'=>Js w ss tt e w':=by
 cases d:AC ss
 ·have f:=Ab (show Bc ss tt=[] by simp[Bc,d]);go_enter func204,ntmps204
  go_wp2_with fail
  refine(AB _ _ _ _ _ h).mono ?_;rintro e m ⟨rfl,b⟩;rw[d];go_wp2_with fail
  go_ret
  exact FF (Aa f) b
 ·cases g:AC tt
  ·have f:=Ab (show Bc ss tt=[] by simp[Bc,g]);go_enter func204,ntmps204
   go_wp2_with fail
   refine(AB _ _ _ _ _ h).mono ?_;rintro e m ⟨rfl,b⟩;rw[d];go_wp2_with fail
   refine(AB _ _ _ _ _ (j.below b NLN)).mono ?_;rintro e r ⟨rfl,k⟩;rw[g];go_wp2_with fail
   go_ret
   exact FF (Aa f) (b.trans (k.mono b.size))
  ·obtain⟨A,o⟩:=Jt d;obtain⟨B,p⟩:=Jt g;have s:=Ab o;have t:=Ab p;clear o p;have f:=Ab (show Bc ss tt=Dd ss tt jC by simp[Bc,d,g]);go_enter func204,ntmps204
   go_wp2_with fail
   refine(AB _ _ _ _ _ h).mono ?_;rintro e m ⟨rfl,b⟩;rw[d];go_wp2_with fail
   refine(AB _ _ _ _ _ (j.below b NLN)).mono ?_;rintro e r ⟨rfl,k⟩;rw[g];have i:=b.trans (k.mono b.size);go_wp2_with fail
   refine(Wh _ _ _ _ _ _ _ _ _ (h.below i NLN) (j.below i NLN) (Aa s) (Aa t) (by have:=h.len;omega) (by have:=j.len;omega)).mono ?_;rintro e C ⟨x,u,K,rfl,v,y,q⟩;have z:=Ab q.last;clear q;go_wp2_with fail
   go_ret
   have e1:K=Bc ss tt:=by rw[Aa z,Aa f]
   subst e1;exact⟨x,u,rfl,JS v i.size,i.trans (y.mono i.size)⟩
def DO (ss tt:List ByteArray):Bool:=AC ss&&(AC tt&&decide ((Dd ss tt jC).length=0))
theorem NV (h:AC ss=jA):ss.length<=64/\By ss=jA:=by
 simp[AC]at h;exact⟨h.1,h.2.2⟩
theorem VA (a:Option jD)(n c:Nat)(ss:List ByteArray)(k:Option jD)(n' c':Nat)(tt:List ByteArray)(w:Z)(h:Ap w a n c ss)(d:Ap w k n' c' tt):
  jE j4 205 #[Y a n c,Y k n' c'] w fun e w'=>e=jH (.bool (DO ss tt))/\Ah w w':=by
 cases g:AC ss
 ·go_enter func205,ntmps205
  go_wp2_with fail
  refine(AB _ _ _ _ _ h).mono ?_;rintro e l ⟨rfl,b⟩;go_wp2_with fail
  go_ret
  exact⟨Ad (by simp[DO,g]),b⟩
 ·cases i:AC tt
  ·go_enter func205,ntmps205
   go_wp2_with fail
   refine(AB _ _ _ _ _ h).mono ?_;rintro e l ⟨rfl,b⟩;go_wp2_with fail
   refine(AB _ _ _ _ _ (d.below b NLN)).mono ?_;rintro e q ⟨rfl,j⟩;go_wp2_with fail
   go_ret
   exact⟨Ad (by simp[DO,i]),b.trans (j.mono b.size)⟩
  ·obtain⟨y,m⟩:=NV g;obtain⟨z,o⟩:=NV i;have r:=Ab m;have s:=Ab o;clear m o;go_enter func205,ntmps205
   go_wp2_with fail
   refine(AB _ _ _ _ _ h).mono ?_;rintro e l ⟨rfl,b⟩;go_wp2_with fail
   refine(AB _ _ _ _ _ (d.below b NLN)).mono ?_;rintro e q ⟨rfl,j⟩;have f:=b.trans (j.mono b.size);go_wp2_with fail
   refine(Wh _ _ _ _ _ _ _ _ _ (h.below f NLN) (d.below f NLN) (Aa r) (Aa s) (by have:=h.len;omega) (by have:=d.len;omega)).mono ?_;rintro e A ⟨x,B,K,rfl,t,u,p⟩;clear t;have v:=Ab p.last;clear p;go_wp2_with fail
   go_ret
   refine⟨Ad ?_,f.trans (u.mono f.size)⟩;rw[Aa v];simp only[DO,g,i,Z0];rw[zO];simp
set_option linter.unusedVariables false
inductive Vv where
 |bool (b:Bool)
 |int (n:Int)
 |text (s:ByteArray)
 |set (ss:List ByteArray)
def Vv.ty:Vv->Int
 |.bool _=>1
 |.int _=>2
 |.text _=>3
 |.set _=>4
inductive Ev where
 |ok (v:Vv)
 |err (c:Int)
structure Rq where
 cl:ByteArray
 us:ByteArray
 lv:Int
 nw:Int
 s1:List ByteArray
 s2:List ByteArray
open Classical in
noncomputable def Jg (ss tt:List ByteArray):List ByteArray×Int:=if h:∃p:List ByteArray×Int,AT ss tt p.1 p.2 then Classical.choose h else ([],4)
theorem MR (h:AT ss tt K c):Jg ss tt=(K,c):=by
 have hx:∃p:List ByteArray×Int,AT ss tt p.1 p.2:=⟨(K,c),h⟩
 rw[Jg,dif_pos hx];obtain⟨e1,e2⟩:=(Classical.choose_spec hx).unique h;exact Prod.ext e1 e2
def DF (p:Int×Int):Ev:=if p.2=0 then .ok (.int p.1)else .err p.2
def EV (p:List ByteArray×Int):Ev:=if p.2=0 then .ok (.set p.1)else .err p.2
def GV (op:Int) (v:Vv):Ev:=match v with
 |.int n=>if op=8 then DF (AZ 2 0 n)else .err 4
 |.bool b=>if op=9 then .ok (.bool (!b))else .err 4
 |.set ss=>if op=10 then .ok (.int ss.length)else .err 4
 |.text _=> .err 4
open Classical in
noncomputable def Dj (v u:Vv):Bool:=decide (v=u)
open Classical in
noncomputable def Ch (op:Int) (v u:Vv):Ev:=
 if op=19 then .ok (.bool (Dj v u))else if op=20 then .ok (.bool (!Dj v u))
 else match v,u with
  |.text s,.set ss=>if op=23 then .ok (.bool (decide (s∈ss)))else .err 4
  |.set ss,.set tt=>if op=16 then EV (Jg ss tt)else if op=17 then .ok (.set (BR ss tt))else if op=18 then .ok (.set (Bc ss tt))else if op=24 then .ok (.bool (DO ss tt))else .err 4
  |.int a,.int b=>if op=21 then .ok (.bool (decide (a<b)))else if op=22 then .ok (.bool (decide (a<=b)))else if 11<=op/\op<=15 then DF (AZ (op-10) a b)else .err 4
  |_,_=> .err 4
def Jf (op:Int) (v:Vv):Bool:=match v with
 |.bool b=>if op=25 then !b else if op=26 then b else jC
 |_=>jC
def Ade (R:Rq) (n:Int):Vv:=if n<2 then (if n=1 then .text R.us else .text R.cl)else if n<4 then (if n=3 then .int R.nw else .int R.lv)else if n=4 then .set R.s1 else .set R.s2
theorem Adf (R:Rq)(n:Int):(Ade R n).ty=Bw n:=by
 unfold Ade Bw
 repeat' split<;>try rfl
theorem DV {op a t:Int}(h:nz (Ba op [a])=X t):(op=8/\a=2/\t=2)\/(op=9/\a=1/\t=1)\/(op=10/\a=4/\t=2):=by
 obtain⟨h1,h0⟩:=EU h;simp only[Ba]at h1;by_cases c1:op=8/\a=2
 ·rw[if_pos c1]at h1;exact .inl ⟨c1.1,c1.2,h1.symm⟩
 rw[if_neg c1]at h1;by_cases c2:op=9/\a=1
 ·rw[if_pos c2]at h1;exact .inr (.inl ⟨c2.1,c2.2,h1.symm⟩)
 rw[if_neg c2]at h1;by_cases c3:op=10/\a=4
 ·rw[if_pos c3]at h1;exact .inr (.inr ⟨c3.1,c3.2,h1.symm⟩)
 rw[if_neg c3]at h1;exact absurd h1.symm h0
theorem CU {op a b t:Int}(h:nz (Ba op [a,b])=X t):((11<=op/\op<=15)/\a=2/\b=2/\t=2)\/((16<=op/\op<=18)/\a=4/\b=4/\t=4)\/((op=19\/op=20)/\a=b/\t=1)\/((op=21\/op=22)/\a=2/\b=2/\t=1)\/(op=23/\a=3/\b=4/\t=1)\/(op=24/\a=4/\b=4/\t=1)\/((op=25\/op=26)/\a=1/\b=1/\t=1):=by
 obtain⟨h1,h0⟩:=EU h;simp only[Ba]at h1;by_cases c1:(11<=op/\op<=15)/\a=2/\b=2
 ·rw[if_pos c1]at h1;exact .inl ⟨c1.1,c1.2.1,c1.2.2,h1.symm⟩
 rw[if_neg c1]at h1;by_cases c2:(16<=op/\op<=18)/\a=4/\b=4
 ·rw[if_pos c2]at h1;exact .inr (.inl ⟨c2.1,c2.2.1,c2.2.2,h1.symm⟩)
 rw[if_neg c2]at h1;by_cases c3:(op=19\/op=20)/\a=b
 ·rw[if_pos c3]at h1;exact .inr (.inr (.inl ⟨c3.1,c3.2,h1.symm⟩))
 rw[if_neg c3]at h1;by_cases c4:(op=21\/op=22)/\a=2/\b=2
 ·rw[if_pos c4]at h1;exact .inr (.inr (.inr (.inl ⟨c4.1,c4.2.1,c4.2.2,h1.symm⟩)))
 rw[if_neg c4]at h1;by_cases c5:op=23/\a=3/\b=4
 ·rw[if_pos c5]at h1;exact .inr (.inr (.inr (.inr (.inl ⟨c5.1,c5.2.1,c5.2.2,h1.symm⟩))))
 rw[if_neg c5]at h1;by_cases c:op=24/\a=4/\b=4
 ·rw[if_pos c]at h1;exact .inr (.inr (.inr (.inr (.inr (.inl ⟨c.1,c.2.1,c.2.2,h1.symm⟩)))))
 rw[if_neg c]at h1;by_cases c7:(op=25\/op=26)/\a=1/\b=1
 ·rw[if_pos c7]at h1;exact .inr (.inr (.inr (.inr (.inr (.inr ⟨c7.1,c7.2.1,c7.2.2,h1.symm⟩)))))
 rw[if_neg c7]at h1;exact absurd h1.symm h0
theorem Vv.bool_of {v:Vv}(h:v.ty=1):∃b,v= .bool b:=by cases v<;>first|exact⟨_,rfl⟩|(simp[Vv.ty]at h)
theorem Vv.int_of {v:Vv}(h:v.ty=2):∃b,v= .int b:=by cases v<;>first|exact⟨_,rfl⟩|(simp[Vv.ty]at h)
theorem Vv.text_of {v:Vv}(h:v.ty=3):∃b,v= .text b:=by cases v<;>first|exact⟨_,rfl⟩|(simp[Vv.ty]at h)
theorem Vv.set_of {v:Vv}(h:v.ty=4):∃b,v= .set b:=by cases v<;>first|exact⟨_,rfl⟩|(simp[Vv.ty]at h)
theorem MS {op a b:Int}(h: 11<=op/\op<=15):Ch op (.int a) (.int b)=DF (AZ (op-10) a b):=by
 rw[Ch,if_neg (by omega),if_neg (by omega)];rw[if_neg (by omega),if_neg (by omega),if_pos h]
theorem Jh (a b:List ByteArray):Ch 16 (.set a) (.set b)=EV (Jg a b):=rfl
theorem PB (a b:List ByteArray):Ch 17 (.set a) (.set b)= .ok (.set (BR a b)):=rfl
theorem N3 (a b:List ByteArray):Ch 18 (.set a) (.set b)= .ok (.set (Bc a b)):=rfl
theorem Ul (a b:List ByteArray):Ch 24 (.set a) (.set b)= .ok (.bool (DO a b)):=rfl
theorem Vu (v u:Vv):Ch 19 v u= .ok (.bool (Dj v u)):=rfl
theorem Vw (v u:Vv):Ch 20 v u= .ok (.bool (!Dj v u)):=rfl
open Classical in
theorem Adg (s:ByteArray) (b:List ByteArray):Ch 23 (.text s) (.set b)= .ok (.bool (decide (s∈b))):=rfl
theorem SU {p:Int×Int}{u:Vv}(h:DF p= .ok u):u.ty=2:=by
 unfold DF at h;split at h
 ·cases h;rfl
 ·cases h
theorem Yy {p:List ByteArray×Int}{u:Vv}(h:EV p= .ok u):u.ty=4:=by
 unfold EV at h;split at h
 ·cases h;rfl
 ·cases h
theorem Aal {op:Int}{v:Vv}(h:nz (Ba op [v.ty])=X t):∀u,GV op v= .ok u->u.ty=t:=by
 intro u a;rcases DV h with⟨rfl,hv,rfl⟩|⟨rfl,hv,rfl⟩|⟨rfl,hv,rfl⟩
 ·obtain⟨n,rfl⟩:=Vv.int_of hv;exact SU a
 ·obtain⟨n,rfl⟩:=Vv.bool_of hv;cases a;rfl
 ·obtain⟨n,rfl⟩:=Vv.set_of hv;cases a;rfl
theorem Vt {op:Int}{v w:Vv}(h:nz (Ba op [v.ty,w.ty])=X t)(hc:op≠25/\op≠26):∀u,Ch op v w= .ok u->u.ty=t:=by
 intro u c;rcases CU h with⟨f,hv,d,rfl⟩|⟨f,hv,d,rfl⟩|⟨f,hv,rfl⟩|⟨f,hv,d,rfl⟩|⟨rfl,hv,d,rfl⟩|⟨rfl,hv,d,rfl⟩|⟨f,hv,d,rfl⟩
 ·obtain⟨a,rfl⟩:=Vv.int_of hv;obtain⟨b,rfl⟩:=Vv.int_of d;rw[MS f]at c;exact SU c
 ·obtain⟨a,rfl⟩:=Vv.set_of hv;obtain⟨b,rfl⟩:=Vv.set_of d;rcases(show op=16\/op=17\/op=18 by omega)with rfl|rfl|rfl
  ·exact Yy c
  ·cases c;rfl
  ·cases c;rfl
 ·rcases f with rfl|rfl
  ·cases c;rfl
  ·cases c;rfl
 ·obtain⟨a,rfl⟩:=Vv.int_of hv;obtain⟨b,rfl⟩:=Vv.int_of d;rcases f with rfl|rfl
  ·cases c;rfl
  ·cases c;rfl
 ·obtain⟨a,rfl⟩:=Vv.text_of hv;obtain⟨b,rfl⟩:=Vv.set_of d;cases c;rfl
 ·obtain⟨a,rfl⟩:=Vv.set_of hv;obtain⟨b,rfl⟩:=Vv.set_of d;cases c;rfl
 ·omega
section
variable {aS aO aZ aW : jD} {G : Nat -> Prop}
def VIs (G:Nat->Prop) (w:Z) (x:R):Vv->Prop
 |.bool b=>x=jB 251 (.bool b)
 |.int n=>x=jB 249 (U V n)/\Di n
 |.text s=>x=jB 250 (Q s)
 |.set ss=>∃a n c,x=jB 252 (Y a n c)/\Ap w a n c ss/\ss.length<=1048576/\∀ad,a=X ad->0<n->G ad.block
theorem VIs.below {w w':Z}{B:Nat}{x:R}{v:Vv}(h:VIs G w x v)(d:jQ B w w')(hB:w.heap.size<=B):VIs G w' x v:=by
 cases v with
 |bool b=>exact h
 |int n=>exact h
 |text s=>exact h
 |set ss=>
  obtain⟨a,n,c,h1,h2⟩:=h;exact⟨a,n,c,h1,h2.1.below d hB,h2.2⟩
theorem VIs.form {x:R}{v:Vv}(h:VIs G w x v):∃t u,x=jB t u:=by
 cases v with
 |bool b=>exact⟨_,_,h⟩
 |int n=>exact⟨_,_,h.1⟩
 |text s=>exact⟨_,_,h⟩
 |set ss=>obtain⟨_,_,_,h,_⟩:=h;exact⟨_,_,h⟩
theorem Um (a:jJ)(v:R)(w:Z):(ji (jB 251 v) a 251 jC).run j4 w= .ok v w:=by simp[ji,jl underlying251]
theorem Aam (a:jJ)(v:R)(w:Z):(ji (jB 251 v) a 251 jA).run j4 w= .ok (jO #[v,.bool jA]) w:=by simp[ji,jl underlying251]
theorem Adi (a:jJ)(v:R)(w:Z):(ji (jB 249 v) a 249 jC).run j4 w= .ok v w:=by simp[ji,jl underlying249]
theorem Adj (a:jJ)(v:R)(w:Z):(ji (jB 249 v) a 249 jA).run j4 w= .ok (jO #[v,.bool jA]) w:=by simp[ji,jl underlying249]
theorem Af9 (a:jJ)(v:R)(w:Z):(ji (jB 250 v) a 250 jC).run j4 w= .ok v w:=by simp[ji,jl underlying250]
theorem Aan (a:jJ)(v:R)(w:Z):(ji (jB 250 v) a 250 jA).run j4 w= .ok (jO #[v,.bool jA]) w:=by simp[ji,jl underlying250]
theorem Adk (a:jJ)(v:R)(w:Z):(ji (jB 252 v) a 252 jC).run j4 w= .ok v w:=by simp[ji,jl underlying252]
theorem Adl (a:jJ)(v:R)(w:Z):(ji (jB 252 v) a 252 jA).run j4 w= .ok (jO #[v,.bool jA]) w:=by simp[ji,jl underlying252]
theorem GW (h: 1<=c/\c<=4):∃a,Sb aS aO aZ aW c=jB 297 (.pointer (X a)):=by
 rcases(show c=1\/c=2\/c=3\/c=4 by omega)with rfl|rfl|rfl|rfl
 ·exact⟨_,rfl⟩
 ·exact⟨_,rfl⟩
 ·exact⟨_,rfl⟩
 ·exact⟨_,rfl⟩
def Sd (G:Nat->Prop) (aS aO aZ aW:jD) (o:Ev) (w:Z) (r:jT) (w':Z):Prop:=
 (match o with
  |.ok v=>∃x,r=jH (jO #[x,jL])/\VIs G w' x v
  |.err c=>∃x,r=jH (jO #[x,Sb aS aO aZ aW c])/\1<=c/\c<=4)/\Ah w w'
theorem Aga (v:Int):Di (fit v).1:=by
 unfold fit;split
 ·rename_i h;exact⟨h.1,h.2⟩
 ·exact⟨by decide,by decide⟩
theorem JR (op a b:Int):Di (AZ op a b).1:=by
 unfold AZ Vp Uj
 repeat' split
 all_goals first|exact Aga _|exact⟨by decide,by decide⟩
theorem Abx (v:Int): 0<=(fit v).2/\(fit v).2<=4:=by unfold fit;split<;>simp
theorem N5 (op a b:Int): 0<=(AZ op a b).2/\(AZ op a b).2<=4:=by
 unfold AZ Vp Uj
 repeat' split
 all_goals first|exact Abx _|decide
theorem Agb (op:Int)(x:R)(v:Vv)(t:Int)(w:Z)(hs:CZ w aS aO aZ aW)(hx:VIs G w x v)(l:nz (Ba op [v.ty])=X t):
  jE j4 187 #[U V op,x] w (Sd G aS aO aZ aW (GV op v) w):=by
 have u:=Um;have y:=Adi;have z:=Adk;rcases DV l with⟨rfl,hv,_⟩|⟨rfl,hv,_⟩|⟨rfl,hv,_⟩
 ·obtain⟨n,rfl⟩:=Vv.int_of hv;obtain⟨rfl,m⟩:x=jB 249 (U V n)/\Di n:=hx;have d:=Ab (Ki 2 0 n w hs ⟨by decide,by decide⟩ m);have h1:=N5 2 0 n;have h2:=JR 2 0 n;have f:=Ab (show GV 8 (.int n)=DF (AZ 2 0 n)from rfl);generalize AZ 2 0 n=p at d h1 h2 f;obtain⟨h,i⟩:=p;clear hv;by_cases h0:i=0
  ·subst h0;go_enter func187,ntmps187
   go_wp2_with fail
   refine(Aa d).mono ?_;rintro o q ⟨rfl,g⟩;dsimp only[Eg,Sb,if_true];go_wp2_with fail
   refine jN (v:= jO #[jB 249 (U V h),jL]) (by simp[jR,results187,go_sem]) rfl ?_
   rw[Aa f];exact⟨⟨_,rfl,rfl,h2⟩,g⟩
  ·obtain⟨a,j⟩:=GW (aS:=aS) (aO:=aO) (aZ:=aZ) (aW:=aW) (c:=i) (by dsimp only at h1;omega);have k:=Ab h0;have r:=Ab h1;clear h0 h1;go_enter func187,ntmps187
   go_wp2_with fail
   refine(Aa d).mono ?_;rintro o q ⟨rfl,g⟩;dsimp only[Eg];rw[j];go_wp2_with fail
   refine jN (v:= jO #[jB 249 (U V h),jB 297 (.pointer (X a))]) (by simp[jR,results187,go_sem]) rfl ?_
   rw[Aa f,DF,if_neg (Aa k)];have:=Aa r;have:=Aa k;exact⟨⟨_,by rw[j],by dsimp only at*;omega,by dsimp only at*;omega⟩,g⟩
 ·obtain⟨b,rfl⟩:=Vv.bool_of hv;have e:x=jB 251 (.bool b):=hx;subst e;go_enter func187,ntmps187
  go_wp2_with fail
  refine jN (v:= jO #[jB 251 (.bool (!b)),jL]) (by simp[jR,results187,go_sem]) rfl ?_
  exact⟨⟨_,rfl,rfl⟩,BRN⟩
 ·obtain⟨ss,rfl⟩:=Vv.set_of hv;obtain⟨a,n,c,rfl,hS,_⟩:=hx;have s:=hS.len;have hc:n<=jM:=zB hS.cap hS.small;have hi:Di (n:Int):=⟨by omega,by unfold jM at hc;omega⟩
  subst s;go_enter func187,ntmps187
  go_wp2_with fail
  refine jN (v:= jO #[jB 249 (U V ss.length),jL]) (by simp[jR,results187,go_sem]) rfl ?_
  exact⟨⟨_,rfl,rfl,hi⟩,BRN⟩
end
section
open Classical in
theorem Yz (a b:Option jD) (n c m d:Nat) (A B:List ByteArray) (w:Z) (h1:Ap w a n c A) (h2:Ap w b m d B):
  jE j4 238 #[Y a n c,Y b m d] w fun e w'=>e=jH (.bool (decide (A=B)))/\Ah w w':=by
 have s1:n<=9223372036854775807:=by have:=h1.cap;have:=h1.small;unfold jM at this;omega
 have HA:=Ab h1.len;by_cases hnm:n=m
 ·have enm:((n:Int)!=(m:Int))=jC:=by rw[hnm];simp
  have HE:=Ab (PC (A:=A) (B:=B) (by rw[<-h1.len,<-h2.len,hnm]));have Hnm:=Ab hnm;clear hnm;go_enter func238,ntmps238
  go_wp2_with fail
  go_loopw [13] (fun i wr=>∃k:Nat,k<=n/\i=U V k/\Ah w wr/\Hid (∀j,j<k->Aw A j=Aw B j)) (fun i _=>n-(jI i).toNat)
  case atStart=>exact⟨0,by omega,rfl,BRN,Ab (fun j h=>absurd h (by omega))⟩
  case round=>
   obtain⟨k,hk,rfl,B1,Ha⟩:=hrel;by_cases hlt:k<n
   ·have ilt:(k:Int)<(n:Int):=by omega
    have ilm:(k:Int)<(m:Int):=by have:=Aa Hnm;omega
    obtain⟨b1,o1,rfl,hl1,c1⟩:=(h1.below B1 NLN).cells k hlt;obtain⟨b2,o2,rfl,hl2,c2⟩:=(h2.below B1 NLN).cells k (by have:=Aa Hnm;omega);have Hno:=Ab (show Aw A k≠Aw B k->decide (A=B)=jC from fun e=>zJ (fun e'=>e ((Aa HE).1 e' k (by rw[<-Aa HA];exact hlt))));have HN:=Ab (show Aw A k=Aw B k->∀j,j<k+1->Aw A j=Aw B j from fun e j h'=>by
     by_cases ej:j=k
     ·subst ej;exact e
     ·exact Aa Ha j (by omega))
    have Hlt:=Ab hlt;clear Ha hlt;have BD:=B1.drew;generalize Aw A k=x at c1 Hno HN;generalize Aw B k=y at c2 Hno HN;by_cases hxy:x=y
    ·have exy:(x.toList==y.toList)=jA:=(Un x y).2 hxy;have nxy:(x.toList !=y.toList)=jC:=by rw[bne,exy];rfl
     have HN2:=Ab (Aa HN hxy);clear hxy Hno HN;go_wp2_with fail
     go_region
     go_wp2_with fail
     go_roundw
     case rel=>exact⟨k+1,Aa Hlt,by go_num,BD,HN2⟩
     case measure=>have:=Aa Hlt;simp[jI];omega
    ·have exy:(x.toList==y.toList)=jC:=by rw[zv];exact fun h=>hxy ((Un x y).1 h)
     have HX:=Ab (Aa Hno hxy);clear hxy Hno HN;go_wp2_with fail
     go_region
     go_wp2_with fail
     go_ret
     exact⟨Ad (Aa HX).symm,BD⟩
   ·have e:k=n:=by omega
    subst e;have HX:=Ab (show decide (A=B)=jA from zL ((Aa HE).2 (fun j hj=>Aa Ha j (by have:=Aa HA;omega))));go_wp2_with fail
    go_ret
    exact⟨Ad (Aa HX).symm,B1⟩
 ·have enm:((n:Int)!=(m:Int))=jA:=zc.2 (by omega);have HX:=Ab (show decide (A=B)=jC from zJ (fun e=>hnm (by rw[h1.len,h2.len,e])));clear hnm;go_enter func238,ntmps238
  go_wp2_with fail
  go_ret
  exact⟨Ad (Aa HX).symm,BRN⟩
theorem Ajb {s:ByteArray}{A:List ByteArray} :s∈A↔∃j,j<A.length/\Aw A j=s:=by
 constructor
 ·intro h;obtain⟨j,a,rfl⟩:=zy h;exact⟨j,a,Uo a⟩
 ·rintro⟨j,a,rfl⟩;rw[Uo a];exact zH a
theorem YA (a:Option jD)(n c:Nat)(A:List ByteArray)(s:ByteArray)(w:Z)(h1:Ap w a n c A):
  jE j4 201 #[Y a n c,Q s] w fun e w'=>(∃k:Int,e=jH (U V k)/\(0<=k↔s∈A))/\Ah w w':=by
 have s1:n<=9223372036854775807:=by have:=h1.cap;have:=h1.small;unfold jM at this;omega
 have p:=Ab h1.len;go_enter func201,ntmps201
 go_wp2_with fail
 go_loopw [8] (fun i wr=>∃k:Nat,k<=n/\i=U V k/\Ah w wr/\Hid (∀j,j<k->Aw A j≠s)) (fun i _=>n-(jI i).toNat)
 case atStart=>exact⟨0,by omega,rfl,BRN,Ab (fun j h=>absurd h (by omega))⟩
 case round=>
  obtain⟨k,v,rfl,f,o⟩:=hrel;by_cases g:k<n
  ·have y:(k:Int)<(n:Int):=by omega
   obtain⟨b1,z,rfl,B,c1⟩:=(h1.below f NLN).cells k g;have l:=Ab (show Aw A k=s->s∈A from fun e=>Ajb.2 ⟨k,by rw[<-Aa p];exact g,e⟩);have m:=Ab (show Aw A k≠s->∀j,j<k+1->Aw A j≠s from fun e j C=>by
    by_cases r:j=k
    ·subst r;exact e
    ·exact Aa o j (by omega))
   have q:=Ab g;clear o g;generalize Aw A k=x at c1 l m;by_cases b:x=s
   ·have t:(s.toList==x.toList)=jA:=(Un s x).2 b.symm;have d:=Ab (Aa l b);clear b l m;go_wp2_with fail
    go_ret
    exact⟨⟨k,rfl,⟨fun _=>Aa d,fun _=>by omega⟩⟩,f⟩
   ·have t:(s.toList==x.toList)=jC:=by rw[zv];exact fun h=>b ((Un s x).1 h).symm
    have d:=Ab (Aa m b);clear b l m;go_wp2_with fail
    go_roundw
    case rel=>exact⟨k+1,Aa q,by go_num,f,d⟩
    case measure=>have:=Aa q;simp[jI];omega
  ·have e:k=n:=by omega
   subst e;have d:=Ab (show s ∉ A from fun h=>by
    obtain⟨j,u,e⟩:=Ajb.1 h;exact Aa o j (by rw[Aa p];exact u) e)
   go_wp2_with fail
   go_ret
   exact⟨⟨-1,rfl,⟨fun h=>absurd h (by decide),fun h=>absurd h (Aa d)⟩⟩,f⟩
open Classical in
theorem Se (a:Option jD) (n c:Nat) (A:List ByteArray) (s:ByteArray) (w:Z) (h1:Ap w a n c A):
  jE j4 193 #[Y a n c,Q s] w fun e w'=>e=jH (.bool (decide (s∈A)))/\Ah w w':=by
 go_enter func193,ntmps193
 go_wp2_with fail
 refine(YA _ _ _ A s _ h1).mono ?_;rintro r w1 ⟨⟨k,rfl,hk⟩,hb1⟩;have HK:=Ab hk;clear hk;by_cases h0: 0<=k
 ·have HX:=Ab (zL ((Aa HK).1 h0));dsimp only;go_wp2_with fail
  go_ret
  exact⟨by rw[Aa HX];rfl,hb1⟩
 ·have HX:=Ab (zJ (fun h=>h0 ((Aa HK).2 h)));dsimp only;go_wp2_with fail
  go_ret
  exact⟨by rw[Aa HX];rfl,hb1⟩
end
section
theorem Vm {x:Int}(h1: 0<=x)(h2:x<18446744073709551616):IntKind.u64.wrap x=x:=by rw[IntKind.wrap_u64];omega
theorem PA (x:Int):IntKind.u64.wrap x=x % 18446744073709551616:=IntKind.wrap_u64 x
theorem AhR (h t:Int)(h0: 0<=h)(h1:h<4611686018427387904)(a: 0<=t)(b:t<2):bits .or jP (h*2) t=h*2+t:=by
 rw[u64_or (h*2) t (by omega) (by omega) (by omega) (by omega)];have e:(h*2).toNat=2 ^ 1*h.toNat:=by omega
 rw[e,<-Nat.two_pow_add_eq_or_of_lt (by omega)];omega
theorem Abs (a:Int)(k:Nat)(b: 1<=k):a / 2 ^ k=(a / 2 ^ (k-1)) / 2:=by
 obtain⟨m,rfl⟩:∃m,k=m+1:=⟨k-1,by omega⟩
 rw[show m+1-1=m from by omega,Int.pow_succ,Int.ediv_ediv_of_nonneg (Int.le_of_lt (Int.pow_pos (by omega)))]
theorem Jd {a b hi lo:Int}{k:Nat}(h: 1<=k)(f: 0<=a/\a<=9223372036854775808)(d: 0<=b/\b<=9223372036854775808)(h1: 0<=hi)(h2:hi<18446744073709551616)(h3: 0<=lo)(h4:lo<18446744073709551616)
  (hv:hi*18446744073709551616+lo=(a / 2 ^ k)*b):
  ∃c t A:Int,A=a / 2 ^ (k-1)/\0<=A/\A<18446744073709551616/\t=A % 2/\0<=c/\c<170141183460469231731687303715884105728/\A*b=c+t*b/\
   bits .or jP (IntKind.u64.wrap (hi*2)) (lo / 9223372036854775808)=c / 18446744073709551616/\IntKind.u64.wrap (lo*2)=c % 18446744073709551616:=by
 have i:=Abs a k h;generalize g:a / 2 ^ (k-1)=A at*;have m:(0 :Int)<2 ^ (k-1):=Int.pow_pos (by omega);have j: 0<=A:=by rw[<-g];exact Int.ediv_nonneg f.1 (by omega)
 have n:A<=a:=by rw[<-g];exact Int.ediv_le_self _ f.1
 rw[i]at hv;have o:(A / 2)*b<=4611686018427387904*9223372036854775808:=Int.mul_le_mul (by omega) d.2 d.1 (by omega);have p: 0<=(A / 2)*b:=Int.mul_nonneg (by omega) d.1;have l:A*b=2*((A / 2)*b)+(A % 2)*b:=by
  have:A=2*(A / 2)+A % 2:=by omega
  conv=>lhs;rw[this]
  rw[Int.add_mul,Int.mul_assoc]
 generalize (A / 2)*b=P at*;have q:hi<=2305843009213693952:=by omega
 refine⟨2*P,A % 2,A,rfl,j,by omega,rfl,by omega,by omega,l,?_,?_⟩
 ·rw[Vm (by omega) (by omega),AhR hi (lo / 9223372036854775808) h1 (by omega) (by omega) (by omega)];omega
 ·rw[PA];omega
variable {a b hi lo : Int} {k : Nat}
theorem Abt (g: 1<=k)(h: 0<=a/\a<=9223372036854775808)(i: 0<=b/\b<=9223372036854775808)(h1: 0<=hi)(h2:hi<18446744073709551616)(h3: 0<=lo)(h4:lo<18446744073709551616)
  (hv:hi*18446744073709551616+lo=(a / 2 ^ k)*b)(c:(bits BinOp.and jP (a / 2 ^ (k-1)) 1==1)=jA)(hc:IntKind.u64.wrap (IntKind.u64.wrap (lo*2)+b)<IntKind.u64.wrap (lo*2)):
  ∃hi' lo':Int,hi'=IntKind.u64.wrap (bits BinOp.or jP (IntKind.u64.wrap (hi*2)) (lo / 9223372036854775808)+1)/\lo'=IntKind.u64.wrap (IntKind.u64.wrap (lo*2)+b)/\
   0<=hi'/\hi'<18446744073709551616/\0<=lo'/\lo'<18446744073709551616/\hi'*18446744073709551616+lo'=(a / 2 ^ (k-1))*b:=by
 obtain⟨o,t,A,d,j,p,l,q,r,m,n,f⟩:=Jd g h i h1 h2 h3 h4 hv;rw[<-d,and_one_u64 A j (by omega),beq_iff_eq]at c;rw[f,PA]at hc;refine⟨_,_,rfl,rfl,?_⟩;rw[n,f,PA,PA,<-d,m,l,c];omega
theorem Abu (g: 1<=k)(h: 0<=a/\a<=9223372036854775808)(i: 0<=b/\b<=9223372036854775808)(h1: 0<=hi)(h2:hi<18446744073709551616)(h3: 0<=lo)(h4:lo<18446744073709551616)
  (hv:hi*18446744073709551616+lo=(a / 2 ^ k)*b)(c:(bits BinOp.and jP (a / 2 ^ (k-1)) 1==1)=jA)(hc:IntKind.u64.wrap (lo*2)<=IntKind.u64.wrap (IntKind.u64.wrap (lo*2)+b)):
  ∃hi' lo':Int,hi'=bits BinOp.or jP (IntKind.u64.wrap (hi*2)) (lo / 9223372036854775808)/\lo'=IntKind.u64.wrap (IntKind.u64.wrap (lo*2)+b)/\
   0<=hi'/\hi'<18446744073709551616/\0<=lo'/\lo'<18446744073709551616/\hi'*18446744073709551616+lo'=(a / 2 ^ (k-1))*b:=by
 obtain⟨o,t,A,d,j,p,l,q,r,m,n,f⟩:=Jd g h i h1 h2 h3 h4 hv;rw[<-d,and_one_u64 A j (by omega),beq_iff_eq]at c;rw[f,PA]at hc;refine⟨_,_,rfl,rfl,?_⟩;rw[n,f,PA,<-d,m,l,c];omega
theorem Vn (d: 1<=k)(f: 0<=a/\a<=9223372036854775808)(g: 0<=b/\b<=9223372036854775808)(h1: 0<=hi)(h2:hi<18446744073709551616)(h3: 0<=lo)(h4:lo<18446744073709551616)
  (hv:hi*18446744073709551616+lo=(a / 2 ^ k)*b)(h:(bits BinOp.and jP (a / 2 ^ (k-1)) 1==1)=jC):
  ∃hi' lo':Int,hi'=bits BinOp.or jP (IntKind.u64.wrap (hi*2)) (lo / 9223372036854775808)/\lo'=IntKind.u64.wrap (lo*2)/\
   0<=hi'/\hi'<18446744073709551616/\0<=lo'/\lo'<18446744073709551616/\hi'*18446744073709551616+lo'=(a / 2 ^ (k-1))*b:=by
 obtain⟨o,t,A,c,i,p,j,q,r,l,m,n⟩:=Jd d f g h1 h2 h3 h4 hv;rw[<-c,and_one_u64 A i (by omega),beq_eq_false_iff_ne]at h;have h0:A % 2=0:=by omega
 refine⟨_,_,rfl,rfl,?_⟩;rw[m,n,<-c,l,j,h0];omega
end
theorem Vq (a:Int)(w:Z)(b:Di a)(h0:a<0):
  jE j4 175 #[U V a] w fun e w'=>e=jH (jG #[.bool jA,U jP 0,U jP (-a)])/\Ah w w':=by
 obtain⟨c,d⟩:=b;go_enter func175,ntmps175
 go_wp2
 rw[show -(a+1)+1= -a from by omega];exact jN (v:= jG #[.bool jA,U jP 0,U jP (-a)]) (by simp[jR,results175,go_sem]) rfl ⟨rfl,BRN.alloc NLN _⟩
theorem Vr (a:Int)(w:Z)(b:Di a)(h0: 0<=a):
  jE j4 175 #[U V a] w fun e w'=>e=jH (jG #[.bool jC,U jP 0,U jP a])/\Ah w w':=by
 obtain⟨c,d⟩:=b;have f: ¬ a<0:=by omega
 go_enter func175,ntmps175
 go_wp2
 exact jN (v:= jG #[.bool jC,U jP 0,U jP a]) (by simp[jR,results175,go_sem]) rfl ⟨rfl,BRN.alloc NLN _⟩
theorem AV (a:Int)(w:Z)(b:Di a):
  jE j4 175 #[U V a] w fun e w'=>e=jH (jG #[.bool (decide (a<0)),U jP 0,U jP (a.natAbs:Int)])/\Ah w w':=by
 by_cases h0:a<0
 ·rw[show decide (a<0)=jA from by simp[h0],show(a.natAbs:Int)= -a from by omega];exact Vq a w b h0
 ·rw[show decide (a<0)=jC from by simpa using h0,show(a.natAbs:Int)=a from by omega];exact Vr a w b (by omega)
theorem MQ {x y:Int}(h:x=y):U jP x=U jP y:=by rw[h]
theorem Vs (a b:Int)(w:Z)(d: 0<=a/\a<=9223372036854775808)(f: 0<=b/\b<=9223372036854775808):
  jE j4 178 #[U jP a,U jP b] w fun e w'=>(∃hi lo:Int,e=jH (jO #[U jP hi,U jP lo])/\0<=hi/\hi<18446744073709551616/\0<=lo/\lo<18446744073709551616/\hi*18446744073709551616+lo=a*b)/\w'=w:=by
 go_enter func178,ntmps178
 go_wp2
 go_loop [6,7,8,9] (fun h l i _=>∃ (hi lo:Int) (k:Nat),h=U jP hi/\l=U jP lo/\i=U V ((k:Int)-1)/\k<=64/\0<=hi/\hi<18446744073709551616/\0<=lo/\lo<18446744073709551616/\hi*18446744073709551616+lo=(a / 2 ^ k)*b) (fun _ _ i _=>(jI i+1).toNat)
 case atStart=>exact⟨0,0,64,rfl,rfl,rfl,by omega,by omega,by omega,by omega,by omega,by rw[show a / 2 ^ 64=0 from Int.ediv_eq_zero_of_lt d.1 (by omega)];omega⟩
 case round=>
  obtain⟨hi,lo,k,rfl,rfl,rfl,j,h1,h2,h3,h4,hv⟩:=hrel;by_cases g:k=0
  ·subst g;have c:=Ab hv;clear hv;go_wp2
   go_ret2
   exact⟨⟨hi,lo,rfl,h1,h2,h3,h4,by rw[Aa c];simp⟩,rfl⟩
  ·have m:(0 :Int)<=(k:Int)-1:=by omega
   have c:=Ab hv;clear hv;go_wp2
   ·obtain⟨hi',lo',e1,e2,q⟩:=Abt (by omega) d f h1 h2 h3 h4 (Aa c) (by assumption) (by assumption);exact⟨⟨hi',lo',k-1,MQ e1.symm,MQ e2.symm,by rw[show(((k-1 :Nat):Int))=(k:Int)-1 from by omega],by omega,q⟩,by simp[jI];omega⟩
   ·obtain⟨hi',lo',e1,e2,q⟩:=Abu (by omega) d f h1 h2 h3 h4 (Aa c) (by assumption) (by assumption);exact⟨⟨hi',lo',k-1,MQ e1.symm,MQ e2.symm,by rw[show(((k-1 :Nat):Int))=(k:Int)-1 from by omega],by omega,q⟩,by simp[jI];omega⟩
   ·obtain⟨hi',lo',e1,e2,q⟩:=Vn (by omega) d f h1 h2 h3 h4 (Aa c) (by assumption);exact⟨⟨hi',lo',k-1,MQ e1.symm,MQ e2.symm,by rw[show(((k-1 :Nat):Int))=(k:Int)-1 from by omega],by omega,q⟩,by simp[jI];omega⟩
def Co (n:Bool) (hi lo:Int):Int:=if n then -(hi*18446744073709551616+lo)else hi*18446744073709551616+lo
theorem GT {v x c:Int}(h:fit v=(x,c)):jH (jO #[U V x,U V c])=jH (jO #[U V (fit v).1,U V (fit v).2]):=by rw[h]
theorem Fd (n:Bool)(hi lo:Int)(w:Z)(h1: 0<=hi)(h2:hi<18446744073709551616)(h3: 0<=lo)(h4:lo<18446744073709551616):
  jE j4 176 #[jG #[.bool n,U jP hi,U jP lo]] w fun e w'=>e=jH (jO #[U V (fit (Co n hi lo)).1,U V (fit (Co n hi lo)).2])/\Ah w w':=by
 have B:=Av w (.cells #[.bool n,U jP hi,U jP lo] 265);by_cases e0:hi=0
 ·subst e0;by_cases e1: 9223372036854775808<lo
  ·have a:=Ab (show fit (Co n 0 lo)=(0,1)from Je (by cases n<;>simp[Co]<;>omega));go_enter func176,ntmps176
   go_wp2
   go_ret2
   exact⟨GT (Aa a),B⟩
  ·by_cases e2:lo=9223372036854775808
   ·subst e2;cases n
    ·have a:=Ab (show fit (Co jC 0 9223372036854775808)=(0,1)from Je (by simp[Co]));go_enter func176,ntmps176
     go_wp2
     go_ret2
     exact⟨GT (Aa a),B⟩
    ·have a:=Ab (show fit (Co jA 0 9223372036854775808)=(-9223372036854775808,0)from DN (by simp[Co]) (by simp[Co]));go_enter func176,ntmps176
     go_wp2
     go_ret2
     exact⟨GT (Aa a),B⟩
   ·have b:lo<=9223372036854775807:=by omega
    have c:lo<=9223372036854775808:=by omega
    have d:(lo==9223372036854775808)=jC:=zA.2 e2;clear e1 e2;cases n
    ·have a:=Ab (show fit (Co jC 0 lo)=(lo,0) by rw[show Co jC 0 lo=lo by simp[Co]];exact DN (by omega) (by omega));go_enter func176,ntmps176
     go_wp2
     go_ret2
     exact⟨GT (Aa a),B⟩
    ·have a:=Ab (show fit (Co jA 0 lo)=(-lo,0) by rw[show Co jA 0 lo= -lo by simp[Co]];exact DN (by omega) (by omega));go_enter func176,ntmps176
     go_wp2
     go_ret2
     exact⟨GT (Aa a),B⟩
 ·have f:(hi !=0)=jA:=by simpa using e0
  have a:=Ab (show fit (Co n hi lo)=(0,1)from Je (by cases n<;>simp[Co]<;>omega));go_enter func176,ntmps176
  go_wp2
  go_ret2
  exact⟨GT (Aa a),B⟩
def Aja (v:R) (s:Int):Prop:=∃ (q:Bool) (hi lo:Int),v=jG #[.bool q,U jP hi,U jP lo]/\0<=hi/\hi<18446744073709551616/\0<=lo/\lo<18446744073709551616/\Co q hi lo=s
theorem SN (n:Bool)(x:Int)(m:Bool)(y:Int)(w:Z)(h1: 0<=x)(h2:x<=9223372036854775808)(h3: 0<=y)(h4:y<=9223372036854775808):
  jE j4 177 #[jG #[.bool n,U jP 0,U jP x],jG #[.bool m,U jP 0,U jP y]] w fun e w'=>
   ∃v,e=jH v/\Aja v (Co n 0 x+Co m 0 y)/\Ah w w':=by
 cases a:(n==m)
 ·have hm:m= !n:=by cases n<;>cases m<;>simp at a|-
  subst hm;by_cases c:y<=x
  ·go_enter func177,ntmps177
   go_wp2
   refine jN (v:= jG #[.bool n,U jP 0,U jP (x-y)]) (by simp[jR,results177,go_sem]) rfl ⟨_,rfl,⟨n,0,x-y,rfl,by omega,by omega,by omega,by omega,by cases n<;>simp[Co]<;>omega⟩,?_⟩
   exact((BRN.alloc NLN _).alloc (by simp) _).alloc (by simp;omega) _
  ·have d:x<y:=by omega
   go_enter func177,ntmps177
   go_wp2
   refine jN (v:= jG #[.bool !n,U jP 0,U jP (y-x)]) (by simp[jR,results177,go_sem]) rfl ⟨_,rfl,⟨!n,0,y-x,rfl,by omega,by omega,by omega,by omega,by cases n<;>simp[Co]<;>omega⟩,?_⟩
   exact((BRN.alloc NLN _).alloc (by simp) _).alloc (by simp;omega) _
 ·have hm:m=n:=by cases n<;>cases m<;>simp at a|-
  subst hm;by_cases hc:x=9223372036854775808/\y=9223372036854775808
  ·have f:IntKind.u64.wrap (x+y)=0:=by rw[PA];omega
   have g: 0<x:=by omega
   have b:=Ab hc;clear hc;go_enter func177,ntmps177
   go_wp2
   refine jN (v:= jG #[.bool m,U jP 1,U jP 0]) (by simp[jR,results177,go_sem]) rfl ⟨_,rfl,⟨m,1,0,rfl,by omega,by omega,by omega,by omega,by have hc:=Aa b;cases m<;>simp[Co]<;>omega⟩,?_⟩
   exact((BRN.alloc NLN _).alloc (by simp) _).alloc (by simp;omega) _
  ·have hs:x+y<=18446744073709551615:=by omega
   have h: ¬ (x+y<x):=by omega
   clear hc;go_enter func177,ntmps177
   go_wp2
   refine jN (v:= jG #[.bool m,U jP 0,U jP (x+y)]) (by simp[jR,results177,go_sem]) rfl ⟨_,rfl,⟨m,0,x+y,rfl,by omega,by omega,by omega,by omega,by cases m<;>simp[Co]<;>omega⟩,?_⟩
   exact((BRN.alloc NLN _).alloc (by simp) _).alloc (by simp;omega) _
end Go.Proofs.YteiieikcjcfkkaaGreatDoor

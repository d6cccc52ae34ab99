import Derived.Test.YteiieikcjcfkkaaGreatDoorMXAI
open Go.Proofs.Tryz
open Option renaming none->T,some->X
open Go.Value renaming int->U,slice->Y,string->Q,iface->jB,agg->jG,ownBlock->ja
open Go.IntKind renaming i64->V
open Go renaming World->Z,Value->R,Addr->jD,Calls->jE,TypeId->jJ
open Bool renaming false->jC
open Go.Ending renaming returned->jH
open Go.Proofs.Tryz renaming prog->j4
namespace Go.Proofs.YteiieikcjcfkkaaGreatDoor
set_option maxRecDepth 100000
set_option maxHeartbeats 3200000
open Go.RowKit
set_option linter.unusedVariables false
variable {L:List Ex}{lo n c C D:Nat}{a:Option jD}{w:Z}
structure Trs (w:Z) (a:Option jD) (n c:Nat) (Es:List Ex):Prop where
 len:Es.length=n
 small:n<=1048576
 cells:∀j,(h:j<Es.length)->∃b off,a=X ⟨b,off,T⟩/\b<w.heap.size/\w.cell? ⟨b,off+j,T⟩=X Es[j].val
theorem Trs.below {w':Z}{B:Nat}(h:Trs w a n c L)(d:Below B w w')(hB:w.heap.size<=B):Trs w' a n c L:=
 ⟨h.len,h.small,fun j g=>by
  obtain⟨b,f,i,k,l⟩:=h.cells j g;exact⟨b,f,i,zE k d.size,(d.cell (p:=⟨b,f+j,T⟩) (by show b<B;omega)).trans l⟩⟩
theorem Trs.get {n c:Nat}(h:Trs w a n c L){k:Nat}{e:Ex}(f:L[k]? =X e):∃b d,a=X ⟨b,d,T⟩/\b<w.heap.size/\w.cell? ⟨b,d+k,T⟩=X e.val/\k<n:=by
 obtain⟨h1,h2⟩:=zd.1 f;obtain⟨b,d,g,i,j⟩:=h.cells k h1;exact⟨b,d,g,i,by rw[j,h2],by rw[<-h.len];exact h1⟩
inductive MkT (Es:List Ex) (i:Nat) (x:Nd) (an:Option jD) (nn cn:Nat):Ex->Prop
 |int (ho:x.op=1):MkT Es i x an nn cn (.int i x.num)
 |text (ho:x.op=2):MkT Es i x an nn cn (.text i x.text)
 |bool (ho:x.op=3):MkT Es i x an nn cn (.bool i (decide (x.num=1)))
 |set (ho:x.op=4):MkT Es i x an nn cn (.set i an nn cn x.names)
 |name (ho:x.op=5):MkT Es i x an nn cn (.name i x.text)
 |attr (ho:x.op=6):MkT Es i x an nn cn (.attr i x.num)
 |lett (ho:x.op=7):MkT Es i x an nn cn (.lett i x.num)
 |un {k:Nat} {e:Ex} (ho: 8<=x.op/\x.op<=10) (hk:x.kids=[(k:Int)]) (h1:Es[k]? =X e):MkT Es i x an nn cn (.un i x.op e)
 |bin {k l:Nat} {e f:Ex} (ho: 11<=x.op/\x.op<=26) (hk:x.kids=[(k:Int),(l:Int)]) (h1:Es[k]? =X e) (h2:Es[l]? =X f):MkT Es i x an nn cn (.bin i x.op e f)
 |ite {k l m:Nat} {e f g:Ex} (ho:x.op=27) (hk:x.kids=[(k:Int),(l:Int),(m:Int)]) (h1:Es[k]? =X e) (h2:Es[l]? =X f) (h3:Es[m]? =X g):MkT Es i x an nn cn (.ite i e f g)
theorem ZA (i:Nat)(op num:Int)(text:ByteArray)(an:Option jD)(nn cn:Nat)(b:Option jD)(d f:Nat)(a:Option jD)(m c:Nat)(w:Z)(g:op=1):
  jE j4 110 #[jG #[U V op,U V num,Q text,Y an nn cn,Y b d f],U V i,Y a m c] w fun h w'=>h=jH (jB 220 (jG #[U V i,U V num]))/\Ah w w':=by
 subst g;have j:=Av w (Dw 1 num text an nn cn b d f);go_enter func110,ntmps110
 go_wp2
 go_ret
 exact⟨rfl,j⟩
theorem XA (i:Nat)(op num:Int)(text:ByteArray)(an:Option jD)(nn cn:Nat)(b:Option jD)(d f:Nat)(a:Option jD)(m c:Nat)(w:Z)(g:op=2):
  jE j4 110 #[jG #[U V op,U V num,Q text,Y an nn cn,Y b d f],U V i,Y a m c] w fun h w'=>h=jH (jB 222 (jG #[U V i,Q text]))/\Ah w w':=by
 subst g;have j:=Av w (Dw 2 num text an nn cn b d f);go_enter func110,ntmps110
 go_wp2
 go_ret
 exact⟨rfl,j⟩
theorem XB (i:Nat)(op num:Int)(text:ByteArray)(an:Option jD)(nn cn:Nat)(d:Option jD)(f g:Nat)(a:Option jD)(m c:Nat)(w:Z)(j:op=3):
  jE j4 110 #[jG #[U V op,U V num,Q text,Y an nn cn,Y d f g],U V i,Y a m c] w fun k w'=>k=jH (jB 177 (jG #[U V i,.bool (decide (num=1))]))/\Ah w w':=by
 subst j;have h:=Av w (Dw 3 num text an nn cn d f g);by_cases b:num=1
 ·have l:(num==1)=true:=zM.2 b;rw[zL b];clear b;go_enter func110,ntmps110
  go_wp2
  go_ret
  exact⟨rfl,h⟩
 ·have l:(num==1)=jC:=zA.2 b;rw[zJ b];clear b;go_enter func110,ntmps110
  go_wp2
  go_ret
  exact⟨rfl,h⟩
theorem ZB (i:Nat)(op num:Int)(text:ByteArray)(an:Option jD)(nn cn:Nat)(b:Option jD)(d f:Nat)(a:Option jD)(m c:Nat)(w:Z)(g:op=4):
  jE j4 110 #[jG #[U V op,U V num,Q text,Y an nn cn,Y b d f],U V i,Y a m c] w fun h w'=>h=jH (jB 218 (jG #[U V i,Y an nn cn]))/\Ah w w':=by
 subst g;have j:=Av w (Dw 4 num text an nn cn b d f);go_enter func110,ntmps110
 go_wp2
 go_ret
 exact⟨rfl,j⟩
theorem XC (i:Nat)(op num:Int)(text:ByteArray)(an:Option jD)(nn cn:Nat)(b:Option jD)(d f:Nat)(a:Option jD)(m c:Nat)(w:Z)(g:op=5):
  jE j4 110 #[jG #[U V op,U V num,Q text,Y an nn cn,Y b d f],U V i,Y a m c] w fun h w'=>h=jH (jB 224 (jG #[U V i,Q text]))/\Ah w w':=by
 subst g;have j:=Av w (Dw 5 num text an nn cn b d f);go_enter func110,ntmps110
 go_wp2
 go_ret
 exact⟨rfl,j⟩
theorem XE (i:Nat)(op num:Int)(text:ByteArray)(an:Option jD)(nn cn:Nat)(b:Option jD)(d f:Nat)(a:Option jD)(m c:Nat)(w:Z)(g:op=6):
  jE j4 110 #[jG #[U V op,U V num,Q text,Y an nn cn,Y b d f],U V i,Y a m c] w fun h w'=>h=jH (jB 225 (jG #[U V i,U V num]))/\Ah w w':=by
 subst g;have j:=Av w (Dw 6 num text an nn cn b d f);go_enter func110,ntmps110
 go_wp2
 go_ret
 exact⟨rfl,j⟩
theorem XF (i:Nat)(op num:Int)(text:ByteArray)(an:Option jD)(nn cn:Nat)(b:Option jD)(d f:Nat)(a:Option jD)(m c:Nat)(w:Z)(g:op=7):
  jE j4 110 #[jG #[U V op,U V num,Q text,Y an nn cn,Y b d f],U V i,Y a m c] w fun h w'=>h=jH (jB 173 (jG #[U V i,U V num]))/\Ah w w':=by
 subst g;have j:=Av w (Dw 7 num text an nn cn b d f);go_enter func110,ntmps110
 go_wp2
 go_ret
 exact⟨rfl,j⟩
theorem AcB (i:Nat)(k:Nat)(l:jJ)(n:R)(op num:Int)(text:ByteArray)(an:Option jD)(nn cn:Nat)(o:Option jD)(f b:Nat)(a:Option jD)(m c:Nat)(w:Z)(q: 8<=op/\op<=10)(g:AK w o f b [(k:Int)])(h p:Nat)(r:a=X ⟨h,p,T⟩)(v:h<w.heap.size)(x:w.cell? ⟨h,p+k,T⟩=X (jB l n))(y:k<m):
  jE j4 110 #[jG #[U V op,U V num,Q text,Y an nn cn,Y o f b],U V i,Y a m c] w fun s w'=>s=jH (jB 166 (jG #[U V i,U V op,jB l n]))/\Ah w w':=by
 obtain⟨j,ok,rfl,z,t⟩:=g.cells 0 (by simp);obtain rfl:f=1:=g.len.symm;simp only[zt,zX]at t;subst r;have A:(k:Int)<(m:Int):=by omega
 clear g;have u:op=8\/op=9\/op=10:=by omega
 clear q;rcases u with rfl|rfl|rfl
 ·have d:=Av w (.cells #[U V 8,U V num,Q text,Y an nn cn,Y (X ⟨j,ok,T⟩) 1 b] 85);go_enter func110,ntmps110
  go_wp2
  go_region
  all_goals (go_wp2;go_ret;exact⟨rfl,d.drew⟩)
 ·have d:=Av w (.cells #[U V 9,U V num,Q text,Y an nn cn,Y (X ⟨j,ok,T⟩) 1 b] 85);go_enter func110,ntmps110
  go_wp2
  go_region
  all_goals (go_wp2;go_ret;exact⟨rfl,d.drew⟩)
 ·have d:=Av w (.cells #[U V 10,U V num,Q text,Y an nn cn,Y (X ⟨j,ok,T⟩) 1 b] 85);go_enter func110,ntmps110
  go_wp2
  go_region
  all_goals (go_wp2;go_ret;exact⟨rfl,d.drew⟩)
theorem ZC (i:Nat)(k:Nat)(n:jJ)(o:R)(l:Nat)(p:jJ)(ul:R)(op num:Int)(text:ByteArray)(an:Option jD)(nn cn:Nat)(q:Option jD)(f g:Nat)(a:Option jD)(m c:Nat)(w:Z)(r: 11<=op/\op<=26)(b:AK w q f g [(k:Int),(l:Int)])(d h:Nat)(s:a=X ⟨d,h,T⟩)(t:d<w.heap.size)(y:w.cell? ⟨d,h+k,T⟩=X (jB n o))(z:k<m)(A:w.cell? ⟨d,h+l,T⟩=X (jB p ul))(t:l<m):
  jE j4 110 #[jG #[U V op,U V num,Q text,Y an nn cn,Y q f g],U V i,Y a m c] w fun u w'=>u=jH (jB 168 (jG #[U V i,U V op,jB n o,jB p ul]))/\Ah w w':=by
 obtain⟨j,ok,rfl,B,v⟩:=b.cells 0 (by simp);have C:w.cell? ⟨j,ok+1,T⟩=X (U V l):=by
  obtain⟨b2,o2,e2,_,c2⟩:=b.cells 1 (by simp);obtain⟨rfl,rfl⟩:j=b2/\ok=o2:=by simpa using e2
  simpa using c2
 obtain rfl:f=2:=b.len.symm;simp only[zt,zX]at v;subst s;have D:(k:Int)<(m:Int):=by omega
 have E:(l:Int)<(m:Int):=by omega
 clear b;have s1:(op==1)=jC:=zA.2 (by omega);have s2:(op==2)=jC:=zA.2 (by omega);have F:(op==3)=jC:=zA.2 (by omega);have G:(op==4)=jC:=zA.2 (by omega);have s5:(op==5)=jC:=zA.2 (by omega);have H:(op==6)=jC:=zA.2 (by omega);have I:(op==7)=jC:=zA.2 (by omega);have J:(op==8)=jC:=zA.2 (by omega);have K:(op==9)=jC:=zA.2 (by omega);have L:(op==10)=jC:=zA.2 (by omega);have M:(op==27)=jC:=zA.2 (by omega);clear r;have x:=Av w (.cells #[U V op,U V num,Q text,Y an nn cn,Y (X ⟨j,ok,T⟩) 2 g] 85);go_enter func110,ntmps110
 go_wp2
 go_region
 all_goals (go_wp2;go_ret;exact⟨rfl,x.drew⟩)
theorem ZD (i:Nat)(k:Nat)(n:jJ)(o:R)(l:Nat)(p:jJ)(ul:R)(q:Nat)(r:jJ)(s:R)(op num:Int)(text:ByteArray)(an:Option jD)(nn cn:Nat)(t:Option jD)(h j:Nat)(a:Option jD)(m c:Nat)(w:Z)(u:op=27)(b:AK w t h j [(k:Int),(l:Int),(q:Int)])(d g:Nat)(v:a=X ⟨d,g,T⟩)(x:d<w.heap.size)(B:w.cell? ⟨d,g+k,T⟩=X (jB n o))(C:k<m)(D:w.cell? ⟨d,g+l,T⟩=X (jB p ul))(x:l<m)(E:w.cell? ⟨d,g+q,T⟩=X (jB r s))(hq:q<m):
  jE j4 110 #[jG #[U V op,U V num,Q text,Y an nn cn,Y t h j],U V i,Y a m c] w fun y w'=>y=jH (jB 213 (jG #[U V i,jB n o,jB p ul,jB r s]))/\Ah w w':=by
 obtain⟨f,ok,rfl,F,z⟩:=b.cells 0 (by simp);have G:w.cell? ⟨f,ok+1,T⟩=X (U V l):=by
  obtain⟨b2,o2,e2,_,c2⟩:=b.cells 1 (by simp);obtain⟨rfl,rfl⟩:f=b2/\ok=o2:=by simpa using e2
  simpa using c2
 have H:w.cell? ⟨f,ok+2,T⟩=X (U V q):=by
  obtain⟨b2,o2,e2,_,c2⟩:=b.cells 2 (by simp);obtain⟨rfl,rfl⟩:f=b2/\ok=o2:=by simpa using e2
  simpa using c2
 obtain rfl:h=3:=b.len.symm;simp only[zt,zX]at z;subst v;have I:(k:Int)<(m:Int):=by omega
 have J:(l:Int)<(m:Int):=by omega
 have K:(q:Int)<(m:Int):=by omega
 clear b;subst u;have A:=Av w (.cells #[U V 27,U V num,Q text,Y an nn cn,Y (X ⟨f,ok,T⟩) 3 j] 85);go_enter func110,ntmps110
 go_wp2
 go_region
 all_goals (go_wp2;go_ret;exact⟨rfl,A.drew⟩)
theorem ZE {Es:List Ex}{i:Nat}{x:Nd}{an:Option jD}{nn cn:Nat}{B:Option jD}{a:Option jD}{m c:Nat}{e:Ex}(hm:MkT Es i x an nn cn e)(n:AK w B C D x.kids)(o:Trs w a m c Es):
  jE j4 110 #[jG #[U V x.op,U V x.num,Q x.text,Y an nn cn,Y B C D],U V i,Y a m c] w fun E w'=>E=jH e.val/\Ah w w':=by
 cases hm with
 |int b=>exact ZA i _ _ _ _ _ _ _ _ _ _ _ _ w b
 |text b=>exact XA i _ _ _ _ _ _ _ _ _ _ _ _ w b
 |bool b=>exact XB i _ _ _ _ _ _ _ _ _ _ _ _ w b
 |set b=>exact ZB i _ _ _ _ _ _ _ _ _ _ _ _ w b
 |name b=>exact XC i _ _ _ _ _ _ _ _ _ _ _ _ w b
 |attr b=>exact XE i _ _ _ _ _ _ _ _ _ _ _ _ w b
 |lett b=>exact XF i _ _ _ _ _ _ _ _ _ _ _ _ w b
 |@un k e b p h1=>
  rw[p]at n;obtain⟨d,h,j,r,c1,l1⟩:=o.get h1;obtain⟨s,t,e1⟩:=e.form;rw[e1]at c1;simp only[Ex.val,e1];exact AcB i k s t _ _ _ _ _ _ _ _ _ _ _ _ w b n d h j r c1 l1
 |@bin k l e f b p h1 h2=>
  rw[p]at n;obtain⟨d,h,j,r,c1,l1⟩:=o.get h1;obtain⟨b1,u,v,F,c2,y⟩:=o.get h2;obtain⟨rfl,rfl⟩:d=b1/\h=u:=by have:=j.symm.trans v;simpa using this
  obtain⟨s,t,e1⟩:=e.form;obtain⟨z,A,e2⟩:=f.form;rw[e1]at c1;rw[e2]at c2;simp only[Ex.val,e1,e2];exact ZC i k s t l z A _ _ _ _ _ _ _ _ _ _ _ _ w b n d h j r c1 l1 c2 y
 |@ite k l q e f g b p h1 h2 h3=>
  rw[p]at n;obtain⟨d,h,j,r,c1,l1⟩:=o.get h1;obtain⟨b1,u,v,F,c2,y⟩:=o.get h2;obtain⟨rfl,rfl⟩:d=b1/\h=u:=by have:=j.symm.trans v;simpa using this
  obtain⟨b1,u,G,K,c3,H⟩:=o.get h3;obtain⟨rfl,rfl⟩:d=b1/\h=u:=by have:=j.symm.trans G;simpa using this
  obtain⟨s,t,e1⟩:=e.form;obtain⟨z,A,e2⟩:=f.form;obtain⟨I,J,e3⟩:=g.form;rw[e1]at c1;rw[e2]at c2;rw[e3]at c3;simp only[Ex.val,e1,e2,e3];exact ZD i k s t l z A q I J _ _ _ _ _ _ _ _ _ _ _ _ w b n d h j r c1 l1 c2 y c3 H
set_option maxHeartbeats 1600000
structure Abd (w:Z) (lo:Nat) (v:R) (N:List Nd) (P:Ex->Prop) (Es:List Ex):Prop where
 own:w.ownsRow lo 106 1 v Es.length (Es.map Ex.val)
 tree:∀j,(h:j<Es.length)->Cg N j Es[j]
 fit:∀e∈Es,P e
theorem Abd.trs {v:R}{N:List Nd}{P:Ex->Prop}{Es:List Ex}(h:Abd w lo v N P Es)(hs:Es.length<=1048576):∃a c,v=Y a Es.length c/\Trs w a Es.length c Es:=by
 obtain⟨a,c,rfl,b⟩:=Ae h.own;refine⟨a,c,rfl,rfl,hs,fun j d=>?_⟩;obtain⟨g,rfl,hg,f⟩:=b (by omega);refine⟨g,0,rfl,(h.own.lt g rfl).2,?_⟩;have:=f j Es[j].val (by simp[d]);simpa using this
theorem Afb:(j4.info? 106).map (fun i=>(i.zero,i.size,i.bytes))=X (X .nilIface,1,16):=by kernel_rfl
def Aar (w0:Z) (N:List Nd) (P:Ex->Prop):Prop:=
 ∀(k:Nat) (x:Nd) (an:Option jD) (nn cn:Nat) (Es:List Ex),N[k]? =X x->Es.length=k->(∀j,(h:j<Es.length)->Cg N j Es[j])->(∀e∈Es,P e)->Ap w0 an nn cn x.names->∃e,MkT Es k x an nn cn e/\Cg N k e/\P e
theorem XG (a:Option jD)(n c:Nat)(N:List Nd)(w0 w:Z)(h:GY w0 a n c N)(F:Ah w0 w)(P:Ex->Prop)(G:Aar w0 N P):
  jE j4 59 #[Y a n c] w fun H w'=>(∃v Es,H=jH v/\Es.length=n/\Abd w' w.heap.size v N P Es)/\Ah w w':=by
 have aF:=h.small;have ak:=Ab h.len;have al:=Ab G;clear G;obtain⟨ao,ap,aq,ar,au⟩:=info_parts Afb;go_enter func59,ntmps59
 go_wp2_with fail
 go_loopw [3,8] (fun v i wr=>∃ (k:Nat) (Es:List Ex),k<=n/\i=U V k/\Hid (Es.length=k)/\Abd wr w.heap.size v N P Es/\Ah w wr) (fun _ i _=>n-(intOf i).toNat)
 case atStart=>exact⟨0,[],by omega,rfl,rfl,⟨World.ownsRow_nil _ _ _ _,fun j s=>absurd s (by simp),fun e he=>(by cases he)⟩,BRN⟩
 case round=>
  obtain⟨k,Es,aG,rfl,l,d,r⟩:=hrel;by_cases y:k<n
  ·have aH:(k:Int)<(n:Int):=by omega
   have z:k<N.length:=by rw[Aa ak];exact y
   have g:=F.trans (r.mono F.size);obtain⟨b,o,rfl,m,an,nn,cn,A,B,C,I,d1,d2,d3,d4,J,K⟩:=h.cells k z;have av:=(g.cell (p:=⟨b,o+k*5,T⟩) m).trans I;have c1:=(g.cell (p:=⟨b,o+k*5+1,T⟩) m).trans d1;have c2:=(g.cell (p:=⟨b,o+k*5+2,T⟩) m).trans d2;have c3:=(g.cell (p:=⟨b,o+k*5+3,T⟩) m).trans d3;have c4:=(g.cell (p:=⟨b,o+k*5+4,T⟩) m).trans d4;have D:=K.below g NLN;clear I d1 d2 d3 d4 K g;have hx:N[k]? =X N[k]:=zG z;obtain⟨e,hm,L,M⟩:=Aa al k _ an nn cn Es hx (Aa l) d.tree d.fit J;have O:=Ab y;have aw:Es.length<=1048576:=by rw[Aa l];omega
   obtain⟨ax,ay,rfl,S⟩:=d.trs aw;have az:=Ab (fun j (s:j<(Es++[e]).length)=>show Cg N j (Es++[e])[j] by
    by_cases W:j<Es.length
    ·rw[zo W];exact d.tree j W
    ·have:j=Es.length:=by simp at s;omega
     subst this;simp only[List.getElem_concat_length];rw[Aa l];exact L)
   have aA:=Ab (fun f (hf:f∈Es++[e])=>show P f by
    rcases zN.1 hf with hf|hf
    ·exact d.fit f hf
    ·simp at hf;subst hf;exact M)
   have aa:=d.own;generalize N[k]=x at av c1 c2 c3 c4 D hm;have ab:=r.alloc r.size (Dw x.op x.num x.text an nn cn A B C);have ac:=Av wr (Dw x.op x.num x.text an nn cn A B C);have ad:=aa.alloc (Dw x.op x.num x.text an nn cn A B C);have ae:=Ab (ZE hm (D.below ac NLN) (S.below ac NLN));obtain⟨t,u,hv⟩:=e.form;rw[hv]at ae;have aB:=Ab hv;have aC:=l;clear D J hm L M S aa d hx z y hv m l;go_wp2_with fail
   refine(Aa ae).mono ?_;rintro H af ⟨rfl,ag⟩;have ah:af.ownsRow w.heap.size 106 1 (Y ax Es.length ay) Es.length (Es.map Ex.val):=Ak ad (fun q hq=>ag.block q (ad.lt q hq).2);have E:=ab.trans (ag.mono ab.size);have aI:=E.size;dsimp only;go_wp2_with (at_builtin;refine wpList_append_own _ rfl _ _ 111 rfl w.heap.size 106 ao .nilIface 1 16 underlying111 ap aq ar au rfl (by decide) _ _ _ rfl (World.ownsRow.alloc ah _) ⟨af.heap.size,0,T⟩ 1 1 [jB t u] rfl rfl ?d1 ?d2 ?d3 ?d4 ?d5 ?_)
   case d1=>exact A5 _ _ _ _ (by simp)
   case d2=>intro u ai;simp at ai;subst ai;rfl
   case d3=>unfold maxLen;omega
   case d4=>omega
   case d5=>simp;omega
   intro aJ aK aD aj _;have aE:=(E.alloc E.size (.cells #[jB t u] 106)).grown aj (by simp;omega) (fun q hq=>(ah.lt q hq).1);clear aj;go_wp2_with fail
   go_roundw
   case rel=>exact⟨k+1,Es++[e],Aa O,by go_num,Ab (by simp[Aa aC]),⟨by rw[zR,zC];simp only[List.map_cons,List.map_nil,Aa aB];exact aD,Aa az,Aa aA⟩,aE⟩
   case measure=>have:=Aa O;simp[intOf];omega
  ·have e:k=n:=by omega
   subst e;go_wp2_with fail
   go_ret
   exact⟨⟨_,Es,rfl,Aa l,d⟩,r⟩
set_option maxHeartbeats 3200000
theorem Jz {hi n c:Nat}{e:jJ}{size:Nat}{b:List R}(h:w.ownsRow lo e size (Y a n c) n b)(d:∀q,(Y a n c).ownBlock=X q->q<hi):
  ∃l u,w.ownsRow l e size (Y a n c) n b/\(∀q,(Y a n c).ownBlock=X q->q<u)/\((l=0/\u=0)\/(lo<=l/\u<=hi))/\∀q,(Y a n c).ownBlock≠X q->q<l\/u<=q:=by
 rcases h.2 with⟨hv,h0⟩|⟨g,cap,f,hv,i,hg,h4⟩
 ·refine⟨0,0,⟨h.1,.inl ⟨hv,h0⟩⟩,fun q hq=>?_,.inl ⟨rfl,rfl⟩,fun q _=> .inr (zD _)⟩;rw[hv]at hq;cases hq
 ·have j:=d g (by rw[hv];rfl);refine⟨g,g+1,⟨h.1,.inr ⟨g,cap,f,hv,NLN,hg,h4⟩⟩,fun q hq=>?_,.inr ⟨i,j⟩,fun q hq=>?_⟩
  ·rw[hv]at hq;have:g=q:=by simpa[ja]using hq
   omega
  ·have:g≠q:=fun e=>hq (by rw[hv,<-e];rfl);omega
theorem Sr (lo hi:Nat)(a:Option jD)(n c:Nat)(P:List Nd)(o r:List R)(k:Nat)(w:Z)(h:Ci w lo (Y a n c) P o r)(aw:InN (Y a n c) o r hi)(bv:hi<=w.heap.size)(aM:P.length=n)(ok:∀x∈P,okN x)(aN:Ee k P P.length<=17592186044416):
  jE j4 34 #[Y a n c,U V k] w fun e w'=>e=jH (U V (Ee k P P.length:Nat))/\Ci w' lo (Y a n c) (UH k P) o r/\As lo hi w w'/\Ad2 w w' (Y a n c) o r:=by
 have aa:=Ab aM;have a6:=Ab ok;have a7:=Ab aN;have bw:n<=17592186044416:=by
  have:Ee k P P.length=k+3*P.length+((P.take P.length).map Pc).sum:=rfl;omega
 clear aM ok aN;go_enter func34,ntmps34
 go_wp2
 go_loopw [1,5] (fun q i wr=>∃ (j:Nat) (z:Int),j<=n/\i=U V j/\q=U V z/\z=((Ee k P j:Nat):Int)/\Ci wr lo (Y a n c) (Gc k P j) o r/\As lo hi w wr/\Ad2 w wr (Y a n c) o r) (fun _ i _=>n-(intOf i).toNat)
 case atStart=>exact⟨0,k,zD _,rfl,rfl,by rw[Wt],by rw[Ab0];exact h,As.refl _ _ _,fun _ _ _ _ _=>rfl⟩
 case round=>
  obtain⟨j,z,bx,rfl,rfl,J,d,ag,aO⟩:=hrel;by_cases aP:j<n
  ·have ah:j<P.length:=by rw[Aa aa];exact aP
   have aQ:(Gc k P j).length=P.length:=Ad0 k P j (by omega);have t:j<(Gc k P j).length:=by omega
   have B:j<o.length:=by rw[d.len];exact t
   have C:j<r.length:=by rw[d.lenk];exact t
   have a8:=Ql k P j ah;have a9:=Wu k P (j+1) (by omega);have ba:=Aa a7;have bz:(j:Int)<(n:Int):=by omega
   have bA: 0<=z:=by omega
   obtain⟨g,hg⟩:∃g,a=X ⟨g,0,T⟩:=by
    rcases d.own.2 with⟨_,h0⟩|⟨g,cap,bB,hv,_⟩
    ·omega
    ·simp only[Value.slice.injEq]at hv;exact⟨g,hv.1⟩
   subst hg;have bb:=(d.lts.1 g rfl).1;have bc:g<hi:=aw.1 g rfl;have bC:=(d.lts.1 g rfl).2;have aR:=Agu k P j ah t;have K:=UG (Gc k P j) o r j t B C;have ai:=K 0 (by decide);have aj:=K 1 (by decide);have x2:=K 2 (by decide);have x3:=K 3 (by decide);have ab:=K 4 (by decide);simp only[RQ,zX,yG,z6]at ai aj x2 x3 ab;have ac:wr.ownsRow lo 85 5 (Y (X ⟨g,0,T⟩) n c) n (Og (Gc k P j) o r):=by have:=d.own;rwa[aQ,Aa aa]at this
   have D:=d.names j t B;have E:=d.kids j t C;rw[aR]at ai aj x2 D E;obtain⟨an,cn,ak⟩:=Bo D;obtain⟨y,A,al⟩:=Bo E;obtain⟨m,hm⟩:∃m,m=P[j].names.length:=⟨_,rfl⟩
   obtain⟨p,hp⟩:∃p,p=P[j].kids.length:=⟨_,rfl⟩
   have bd:Pc P[j]=m+p:=by rw[Pc,hm,hp]
   have aS:=Aa a6 P[j] (zH ah);rw[<-hm]at ak D;rw[<-hp]at al E;have bD:z+3+m+p<=17592186044416:=by omega
   have bf:=Ab (show z+3+m+p=((Ee k P (j+1):Nat):Int) by omega);have far:∀q,o[j].ownBlock=X q->(Y (X ⟨g,0,T⟩) n c).ownBlock≠X q:=Ai (d.names j t B) d.own (by decide);have ax:∀q,r[j].ownBlock=X q->(Y (X ⟨g,0,T⟩) n c).ownBlock≠X q:=Ai (d.kids j t C) d.own (by decide);rw[ak]at x3 D;rw[al]at ab E;have aT:=(ac.cellAt (j*5) (by omega)).trans ai;have c1:=(ac.cellAt (j*5+1) (by omega)).trans aj;have bg:=fun i=>ac.frozenAt i;have ao:=((ac.stored (j*5) (U V z)).1.stored (j*5+1) (U V (z+1))).1;have ay:=(As.setCell (lo:=g) (hi:=g+1) wr ⟨g,j*5,T⟩ (U V z) NLN (yB _)).trans (As.setCell (lo:=g) (hi:=g+1) _ ⟨g,j*5+1,T⟩ (U V (z+1)) NLN (yB _));have bh:=Ab J;have aU:=Ab aP;have az:=Ab hm;have L:=Ab ak;have F:=Ab al;have aV:=Ab hp;have bi:=Ab aS;have b:=Ab d;generalize P[j].op=k0 at aT;generalize P[j].num=bE at c1;generalize P[j].text=bj at x2;obtain⟨nm,aA⟩:∃nm,nm=P[j].names:=⟨_,rfl⟩
   rw[<-aA]at D;have aW:=Ab aA;obtain⟨ap,aB⟩:∃ap,ap=P[j].kids:=⟨_,rfl⟩
   rw[<-aB]at E;have bk:=Ab aB;clear J a8 a9 ba hm ak al hp bd aS d ac ai aj aA aB aR K;go_wp2_with fail
   generalize (wr.setCell ⟨g,j*5,T⟩ (U V z)).setCell ⟨g,j*5+1,T⟩ (U V (z+1))=bl at ao ay|-;clear aT c1 bg;refine(BN (z+1+1) bl (by omega) (by omega)).mono ?_;rintro e M ⟨rfl,aC⟩;have aq:=Af (w':=M) ao (fun q hq=>aC.block q (ao.lt q hq).2);have aX:=ay.trans (As.of_below (lo:=g) (hi:=g+1) aC NLN);clear ao ay aC;have c2:M.cell? ⟨g,j*5+2,T⟩=X (Q bj):=(aq.cellAt (j*5+2) (by omega)).trans (by rw[zx (by omega),zx (by omega)];exact x2);have bm:=fun i=>aq.frozenAt i;have N:=(aq.stored (j*5+2) (Q (Br (z+1+1).toNat))).1;have d3:(M.setCell ⟨g,j*5+2,T⟩ (Q (Br (z+1+1).toNat))).cell? ⟨g,j*5+3,T⟩=X (Y an m cn):=(N.cellAt (j*5+3) (by omega)).trans (by rw[zx (by omega),zx (by omega),zx (by omega)];exact x3);have d4:(M.setCell ⟨g,j*5+2,T⟩ (Q (Br (z+1+1).toNat))).cell? ⟨g,j*5+4,T⟩=X (Y y p A):=(N.cellAt (j*5+4) (by omega)).trans (by rw[zx (by omega),zx (by omega),zx (by omega)];exact ab);have f:=aX.trans (As.setCell (lo:=g) (hi:=g+1) M ⟨g,j*5+2,T⟩ (Q (Br (z+1+1).toNat)) NLN (yB _));clear aX aq;go_wp2_with fail
   generalize M.setCell ⟨g,j*5+2,T⟩ (Q (Br (z+1+1).toNat))=aD at N d3 d4 f|-;clear c2 bm;have aY:∀q,(Y an m cn).ownBlock=X q->q≠g:=fun q hq e=>by
    subst e;exact far q (by rw[Aa L];exact hq) rfl
   have ar:=Af (w':=aD) D (fun q hq=>f.block q (D.lt q hq).2 (by have:=aY q hq;omega));obtain⟨l,u,aZ,a0,O⟩:=Agv (hi:=hi) ar (fun s hs=>by have:=(Aa bi).2.2 s (by rw[<-Aa aW];exact hs);exact this) (by rw[Aa aW,Aa az]) (fun q hq=>aw.2.1 j B q (by rw[Aa L];exact hq)) (by have:=f.size;have:=ag.size;omega);refine(Pd l u _ _ _ _ (z+1+1+1) aD aZ (by omega) (by omega)).mono ?_;rintro e S ⟨rfl,aE,v⟩;have au:=Af (w':=aD) E (fun q hq=>f.block q (E.lt q hq).2 (by
    have:q≠g:=fun e=>by
     subst e;exact ax q (by rw[Aa F];exact hq) rfl
    omega))
   have a1:∀q,(Y y p A).ownBlock=X q->q<l\/u<=q:=fun q hq=>O q (fun e=>Ai au ar (by decide) q hq e);have K5:=Af (w':=S) au (fun q hq=>v.block q (au.lt q hq).2 (a1 q hq));have av:=Af (w':=S) N (fun q hq=>v.block q (N.lt q hq).2 (O q (fun e=>aY q e (by have:g=q:=(by simpa[ja]using hq);exact this.symm))));have d5:S.cell? ⟨g,j*5+4,T⟩=X (Y y p A):=(av.cellAt (j*5+4) (by omega)).trans (by rw[zx (by omega),zx (by omega),zx (by omega)];exact ab);obtain⟨G,H,a2,bn,a3,W⟩:∃G H,S.ownsRow G 3 1 (Y y p A) p (Aq ap)/\(∀q,(Y y p A).ownBlock=X q->q<H)/\((G=0/\H=0)\/(lo<=G/\H<=hi))/\∀q,(Y y p A).ownBlock≠X q->q<G\/H<=q:=Jz K5 (fun q hq=>aw.2.2 j C q (by rw[Aa F];exact hq));clear d3 d4;go_wp2_with fail
   refine(Ma G H y p A ap (z+1+1+1+m) S a2 bn (by rw[Aa bk,Aa aV]) (by omega) (by omega)).mono ?_;rintro e a4 ⟨rfl,aF,I⟩;have bo:g<G\/H<=g:=W g (fun e=>ax g (by rw[Aa F];exact e) rfl);have bp:Hid (Ci a4 lo (Y (X ⟨g,0,T⟩) n c) (Gc k P (j+1)) o r):=Ab (by
    have J:=Aa bh;have bq:Gc k P (j+1)=(Gc k P j).set j (mkD (Ee k P j) P[j].names.length P[j].kids.length):=(Ad1 k P j ah).symm;rw[bq];refine(Aa b).upd j t B C _ ?_ ?_ ?_ ?_ ?_
    ·rw[aQ,Aa aa,AaD _ _ _ _ t (Aa b).len (Aa b).lenk];have e0:(mkD (Ee k P j) P[j].names.length P[j].kids.length).op=z:=J.symm;have e1:(mkD (Ee k P j) P[j].names.length P[j].kids.length).num=z+1:=by show((Ee k P j+1 :Nat):Int)=_;omega
     have e2:(mkD (Ee k P j) P[j].names.length P[j].kids.length).text=Br (z+1+1).toNat:=by show Br (Ee k P j+2)=_;rw[show(z+1+1).toNat=Ee k P j+2 by omega]
     rw[e0,e1,e2];refine Af av (fun q hq=>?_);have eq:g=q:=by simpa[ja]using hq
     subst eq;exact I.block g (av.lt g rfl).2 bo
    ·have e3:(mkD (Ee k P j) P[j].names.length P[j].kids.length).names=DD (z+1+1+1).toNat m:=by show DD (Ee k P j+3) P[j].names.length=_;rw[Aa az,show(z+1+1+1).toNat=Ee k P j+3 by omega]
     rw[e3,Aa L];have br:(DD (z+1+1+1).toNat m).length=m:=by simp[DD]
     rw[br];have aG:S.ownsRow lo 9 1 (Y an m cn) m ((DD (z+1+1+1).toNat m).map Q):=by
      refine⟨aE.own.1,?_⟩;rcases aE.own.2 with h2|⟨g2,aH,aI,ad,h3,h4⟩
      ·exact .inl h2
      ·refine .inr ⟨g2,aH,aI,ad,?_,h4⟩;have:=(ar.lt g2 (by rw[ad];rfl)).1;exact this
     exact Af aG (fun q hq=>I.block q (aG.lt q hq).2 (W q (fun e=>Ai aG K5 (by decide) q hq e)))
    ·have e4:(mkD (Ee k P j) P[j].names.length P[j].kids.length).kids=BY (z+1+1+1+m).toNat p:=by show BY (Ee k P j+3+P[j].names.length) P[j].kids.length=_;rw[Aa az,Aa aV,show(z+1+1+1+(P[j].names.length:Int)).toNat=Ee k P j+3+P[j].names.length by omega]
     rw[e4,Aa F,CL];refine⟨aF.1,?_⟩;rcases aF.2 with h2|⟨g2,aH,aI,ad,h3,h4⟩
     ·exact .inl h2
     ·refine .inr ⟨g2,aH,aI,ad,?_,h4⟩;exact(K5.lt g2 (by rw[ad];rfl)).1
    ·intro i hi' bs q hq;have ae:i<(Gc k P j).length:=by rw[<-(Aa b).len];exact hi'
     have aJ:(Y an m cn).ownBlock≠X q:=fun e=>by
      rw[<-Aa L]at e;by_cases aK:i<j
      ·exact(Aa b).apart i j aK B q hq e
      ·exact(Aa b).apart j i (by omega) hi' q e hq
     have aL:(Y y p A).ownBlock≠X q:=fun e=>by
      rw[<-Aa F]at e;exact Ai ((Aa b).names i ae hi') ((Aa b).kids j t C) (by decide) q hq e
     have a5:q≠g:=fun e=>by subst e;exact Ai ((Aa b).names i ae hi') (Aa b).own (by decide) q hq rfl
     have af:=((Aa b).lts.2.1 i hi' q hq).2;exact(I.block q (by have:=f.size;have:=v.size;omega) (W q aL)).trans ((v.block q (by have:=f.size;omega) (O q aJ)).trans (f.block q af (by omega)))
    ·intro i hi' bs q hq;have ae:i<(Gc k P j).length:=by rw[<-(Aa b).lenk];exact hi'
     have aL:(Y y p A).ownBlock≠X q:=fun e=>by
      rw[<-Aa F]at e;by_cases aK:i<j
      ·exact(Aa b).apartk i j aK C q hq e
      ·exact(Aa b).apartk j i (by omega) hi' q e hq
     have aJ:(Y an m cn).ownBlock≠X q:=fun e=>by
      rw[<-Aa L]at e;exact Ai ((Aa b).kids i ae hi') ((Aa b).names j t B) (by decide) q hq e
     have a5:q≠g:=fun e=>by subst e;exact Ai ((Aa b).kids i ae hi') (Aa b).own (by decide) q hq rfl
     have af:=((Aa b).lts.2.2 i hi' q hq).2;exact(I.block q (by have:=f.size;have:=v.size;omega) (W q aL)).trans ((v.block q (by have:=f.size;omega) (O q aJ)).trans (f.block q af (by omega))))
   have bt:=Ab (((ag.trans (f.wide (.inr ⟨bb,bc⟩))).trans (v.wide (by rcases a0 with e|e;exact .inl e;exact .inr ⟨e.1,e.2.1⟩))).trans (I.wide a3));have bu:Hid (Ad2 w a4 (Y (X ⟨g,0,T⟩) n c) o r):=Ab (fun q hq h1 h2 h3=>by
    have af:=zE hq ag.size;have a5:q≠g:=fun e=>h1 (by rw[e];rfl);exact(I.block q (by have:=f.size;have:=v.size;omega) (W q (fun e=>h3 j C (by rw[Aa F];exact e)))).trans (((v.block q (by have:=f.size;omega) (O q (fun e=>h2 j B (by rw[Aa L];exact e)))).trans (f.block q af (by omega))).trans (aO q hq h1 h2 h3)))
   clear N av d5 f v I aZ aE ar au K5 a2 aF D E b a0 a3 O W a1 far ax x2 x3 ab;go_wp2_with fail
   go_roundw
   case rel=>exact⟨j+1,z+1+1+1+m+p,Aa aU,by go_num,by go_num,by have:=Aa bf;omega,Aa bp,Aa bt,Aa bu⟩
   case measure=>have:=Aa aU;simp[intOf];omega
  ·have e:j=n:=by omega
   subst e;go_wp2
   go_ret
   rw[<-Aa aa]at J d;rw[Ab1]at d;exact⟨by rw[J];rfl,by rw[<-Aa aa];exact d,ag,aO⟩
end Go.Proofs.YteiieikcjcfkkaaGreatDoor

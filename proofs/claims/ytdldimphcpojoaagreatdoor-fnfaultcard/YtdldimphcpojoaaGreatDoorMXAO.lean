/-
  NUB, NUD, NUC, NUH, ONE, ONP, KTB, KTC, GM. Own work.
-/
import Derived.Test.YtdldimphcpojoaaGreatDoorMXAN
import Derived.Test.YtdldimphcpojoaaGreatDoorMXAL
import Derived.Deep.AppendLies
import Derived.Deep.RegionLaw
import Derived.Test.YtdldimphcpojoaaGreatDoorMXAF
import Derived.Test.YtdldimphcpojoaaGreatDoorMXAI
namespace Go.Proofs.YtdldimphcpojoaaGreatDoor
open Go.RowKit
set_option linter.unusedVariables false
theorem BY.snoc {l m:World}{lo:Nat}{v s u k:Value}{N:List Nd}{a b:List Value}{x:Nd}(h:BY l lo v N a b)
  (hu:l.ownsRow lo 9 1 u x.names.length (x.names.map Value.string))(hk:l.ownsRow lo 3 1 k x.kids.length (AN x.kids))(A:∀ j,(d:j < a.length)→∀ q,a[j].ownBlock=some q→u.ownBlock≠some q)(B:∀ j,(d:j < b.length)→∀ q,b[j].ownBlock=some q→k.ownBlock≠some q)
  (C:m.ownsRow lo 114 5 s (N.length+1) (Ir N a b ++GH x u k))(t:l.grownBy m v.ownBlock):BY m lo s (N ++ [x]) (a ++ [u]) (b ++ [k]):=by
 have hl:=h.len;have r:=h.lenk;have w:∀ {n:Nat} {y:Value} {o:List Value},l.ownsRow lo 9 1 y n o→m.ownsRow lo 9 1 y n o:=fun f=>Ac f (fun q hq=>t.block q (f.lt q hq).2 (fun e=>Al f h.own (by decide) q hq e.symm));have z:∀ {n:Nat} {y:Value} {o:List Value},l.ownsRow lo 3 1 y n o→m.ownsRow lo 3 1 y n o:=fun f=>Ac f (fun q hq=>t.block q (f.lt q hq).2 (fun e=>Al f h.own (by decide) q hq e.symm));refine ⟨by simp[hl],by simp[r],by rw[List.length_append,List.length_singleton,Pf _ _ _ _ _ _ hl r];exact C,fun j d p=>?_,fun j d p=>?_,fun i j g d q hq=>?_,fun i j g d q hq=>?_⟩
 ·by_cases c:j < a.length
  ·have a1:(a ++ [u])[j]=a[j]:=List.getElem_append_left c;have a2:(N ++ [x])[j]=N[j]'(by omega):=List.getElem_append_left (by omega);rw[a1,a2];exact w (h.names j (by omega) c)
  ·have e:j=a.length:=by simp at p;omega
   subst e;have a1:(a ++ [u])[a.length]'p=u:=by simp
   have a2:(N ++ [x])[a.length]'d=x:=by simp[hl]
   rw[a1,a2];exact w hu
 ·by_cases c:j < b.length
  ·have a1:(b ++ [k])[j]=b[j]:=List.getElem_append_left c;have a2:(N ++ [x])[j]=N[j]'(by omega):=List.getElem_append_left (by omega);rw[a1,a2];exact z (h.kids j (by omega) c)
  ·have e:j=b.length:=by simp at p;omega
   subst e;have a1:(b ++ [k])[b.length]'p=k:=by simp
   have a2:(N ++ [x])[b.length]'d=x:=by simp[r]
   rw[a1,a2];exact z hk
 ·by_cases c:j < a.length
  ·rw[List.getElem_append_left c];rw[List.getElem_append_left (by omega)] at hq;exact h.apart i j g c q hq
  ·have e:j=a.length:=by simp at d;omega
   subst e;rw[List.getElem_append_left g] at hq;simp;exact A i g q hq
 ·by_cases c:j < b.length
  ·rw[List.getElem_append_left c];rw[List.getElem_append_left (by omega)] at hq;exact h.apartk i j g c q hq
  ·have e:j=b.length:=by simp at d;omega
   subst e;rw[List.getElem_append_left g] at hq;simp;exact B i g q hq
structure J2 (w:World) (B nb:Nat) (N:List Nd) (P:List Int) (nd pl:Value) (nv kv:List Value):Prop where
 row:An w nb #[nd,pl] 127
 nodes:BY w B nd N nv kv
 places:w.ownsRow B 3 1 pl P.length (AN P)
 apart:∀ q,pl.ownBlock=some q→∀ j,(hj:j < kv.length)→kv[j].ownBlock≠some q
 low:B≤nb
structure Nk (B nb:Nat) (nd pl:Value) (w:World) (nd' pl':Value) (w':World):Prop where
 low:Below B w w'
 block:∀ k,k < w.heap.size→k≠nb→nd.ownBlock≠some k→pl.ownBlock≠some k→w'.heap[k]? =w.heap[k]?
 newN:∀ q,nd'.ownBlock=some q→nd.ownBlock=some q∨w.heap.size≤q
 newP:∀ q,pl'.ownBlock=some q→pl.ownBlock=some q∨w.heap.size≤q
theorem Nk.refl (B b:Nat)(nd a:Value)(w:World):Nk B b nd a w nd a w:=⟨BRN,fun _ _ _ _ _=>rfl,fun q h=> .inl h,fun q h=> .inl h⟩
theorem Nk.trans {B a:Nat}{nd b c d f g:Value}{w i j:World}(h:Nk B a nd b w c d i)(k:Nk B a c d i f g j):Nk B a nd b w f g j:=by
 have l:=h.low.size;refine ⟨h.low.trans k.low,fun q h1 h2 h3 h4=>?_,fun q hq=>?_,fun q hq=>?_⟩
 ·refine (k.block q (Nat.lt_of_lt_of_le h1 l) h2 (fun e=>?_) (fun e=>?_)).trans (h.block q h1 h2 h3 h4)
  ·rcases h.newN q e with e | e
   ·exact h3 e
   ·omega
  ·rcases h.newP q e with e | e
   ·exact h4 e
   ·omega
 ·rcases k.newN q hq with e | e
  ·exact h.newN q e
  ·exact .inr (by omega)
 ·rcases k.newP q hq with e | e
  ·exact h.newP q e
  ·exact .inr (by omega)
theorem Nk.of_all {B b:Nat}{nd a:Value}{w w':World}(h:Below w.heap.size w w')(c:B≤w.heap.size):Nk B b nd a w nd a w':=
 ⟨h.mono c,fun k h1 _ _ _=>h.block k h1,fun q hq=> .inl hq,fun q hq=> .inl hq⟩
theorem J2.below {w w':World}{B b:Nat}{N:List Nd}{P:List Int}{nd c:Value}{d f:List Value}(h:J2 w B b N P nd c d f)(a:Below w.heap.size w w'):J2 w' B b N P nd c d f:=
 ⟨h.row.after a NLN,h.nodes.blocks (fun k _ hk=>a.block k hk),Ac h.places (fun q hq=>a.block q (h.places.lt q hq).2),h.apart,h.low⟩
theorem Nk.row {B b:Nat}{nd c f i:Value}{w w':World}{N:List Nd}{P:List Int}{j k:List Value}(h:Nk B b nd c w f i w')(C:J2 w B b N P nd c j k){g:Nat}{cs:Array Value}{t:TypeId}(R:An w g cs t)(h1:t≠127)(h2:t≠114)(h3:t≠3):An w' g cs t:=
 ⟨(h.block g R.lt (fun e=>by
  have d:=R.out;have a:=C.row.out;rw[e] at d;rw[d] at a;injection a with a;injection a with _ a;exact h1 a) (Ad R C.nodes.own h2) (Ad R C.places h3)).trans R.out⟩
structure Kn (B nb g:Nat) (w:World) (nd pl:Value) (N:List Nd) (P:List Int) (nd1 pl1:Value) (nv kv:List Value) (kw:Value) (ks:List Int) (vs:Array Value) (w2:World):Prop where
 C:J2 w2 B nb N P nd1 pl1 nv kv
 K:Nk B nb nd pl w nd1 pl1 w2
 R:An w2 g vs 120
 O:w2.ownsRow w.heap.size 3 1 kw ks.length (AN ks)
 ap:∀ q,kw.ownBlock=some q→pl1.ownBlock≠some q∧∀ j,(hj:j < kv.length)→kv[j].ownBlock≠some q
theorem Kn.call {B a g:Nat}{w k b:World}{nd p r s l m n:Value}{N M:List Nd}{P t:List Int}{o c u d:List Value}{f:List Int}{v:Array Value}(h:Kn B a g w nd p N P r s o c n f v k)(z:J2 b B a (N ++M) (P ++t) l m (o ++u) (c ++d))(i:Nk B a r s k l m b)(A:∀ j,(x:j < d.length)→∀ q,d[j].ownBlock=some q→k.heap.size≤q):
  Kn B a g w nd p (N ++M) (P ++t) l m (o ++u) (c ++d) n f v b:=by
 have F:=h.K.low.size;have E:b.ownsRow w.heap.size 3 1 n f.length (AN f):=Ac h.O (fun q hq=>i.block q (h.O.lt q hq).2 (fun e=>Ad h.C.row h.O (by decide) (by rw[hq,e])) (fun e=>Al h.O h.C.nodes.own (by decide) q hq e) (h.ap q hq).1);refine ⟨z,h.K.trans i,i.row h.C h.R (by decide) (by decide) (by decide),E,fun q hq=>⟨fun e=>?_,fun j x e=>?_⟩⟩
 ·rcases i.newP q e with e | e
  ·exact (h.ap q hq).1 e
  ·have:=(h.O.lt q hq).2;omega
 ·by_cases y:j < c.length
  ·rw[List.getElem_append_left y] at e;exact (h.ap q hq).2 j y e
  ·rw[List.getElem_append_right (by omega)] at e;have:=A _ (by simp at x;omega) q e;have:=(h.O.lt q hq).2;omega
theorem Kn.app {B k g:Nat}{w b l:World}{nd m n o f:Value}{N:List Nd}{P:List Int}{p r:List Value}{d:List Int}{s:Array Value}{i:Obj}{a:Int}{gk cap:Nat}(h:Kn B k g w nd m N P n o p r f d s b)(x:B≤w.heap.size)
  (y:l.ownsRow w.heap.size 3 1 (.slice (some ⟨gk,0,none⟩) (d.length+1) cap) (d.length+1) (AN d ++ [.int .i64 a]))(t:(b.alloc i).grownBy l f.ownBlock)(z:f.ownBlock=some gk∨gk=b.heap.size+1):
  Kn B k g w nd m N P n o p r (.slice (some ⟨gk,0,none⟩) (d.length+1) cap) (d ++ [a]) s l:=by
 have u:=h.K.low.size;have F:=(Below.refl b.heap.size b).alloc NLN i;have v:(b.alloc i).heap.size=b.heap.size+1:=by simp
 have hk:∀ q,q < b.heap.size→f.ownBlock≠some q→l.heap[q]? =b.heap[q]? :=fun q h1 h2=>(t.block q (by rw[v];omega) (fun e=>h2 e.symm)).trans (Below.heap_alloc b i q h1);have C:=h.C;have A:f.ownBlock≠some k:=Ad C.row h.O (by decide);refine ⟨⟨⟨(hk k C.row.lt A).trans C.row.out⟩, ?_, ?_,C.apart,C.low⟩,⟨?_,fun q h1 h2 h3 h4=>?_,h.K.newN,h.K.newP⟩,⟨(hk g h.R.lt (Ad h.R h.O (by decide))).trans h.R.out⟩,by rw[List.length_append];simpa[AN] using y,fun q hq=>?_⟩
 ·exact C.nodes.upto (fun q hq=>hk q (C.nodes.lts.1 q hq).2 (fun e=>Al h.O C.nodes.own (by decide) q e hq)) (fun j c q hq=>hk q (C.nodes.lts.2.1 j c q hq).2 (fun e=>Al h.O (C.nodes.names j (by rw[← C.nodes.len];exact c) c) (by decide) q e hq)) (fun j c q hq=>hk q (C.nodes.lts.2.2 j c q hq).2 (fun e=>(h.ap q e).2 j c hq))
 ·exact Ac C.places (fun q hq=>hk q (C.places.lt q hq).2 (fun e=>(h.ap q e).1 hq))
 ·exact (h.K.low.alloc (Nat.le_trans x u) i).grown t (by rw[v];omega) (fun q hq=>by have:=(h.O.lt q hq).1;omega)
 ·have E:=Nat.lt_of_lt_of_le h1 u;refine (hk q E (fun e=>by have:=(h.O.lt q e).1;omega)).trans (h.K.block q h1 h2 h3 h4)
 ·have e:gk=q:=by simpa[Value.ownBlock] using hq
  subst e;rcases z with e | e
  ·exact h.ap gk e
  ·refine ⟨fun e'=>?_,fun j c e'=>?_⟩
   ·have:=(C.places.lt gk e').2;omega
   ·have:=(C.nodes.lts.2.2 j c gk e').2;omega
theorem Kn.below {B c g:Nat}{w a d:World}{nd f i j k:Value}{N:List Nd}{P:List Int}{l m:List Value}{n:List Int}{o:Array Value}(h:Kn B c g w nd f N P i j l m k n o a)(b:Below a.heap.size a d)(p:B≤a.heap.size):Kn B c g w nd f N P i j l m k n o d:=
 ⟨h.C.below b,h.K.trans (Nk.of_all b p),h.R.after b NLN,Ac h.O (fun q hq=>b.block q (h.O.lt q hq).2),h.ap⟩
theorem Ap {a b:World}{c:Obj}{row:Option Nat}(d:(a.alloc c).grownBy b row):∀ q,q < a.heap.size→row≠some q→b.heap[q]? =a.heap[q]? :=fun q h1 h2=>(d.block q (by simp;omega) (fun e=>h2 e.symm)).trans (Below.heap_alloc a c q h1)
theorem J2.pushN {b c:World}{B a g7 c7:Nat}{N:List Nd}{P:List Int}{nd f u k:Value}{i g:List Value}{x:Nd}(C:J2 b B a N P nd f i g)(o:Obj)(v:B≤b.heap.size)(hu:b.ownsRow B 9 1 u x.names.length (x.names.map Value.string))(hk:b.ownsRow B 3 1 k x.kids.length (AN x.kids))
  (w:∀ j,(d:j < i.length)→∀ q,i[j].ownBlock=some q→u.ownBlock≠some q)(y:∀ j,(d:j < g.length)→∀ q,g[j].ownBlock=some q→k.ownBlock≠some q)(z:∀ q,k.ownBlock=some q→f.ownBlock≠some q)
  (l:(b.alloc o).grownBy c nd.ownBlock)(A:c.ownsRow B 114 5 (.slice (some ⟨g7,0,none⟩) (N.length+1) c7) (N.length+1) (Ir N i g ++GH x u k))(E:nd.ownBlock=some g7∨g7=b.heap.size+1):
  J2 (c.setCell ⟨a,0,none⟩ (.slice (some ⟨g7,0,none⟩) (N.length+1) c7)) B a (N ++ [x]) P (.slice (some ⟨g7,0,none⟩) (N.length+1) c7) f (i ++ [u]) (g ++ [k])∧Nk B a nd f b (.slice (some ⟨g7,0,none⟩) (N.length+1) c7) f (c.setCell ⟨a,0,none⟩ (.slice (some ⟨g7,0,none⟩) (N.length+1) c7)):=by
 have r:=(Below.refl b.heap.size b).alloc NLN o;have F:=C.below r;have H:=Ac (w':=b.alloc o) hu (fun q hq=>r.block q (hu.lt q hq).2);have I:=Ac (w':=b.alloc o) hk (fun q hq=>r.block q (hk.lt q hq).2);have J:nd.ownBlock≠some a:=Ad C.row C.nodes.own (by decide);have m:An c a #[nd,f] 127:=⟨(Ap l a C.row.lt J).trans C.row.out⟩
 have h:=F.nodes.snoc H I w y A l;have s:c.ownsRow B 3 1 f P.length (AN P):=Ac C.places (fun q hq=>Ap l q (C.places.lt q hq).2 (fun e=>Al C.places C.nodes.own (by decide) q hq e));have n:∀ q,q≠a→(c.setCell ⟨a,0,none⟩ (.slice (some ⟨g7,0,none⟩) (N.length+1) c7)).heap[q]? =c.heap[q]? :=fun q hq=>heap_setCell_other c ⟨a,0,none⟩ q _ hq;refine ⟨⟨m.set 0 _,h.upto (fun q hq=>n q (fun e=>Ad m h.own (by decide) (by rw[hq,e]))) (fun j d q hq=>n q (fun e=>Ad m (h.names j (by rw[← h.len];exact d) d) (by decide) (by rw[hq,e]))) (fun j d q hq=>n q (fun e=>Ad m (h.kids j (by rw[← h.lenk];exact d) d) (by decide) (by rw[hq,e]))),Ac s (fun q hq=>n q (fun e=>Ad m s (by decide) (by rw[hq,e]))),fun q hq j d e=>?_,C.low⟩,⟨?_,fun q h1 h2 h3 h4=>(n q h2).trans (Ap l q h1 h3),fun q hq=>?_,fun q hq=> .inl hq⟩⟩
 ·by_cases t:j < g.length
  ·rw[List.getElem_append_left t] at e;exact C.apart q hq j t e
  ·have K:j=g.length:=by simp at d;omega
   subst K;simp at e;exact z q e hq
 ·exact ((r.mono v).grown l (by simp;omega) (fun q hq=>(C.nodes.lts.1 q hq).1)).setCell (p:=⟨a,0,none⟩) C.low _
 ·have e:g7=q:=by simpa[Value.ownBlock] using hq
  subst e;exact E.imp id (fun e=>by omega)
theorem J2.pushP {f d:World}{B c g7 c7:Nat}{N:List Nd}{P:List Int}{nd g:Value}{m n:List Value}(C:J2 f B c N P nd g m n)(o:Obj)(a:Int)(t:B≤f.heap.size)
  (h:(f.alloc o).grownBy d g.ownBlock)(r:d.ownsRow B 3 1 (.slice (some ⟨g7,0,none⟩) (P.length+1) c7) (P.length+1) (AN P ++ [.int .i64 a]))(s:g.ownBlock=some g7∨g7=f.heap.size+1):
  J2 (d.setCell ⟨c,1,none⟩ (.slice (some ⟨g7,0,none⟩) (P.length+1) c7)) B c N (P ++ [a]) nd (.slice (some ⟨g7,0,none⟩) (P.length+1) c7) m n∧Nk B c nd g f nd (.slice (some ⟨g7,0,none⟩) (P.length+1) c7) (d.setCell ⟨c,1,none⟩ (.slice (some ⟨g7,0,none⟩) (P.length+1) c7)):=by
 have u:=(Below.refl f.heap.size f).alloc NLN o;have v:g.ownBlock≠some c:=Ad C.row C.places (by decide);have k:An d c #[nd,g] 127:=⟨(Ap h c C.row.lt v).trans C.row.out⟩
 have l:∀ q,q≠c→(d.setCell ⟨c,1,none⟩ (.slice (some ⟨g7,0,none⟩) (P.length+1) c7)).heap[q]? =d.heap[q]? :=fun q hq=>heap_setCell_other d ⟨c,1,none⟩ q _ hq;have i:BY d B nd N m n:=C.nodes.upto (fun q hq=>Ap h q (C.nodes.lts.1 q hq).2 (fun e=>Al C.places C.nodes.own (by decide) q e hq)) (fun j b q hq=>Ap h q (C.nodes.lts.2.1 j b q hq).2 (fun e=>Al C.places (C.nodes.names j (by rw[← C.nodes.len];exact b) b) (by decide) q e hq)) (fun j b q hq=>Ap h q (C.nodes.lts.2.2 j b q hq).2 (fun e=>C.apart q e j b hq));refine ⟨⟨k.set 1 _,i.upto (fun q hq=>l q (fun e=>Ad k i.own (by decide) (by rw[hq,e]))) (fun j b q hq=>l q (fun e=>Ad k (i.names j (by rw[← i.len];exact b) b) (by decide) (by rw[hq,e]))) (fun j b q hq=>l q (fun e=>Ad k (i.kids j (by rw[← i.lenk];exact b) b) (by decide) (by rw[hq,e]))), ?_,fun q hq j b e=>?_,C.low⟩,⟨?_,fun q h1 h2 h3 h4=>(l q h2).trans (Ap h q h1 h4),fun q hq=> .inl hq,fun q hq=>?_⟩⟩
 ·have:=Ac (w':=d.setCell ⟨c,1,none⟩ (.slice (some ⟨g7,0,none⟩) (P.length+1) c7)) r (fun q hq=>l q (fun e=>Ad k r (by decide) (by rw[hq,e])));simpa[AN] using this
 ·have w:g7=q:=by simpa[Value.ownBlock] using hq
  subst w;rcases s with h1 | h1
  ·exact C.apart g7 h1 j b e
  ·have:=(C.nodes.lts.2.2 j b g7 e).2;omega
 ·exact ((u.mono t).grown h (by simp;omega) (fun q hq=>(C.places.lt q hq).1)).setCell (p:=⟨c,1,none⟩) C.low _
 ·have e:g7=q:=by simpa[Value.ownBlock] using hq
  subst e;exact s.imp id (fun e=>by omega)
set_option maxRecDepth 100000
set_option maxHeartbeats 1600000
def BI:Ex→Nat→List Nd
 | .un i op k,b=>BI k b ++ [⟨op,0,⟨#[]⟩, [], [((b+k.cnt - 1 :Nat):Int)]⟩]
 | .bin i op l r,b=>BI l b ++BI r (b+l.cnt) ++ [⟨op,0,⟨#[]⟩, [], [((b+l.cnt - 1 :Nat):Int),((b+l.cnt+r.cnt - 1 :Nat):Int)]⟩]
 | .ite i c t e,b=>BI c b ++BI t (b+c.cnt) ++BI e (b+c.cnt+t.cnt) ++ [⟨27,0,⟨#[]⟩, [], [((b+c.cnt - 1 :Nat):Int),((b+c.cnt+t.cnt - 1 :Nat):Int),((b+c.cnt+t.cnt+e.cnt - 1 :Nat):Int)]⟩]
 | e,_=> [So e]
def CX:Ex→List Int
 | .int i _=> [i] | .text i _=> [i] | .bool i _=> [i] | .set i .. => [i] | .name i _=> [i] | .attr i _=> [i] | .lett i _=> [i]
 | .un i _ k=>CX k ++ [i]
 | .bin i _ l r=>CX l ++CX r ++ [i]
 | .ite i c t e=>CX c ++CX t ++CX e ++ [i]
theorem Jc:(Tryz.prog.info? 114).map (fun i=>(i.zero,i.size,i.bytes))=some (some (.agg #[.int .i64 0,.int .i64 0,.string ByteArray.empty,.slice none 0 0,.slice none 0 0]),5,80):=by kernel_rfl
theorem KS:(Tryz.prog.info? 3).map (fun i=>(i.zero,i.size,i.bytes))=some (some (.int .i64 0),1,8):=by kernel_rfl
theorem CK (w:World):Below w.heap.size w w.drew:=⟨rfl,rfl,rfl,NLN,fun _ _=>rfl⟩
def Zm (B nb:Nat) (N:List Nd) (P:List Int) (nd pl:Value) (nv kv:List Value) (M:List Nd) (Q:List Int) (w:World) (r:Ending) (w':World):Prop:=
 r= .returned (.int .i64 ((N.length+M.length - 1 :Nat):Int))∧∃ nd' pl' nv' kv',J2 w' B nb (N ++M) (P ++Q) nd' pl' (nv ++nv') (kv ++kv')∧Nk B nb nd pl w nd' pl' w'∧∀ j,(hj:j < kv'.length)→∀ q,kv'[j].ownBlock=some q→w.heap.size≤q
def VD (B nb:Nat) (w0:World) (v:Value) (fl:Nat→List Nd) (Q:List Int) (n:Nat):Prop:=
 ∀ (N:List Nd) (P:List Int) (nd pl:Value) (nv kv:List Value) (w:World),Below B w0 w→J2 w B nb N P nd pl nv kv→N.length+n≤65535→P.length+n≤65535→Calls Tryz.prog 63 #[.pointer (some ⟨nb,0,none⟩),v] w (Zm B nb N P nd pl nv kv (fl N.length) Q w)
theorem EJ (B a:Nat)(ao:World)(T:TypeId)(v:Value)(i:Int)(x:Nd)(hx:x.kids= [])
  (hk:∀ w,(method 394 T v "loop.example/s01308/impl.kids").run Tryz.prog w= .ok (212,.int .i64 i) w)
  (aR:∀ w,(method 394 T v "loop.example/s01308/impl.place").run Tryz.prog w= .ok (213,.int .i64 i) w)
  (aS:Hid (∀ w,Below B ao w→Calls Tryz.prog 89 #[.iface T v] w (Pe x w))):
  VD B a ao (.iface T v) (fun _=> [x]) [i] 1:=by
 intro N P nd C M O w ap hC bw bx;have aT:=Ab ap;have bz:=hC.row.lt;have aq:B≤w.heap.size:=by have:=hC.low;omega
 clear ap;go_enter Tryz.func63,Tryz.ntmps63
 go_wp2_with fail
 refine (Dl i _).mono ?_;rintro r bA ⟨rfl,ar⟩;rw[ar];clear ar;dsimp only;go_wp2_with fail
 refine wp_loop_rounds 1 ?_;rw[rounds_succ];go_wp2_with fail
 have aU:=Nk.refl B a nd C w;have au:w.ownsRow w.heap.size 3 1 (.slice none 0 0) 0 (AN []):=World.ownsRow_nil _ _ _ _;have av:∀ q,(Value.slice none 0 0).ownBlock=some q→C.ownBlock≠some q∧∀ j,(l:j < O.length)→O[j].ownBlock≠some q:=fun q hq=>by cases hq
 have aV:=aT;have aw:=aq;obtain ⟨aW,aX,aY,aZ,a0⟩:=info_parts Jc;obtain ⟨a1,a2,a3,a4,a5⟩:=info_parts KS;have a6:=Tryz.func213;have a7:(Tryz.f213.name== "runtime.NumGoroutine")=false:=by kernel_rfl
 have a8: Tryz.f213.body.isNone=false:=by kernel_rfl
 have a9:=Ab (fun w=>(Q4 i w).mono (R':=fun r w'=>r= .returned (.int .i64 i)∧Below w.heap.size w w') (fun r w' ⟨h1,h2⟩=>⟨h1,by rw[h2];exact BRN⟩));have ba: Tryz.prog.types.size+Made.depth= 394:=by kernel_rfl
 refine (Aa aS _ (Aa aV)).mono ?_;rintro r f ⟨⟨u,b,rfl,Q⟩,E⟩;have ax:=hC.below E;have ay:=aU.trans (Nk.of_all E aw);have X:=Ac (w':=f) au (fun q hq=>E.block q (au.lt q hq).2);have bb:=E.size;have F:=(Below.refl f.heap.size f).alloc NLN (.cells #[.int .i64 x.op,.int .i64 x.num,.string x.text,.slice u x.names.length b,.slice none 0 0] 114);have R:=An.new f #[.int .i64 x.op,.int .i64 x.num,.string x.text,.slice u x.names.length b,.slice none 0 0] 114;have d:=ax.below F;have Y:=ay.trans (Nk.of_all F (Nat.le_trans aw bb));have Z:=Ac (w':=f.alloc (.cells #[.int .i64 x.op,.int .i64 x.num,.string x.text,.slice u x.names.length b,.slice none 0 0] 114)) Q (fun q hq=>F.block q (Q.lt q hq).2);have S:=Ac (w':=f.alloc (.cells #[.int .i64 x.op,.int .i64 x.num,.string x.text,.slice u x.names.length b,.slice none 0 0] 114)) X (fun q hq=>F.block q (X.lt q hq).2);have bc:f.heap.size < (f.alloc (.cells #[.int .i64 x.op,.int .i64 x.num,.string x.text,.slice u x.names.length b,.slice none 0 0] 114)).heap.size:=by simp
 have bd:=Ab (show ∀ j,(l:j < (M).length)→∀ q,(M)[j].ownBlock=some q→(Value.slice u x.names.length b).ownBlock≠some q from fun j l q hq e=>by have:=(Q.lt q e).1;have:=(hC.nodes.lts.2.1 j l q hq).2;omega);clear Q X ax ay E F;dsimp only;go_wp2_with fail
 generalize f.alloc (.cells #[.int .i64 x.op,.int .i64 x.num,.string x.text,.slice u x.names.length b,.slice none 0 0] 114)=c at d Y Z S R bc ⊢;generalize f.heap.size=H at R ⊢;obtain ⟨I,J,m,_⟩:=Ah d.nodes.own;have aa:=Ab m;clear m;apply QN
 ·intro bf;have m:=Aa aa;obtain ⟨az,e1,e2,e3,e4⟩:=JI R;have ab:c.cell? ⟨a,0,none⟩=some (nd):=d.row.cell 0;rw[m] at ab;have aA:=d.row.frozen 0;have aB:=World.news_of_block (heap_alloc_new c (.cells #[.int .i64 x.op,.int .i64 x.num,.string x.text,.slice u x.names.length b,.slice none 0 0] 114));have bg:c.drew.cell? ⟨a,0,none⟩=some (.slice I (N).length J)∧c.drew.frozen? ⟨a,0,none⟩=false:=⟨ab,aA⟩
  have d1:c.drew.cell? ⟨H,0,none⟩=some (.int .i64 x.op):=az;have d2:c.drew.cell? ⟨H,1,none⟩=some (.int .i64 x.num):=e1;have d3:c.drew.cell? ⟨H,2,none⟩=some (.string x.text):=e2;have d4:c.drew.cell? ⟨H,3,none⟩=some (.slice u x.names.length b):=e3;have d5:c.drew.cell? ⟨H,4,none⟩=some (.slice none 0 0):=e4;have aC:(c.alloc (.cells #[.int .i64 x.op,.int .i64 x.num,.string x.text,.slice u x.names.length b,.slice none 0 0] 114)).drew.ownsRow B 114 5 (.slice I (N).length J) (N).length (Ir (N) (M) (O)):=by
   have:=d.nodes.own;rw[m] at this;exact (World.ownsRow.alloc this _).drew
  have U:An (c.alloc (.cells #[.int .i64 x.op,.int .i64 x.num,.string x.text,.slice u x.names.length b,.slice none 0 0] 114)).drew a #[nd,C] 127:=⟨(d.row.alloc (.cells #[.int .i64 x.op,.int .i64 x.num,.string x.text,.slice u x.names.length b,.slice none 0 0] 114)).out⟩
  have bh:(c.alloc (.cells #[.int .i64 x.op,.int .i64 x.num,.string x.text,.slice u x.names.length b,.slice none 0 0] 114)).drew.cell? ⟨a,0,none⟩=some (.slice I (N).length J):=by
   have:=U.cell 0;rw[m] at this;exact this
  have aD:(Value.slice I (N).length J).ownBlock≠some a:=by rw[← m];exact Ad d.row d.nodes.own (by decide)
  have bi:B≤c.heap.size:=by have:=d.row.lt;have:=d.low;omega
  clear az e1 e2 e3 e4 ab aA m;go_region_law (refine step_append_lies _ rfl _ _ 24 rfl B 114 aW (.agg #[.int .i64 0,.int .i64 0,.string ByteArray.empty,.slice none 0 0,.slice none 0 0]) 5 80 Tryz.underlying24 aX aY aZ a0 rfl (by decide) (.slice I (N).length J) (N).length (Ir (N) (M) (O)) rfl aC ⟨c.heap.size,0,none⟩ 1 1 [.int .i64 x.op,.int .i64 x.num,.string x.text,.slice u x.names.length b,.slice none 0 0] rfl rfl aB (by intro u hu;simp at hu;rcases hu with rfl | rfl | rfl | rfl | rfl <;> rfl) (by decide) (by unfold maxLen;omega) (by omega) (by simp;omega) _ rfl ?_;intro g7 c7 ac aE p aF bj;have ad:An ac a #[nd,C] 127:=⟨(p.block a U.lt (fun e=>aD e.symm)).trans U.out⟩;have V:=ad.cell 0;have ae:=ad.frozen 0)
  all_goals
   have aG:(c.alloc (.cells #[.int .i64 x.op,.int .i64 x.num,.string x.text,.slice u x.names.length b,.slice none 0 0] 114)).grownBy ac (nd).ownBlock:=by rw[Aa aa];exact ⟨p.os,p.tape,p.output,p.size,p.block⟩
   obtain ⟨t,K⟩:=d.pushN (g7:=g7) (c7:=c7) (x:=x) (u:= .slice u x.names.length b) (k:= .slice none 0 0) _ bi (Ch Z (by omega)) (by rw[hx];exact Ch S (by omega)) (Aa bd) (fun j l q hq e=>(av q e).2 j l hq) (fun q hq=>(av q hq).1) aG aE (by rw[Aa aa];exact aF.imp id (fun e=>by rw[e];show (c.alloc _).heap.size=_;simp));have y:=Y.trans K;have af:=Ab (show ∀ q,(.slice none 0 0 :Value).ownBlock=some q→w.heap.size≤q from fun q hq=>(S.lt q hq).1);clear aE p aF bj ad U bh bg d1 d2 d3 d4 d5 aB aC aG K;clear V ae;generalize ac.setCell ⟨a,0,none⟩ (.slice (some ⟨g7,0,none⟩) ((N).length+1) c7)=g at t y ⊢;clear aD;revert af;revert y;revert t;revert g;revert c7;revert g7;exact bf.out
 intro g7 c7 g t y af;clear R d Y Z S;go_wp2_with fail
 obtain ⟨z,A,W,_⟩:=Ah t.places;have L:=Ab W;have n:=t.below (CK g);have aH:=y.trans (Nk.of_all (CK g) (Nat.le_trans aq y.low.size));have bk:g.drew.cell? ⟨a,1,none⟩=some (.slice z (P).length A):=by have:=n.row.cell 1;rw[W] at this;exact this
 have bl:=n.row.frozen 1;have bm:(Value.slice z (P).length A).ownBlock≠some a:=by rw[← W];exact Ad n.row n.places (by decide)
 have bn:=Ab (Aa a9 g.drew);have aI:B≤g.drew.heap.size:=by have:=n.row.lt;have:=n.low;omega
 clear W t y;go_region_law (first
  | (refine Gu rfl _ _ _ rfl T (v) rfl _ ba _ _ aR _ a6 a7 a8 (fun bo w'=>bo= .int .i64 i∧Below g.heap.size g.drew w') ((Aa bn).mono (fun r w' h=>⟨_,h.1,rfl,h.2⟩)) ?_;rintro bB o ⟨rfl,ag⟩;have s:=n.below ag;have aJ:=aH.trans (Nk.of_all ag aI);have bp:B≤o.heap.size:=Nat.le_trans aI ag.size;have bq:o.cell? ⟨a,1,none⟩=some (.slice z (P).length A):=(by have:=s.row.cell 1;rw[Aa L] at this;exact this);have br:=s.row.frozen 1;have aK:(o.alloc (.cells #[.int .i64 i] 3)).ownsRow B 3 1 (.slice z (P).length A) (P).length (AN (P)):=(by have:=s.places;rw[Aa L] at this;exact World.ownsRow.alloc this _);have bs:(o.alloc (.cells #[.int .i64 i] 3)).cell? ⟨a,1,none⟩=some (.slice z (P).length A):=(by have:=(s.row.alloc (.cells #[.int .i64 i] 3)).cell 1;rw[Aa L] at this;exact this);have aL:=World.news_of_block (heap_alloc_new o (.cells #[.int .i64 i] 3));have ah:An (o.alloc (.cells #[.int .i64 i] 3)) a #[_,_] 127:=s.row.alloc (.cells #[.int .i64 i] 3))
  | (refine step_append_lies _ rfl _ _ 28 rfl B 3 a1 (.int .i64 0) 1 8 Tryz.underlying28 a2 a3 a4 a5 rfl (by decide) (.slice z (P).length A) (P).length (AN (P)) rfl aK ⟨o.heap.size,0,none⟩ 1 1 [.int .i64 i] rfl rfl aL (by intro u hu;simp at hu;rcases hu with rfl;rfl) (by decide) (by unfold maxLen;omega) (by omega) (by simp;omega) _ rfl ?_;intro g6 aM ai aN aj aO bt;have ak:An ai a #[_,_] 127:=⟨(aj.block a ah.lt (fun e=>bm e.symm)).trans ah.out⟩;have V:=ak.cell 1;have ae:=ak.frozen 1))
 all_goals
  have aP:(o.alloc (.cells #[.int .i64 i] 3)).grownBy ai (C).ownBlock:=by rw[Aa L];exact aj
  obtain ⟨al,aQ⟩:=s.pushP (g7:=g6) (c7:=aM) _ i bp aP aN (by rw[Aa L];exact aO.imp id (fun e=>by rw[e];simp));have K:=aJ.trans aQ;clear aN aj aO bt aP bk bl bq br bs V ae ak ah aL aK n s aH aJ aQ;generalize ai.setCell ⟨a,1,none⟩ (.slice (some ⟨g6,0,none⟩) ((P).length+1) aM)=bu at al K ⊢;have V:bu.cell? ⟨a,0,none⟩=some (.slice (some ⟨g7,0,none⟩) ((N).length+1) c7):=al.row.cell 0;go_wp2_with fail
  go_ret
  refine ⟨by simp,_,_, [_], [_],al,K, ?_⟩;intro j l q hq;have bv:j=0:=by simp at l;exact l
  subst bv;exact Aa af q hq
theorem BP {lo:Nat}{a b:List Value}(d:∀ j,(c:j < a.length)→∀ q,a[j].ownBlock=some q→lo≤q)(f:∀ j,(c:j < b.length)→∀ q,b[j].ownBlock=some q→lo≤q):∀ j,(c:j < (a ++b).length)→∀ q,(a ++b)[j].ownBlock=some q→lo≤q:=fun j c q hq=>by
 by_cases h:j < a.length
 ·rw[List.getElem_append_left h] at hq;exact d j h q hq
 ·rw[List.getElem_append_right (by omega)] at hq;exact f _ (by simp at c;omega) q hq
theorem CJ {lo:Nat}{v:Value}(h:∀ q,v.ownBlock=some q→lo≤q):∀ j,(a:j < [v].length)→∀ q, [v][j].ownBlock=some q→lo≤q:=fun j a q hq=>by
 have b:j=0:=by simp at a;exact a
 subst b;exact h q hq
theorem AM {lo hi:Nat}{a:List Value}(c:∀ j,(b:j < a.length)→∀ q,a[j].ownBlock=some q→hi≤q)(h:lo≤hi):∀ j,(b:j < a.length)→∀ q,a[j].ownBlock=some q→lo≤q:=fun j b q hq=>Nat.le_trans h (c j b q hq)
def CA (L:List St):List Value:=L.flatMap fun s=> [.int .i64 s.kind,.string s.name,.int .i64 s.cond,.int .i64 s.grant]
theorem Sv:∀ (L:List St) (j:Nat) (h:j < L.length),∀ r,r < 4→(CA L)[j * 4+r]? =([Value.int .i64 L[j].kind,.string L[j].name,.int .i64 L[j].cond,.int .i64 L[j].grant]:List Value)[r]?
 | s ::L,0,_,r,hr=>by
  rw[CA,List.flatMap_cons,Nat.zero_mul,Nat.zero_add,List.getElem?_append_left (by simp;omega)];rfl
 | s ::L,j+1,h,r,hr=>by
  have a:=Sv L j (by simpa using h) r hr;rw[CA,List.flatMap_cons,List.getElem?_append_right (by simp;omega)];have e:(j+1) * 4+r - ([Value.int .i64 s.kind,.string s.name,.int .i64 s.cond,.int .i64 s.grant]:List Value).length=j * 4+r:=by simp;omega
  rw[e];rw[CA] at a;rw[a];rfl
 | [],_,h,_,_=>absurd h (by simp)
structure JM (w:World) (lo hi:Nat) (x:Option Addr) (n cx:Nat) (y:Option Addr) (m cy:Nat) (z:Option Addr) (p cz:Nat) (N:List Nd) (nv kv:List Value) (L:List St) (T:List Int):Prop where
 nd:BY w lo (.slice x n cx) N nv kv
 st:w.ownsRow lo 49 4 (.slice y m cy) m (CA L)
 ty:w.ownsRow lo 3 1 (.slice z p cz) p (AN T)
 apart:∀ q,(Value.slice z p cz).ownBlock=some q→∀ j,(hj:j < kv.length)→kv[j].ownBlock≠some q
 inN:Zo (.slice x n cx) nv kv hi
 inS:∀ q,(Value.slice y m cy).ownBlock=some q→q < hi
 inT:∀ q,(Value.slice z p cz).ownBlock=some q→q < hi
 top:hi≤w.heap.size
 nn:N.length=n
 ns:L.length=m
 nt:T.length=p
def Y0 (N:List Nd) (L:List St) (T:List Int):Prop:=(N.length≤65535∧∀ x∈N,YV x∧x.text.size≤1048576∧x.names.length+x.kids.length≤65535)∧(L.length≤65535∧∀ s∈L,s.name.size≤1048576)∧T.length≤65535
theorem JM.touch {w w':World}{lo hi l u n b m c p d:Nat}{x y f:Option Addr}{N:List Nd}{g i:List Value}{L:List St}{T:List Int}(h:JM w lo hi x n b y m c f p d N g i L T)(t:Ai l u w w')(k:hi≤l∨u≤lo):JM w' lo hi x n b y m c f p d N g i L T:=by
 have hk:∀ q,lo≤q→q < hi→w'.heap[q]? =w.heap[q]? :=fun q h1 h2=>t.block q (Nat.lt_of_lt_of_le h2 h.top) (by omega);exact ⟨h.nd.upto (fun q hq=>hk q (h.nd.lts.1 q hq).1 (h.inN.1 q hq)) (fun j a q hq=>hk q (h.nd.lts.2.1 j a q hq).1 (h.inN.2.1 j a q hq)) (fun j a q hq=>hk q (h.nd.lts.2.2 j a q hq).1 (h.inN.2.2 j a q hq)),Ac h.st (fun q hq=>hk q (h.st.lt q hq).1 (h.inS q hq)),Ac h.ty (fun q hq=>hk q (h.ty.lt q hq).1 (h.inT q hq)),h.apart,h.inN,h.inS,h.inT,Nat.le_trans h.top t.size,h.nn,h.ns,h.nt⟩
theorem JM.below {w w':World}{lo hi B n b m c p d:Nat}{x y f:Option Addr}{N:List Nd}{g i:List Value}{L:List St}{T:List Int}(h:JM w lo hi x n b y m c f p d N g i L T)(a:Below B w w')(j:hi≤B):JM w' lo hi x n b y m c f p d N g i L T:=
 h.touch (l:=hi) (u:=w.heap.size+hi) ⟨a.os,a.tape,a.output,a.size,fun k hk o=>a.block k (by omega)⟩ (.inl NLN)
theorem BY.nds {w:World}{lo n c:Nat}{a:Option Addr}{N:List Nd}{d f:List Value}(h:BY w lo (.slice a n c) N d f)(q:N.length=n)(hs:n≤1048576)(ok:∀ x∈N,YV x∧x.text.size≤1048576):Hj w a n c N:=by
 refine ⟨q,hs,fun x hx=>(ok x hx).2,fun j b=>?_⟩;have l:j < d.length:=by rw[h.len];exact b
 have m:j < f.length:=by rw[h.lenk];exact b
 have k:=MZ N d f j b l m;have r:=k 0 (by decide);have s:=k 1 (by decide);have t:=k 2 (by decide);have o:=k 3 (by decide);have p:=k 4 (by decide);simp only[GH,Nat.add_zero,List.getElem?_cons_zero,List.getElem?_cons_succ] at r s t o p;obtain ⟨g,A⟩:∃ g,a=some ⟨g,0,none⟩:=by
  rcases h.own.2 with ⟨_,h0⟩ | ⟨g,cap,H,u,_⟩
  ·omega
  ·simp only[Value.slice.injEq] at u;exact ⟨g,u.1⟩
 subst A;subst q;have hl:=Su N d f h.len h.lenk;have cell:∀ i,i < 5→w.cell? ⟨g,0+j * 5+i,none⟩=(Ir N d f)[j * 5+i]? :=fun i hi=>by
  rw[Nat.zero_add];exact h.own.cellAt (g:=g) (n:=N.length) (j * 5+i) (by omega)
 obtain ⟨an,B,hu⟩:=Em (h.names j b l);obtain ⟨C,E,F⟩:=Em (h.kids j b m);have v:=h.names j b l;have y:=h.kids j b m;rw[hu] at o v;rw[F] at p y;have z:=ok _ (List.getElem_mem b);refine ⟨g,0,rfl,(h.own.lt g rfl).2,an,_,B,C,_,E,(cell 0 (by omega)).trans r,(cell 1 (by omega)).trans s,(cell 2 (by omega)).trans t,(cell 3 (by omega)).trans o,(cell 4 (by omega)).trans p,Bg.of_owns v (fun i hi=>?_),Ix y rfl z.1.2.1⟩;rw[Cf _ i hi];exact z.1.2.2 _ (List.getElem_mem hi)
theorem JK {w:World}{lo n c:Nat}{a:Option Addr}{L:List St}(h:w.ownsRow lo 49 4 (.slice a n c) n (CA L))(hl:L.length=n)(l:n≤1048576)(ok:∀ s∈L,s.name.size≤1048576):VE w a n c L:=by
 refine ⟨hl,l,ok,fun j m=>?_⟩;have b:=Sv L j m;have d:=b 0 (by decide);have f:=b 1 (by decide);have i:=b 2 (by decide);have k:=b 3 (by decide);simp only[Nat.add_zero,List.getElem?_cons_zero,List.getElem?_cons_succ] at d f i k;obtain ⟨x,o,e,hx⟩:=Ah h;cases e;obtain ⟨g,rfl,p,hc⟩:=hx (by omega);refine ⟨g,0,rfl,(h.lt g rfl).2, ?_, ?_, ?_, ?_⟩
 ·rw[Nat.zero_add];exact hc _ _ d
 ·rw[Nat.zero_add];exact hc _ _ f
 ·rw[Nat.zero_add];exact hc _ _ i
 ·rw[Nat.zero_add];exact hc _ _ k
theorem JM.mem {w:World}{lo hi n a m b p c:Nat}{x y d:Option Addr}{N:List Nd}{f g:List Value}{L:List St}{T:List Int}(h:JM w lo hi x n a y m b d p c N f g L T)(ok:Y0 N L T):Hj w x n a N∧VE w y m b L∧Jj w d p c T:=by
 have e1:=h.nn;have e2:=h.ns;have e3:=h.nt;exact ⟨h.nd.nds e1 (by have:=ok.1.1;omega) (fun x hx=>⟨(ok.1.2 x hx).1,(ok.1.2 x hx).2.1⟩),JK h.st e2 (by have:=ok.2.1.1;omega) ok.2.1.2,Ix h.ty e3 (by have:=ok.2.2;omega)⟩
def YF (x:Nd):Prop:=YV x∧x.text.size≤1048576∧x.num≤9223372036854775807
def J1 (L:List (ByteArray × Int)):List Value:=L.flatMap fun x=> [.string x.1,.int .i64 x.2]
theorem TN (L:List (ByteArray × Int))(x:ByteArray × Int):J1 (L ++ [x])=J1 L ++ [.string x.1,.int .i64 x.2]:=by simp[J1]
theorem Sq:∀ (L:List (ByteArray × Int)) (j:Nat) (h:j < L.length),(J1 L)[j * 2]? =some (.string L[j].1)∧(J1 L)[j * 2+1]? =some (.int .i64 L[j].2)
 | x ::L,0,_=>⟨rfl,rfl⟩
 | x ::L,j+1,h=>by
  have a:=Sq L j (by simpa using h);have e1:(j+1) * 2=j * 2+2:=by omega
  rw[e1];exact a
structure PW (w:World) (B R gb:Nat) (a:Option Addr) (n c:Nat) (N:List Nd) (L:List (ByteArray × Int)) (nd lt:Value) (nv kv:List Value) (wild:Bool):Prop where
 row:An w gb #[.pointer (some ⟨R,0,none⟩),nd,lt,.bool wild] 99
 rd:Cr w R a n c
 nodes:BY w B nd N nv kv
 lets:w.ownsRow B 102 2 lt L.length (J1 L)
 low:(B≤gb∧B≤R)∧(0 < n→∀ q,a=some q→q.block < B)
 good:(∀ x∈N,YF x)∧∀ x∈L,x.1.size≤1000
structure Gk (B R gb:Nat) (lt nd:Value) (w:World) (nd':Value) (w':World):Prop where
 low:Below B w w'
 block:∀ k,k < w.heap.size→k≠gb→k≠R→nd.ownBlock≠some k→lt.ownBlock≠some k→w'.heap[k]? =w.heap[k]?
 newN:∀ q,nd'.ownBlock=some q→nd.ownBlock=some q∨w.heap.size≤q
theorem Gk.trans {B R a:Nat}{lt nd b c:Value}{w d f:World}(h:Gk B R a lt nd w b d)(k:Gk B R a lt b d c f):Gk B R a lt nd w c f:=by
 refine ⟨h.low.trans k.low,fun q h1 h2 h3 h4 h5=>?_,fun q hq=>?_⟩
 ·refine (k.block q (Nat.lt_of_lt_of_le h1 h.low.size) h2 h3 (fun e=>?_) h5).trans (h.block q h1 h2 h3 h4 h5);rcases h.newN q e with e | e
  ·exact h4 e
  ·omega
 ·rcases k.newN q hq with e | e
  ·exact h.newN q e
  ·have:=h.low.size;exact .inr (by omega)
theorem Gk.of_below {B R a:Nat}{lt nd:Value}{w w':World}(h:Below w.heap.size w w')(b:B≤w.heap.size):Gk B R a lt nd w nd w':=
 ⟨h.mono b,fun k h1 _ _ _ _=>h.block k h1,fun q hq=> .inl hq⟩
theorem Gk.of_touch {B R a:Nat}{lt nd:Value}{w w':World}(h:Ai R (R+1) w w')(b:B≤R)(c:R < w.heap.size):Gk B R a lt nd w nd w':=
 ⟨⟨h.os,h.tape,h.output,h.size,fun k hk=>h.block k (by omega) (.inl (by omega))⟩,fun k h1 _ h3 _ _=>h.block k h1 (by omega),fun q hq=> .inl hq⟩
theorem PW.below {w w':World}{B R d:Nat}{a:Option Addr}{n c:Nat}{N:List Nd}{L:List (ByteArray × Int)}{nd lt:Value}{f g:List Value}{i:Bool}(h:PW w B R d a n c N L nd lt f g i)(b:Below w.heap.size w w'):PW w' B R d a n c N L nd lt f g i:=
 ⟨h.row.after b NLN,h.rd.after b h.rd.lt,h.nodes.blocks (fun k _ hk=>b.block k hk),Ac h.lets (fun q hq=>b.block q (h.lets.lt q hq).2),h.low,h.good⟩
theorem Ej {w:World}{b c:Nat}{cs f:Array Value}{t u:TypeId}(h:An w b cs t)(k:An w c f u)(g:t≠u):b≠c:=fun e=>by
 have d:=h.out;have a:=k.out;rw[e] at d;rw[d] at a;injection a with a;injection a with _ a;exact g a
theorem PW.touch {w w':World}{B R g:Nat}{a:Option Addr}{n c:Nat}{N:List Nd}{L:List (ByteArray × Int)}{nd lt:Value}{i k:List Value}{l:Bool}(h:PW w B R g a n c N L nd lt i k l)(t:Ai R (R+1) w w')(r:Cr w' R a n c):PW w' B R g a n c N L nd lt i k l:=by
 obtain ⟨p,o⟩:=h.rd;have d:∀ q,q < w.heap.size→q≠R→w'.heap[q]? =w.heap[q]? :=fun q h1 h2=>t.block q h1 (by omega);have f:∀ {e size m:Nat} {v:Value} {s:List Value},w.ownsRow B e size v m s→61≠e→∀ q,v.ownBlock=some q→q≠R:=fun u x q hq e=>Ad o.row u x (by rw[hq,e]);exact ⟨⟨(d g h.row.lt (Ej h.row o.row (by decide))).trans h.row.out⟩,r,
  h.nodes.upto (fun q hq=>d q (h.nodes.lts.1 q hq).2 (f h.nodes.own (by decide) q hq)) (fun j b q hq=>d q (h.nodes.lts.2.1 j b q hq).2 (f (h.nodes.names j (by rw[← h.nodes.len];exact b) b) (by decide) q hq)) (fun j b q hq=>d q (h.nodes.lts.2.2 j b q hq).2 (f (h.nodes.kids j (by rw[← h.nodes.lenk];exact b) b) (by decide) q hq)),
  Ac h.lets (fun q hq=>d q (h.lets.lt q hq).2 (f h.lets (by decide) q hq)),h.low,h.good⟩
theorem PW.pushN {f g:World}{B R d g7 c7:Nat}{a:Option Addr}{n c:Nat}{N:List Nd}{L:List (ByteArray × Int)}{nd lt u k:Value}{s t:List Value}{A:Bool}{x:Nd}(C:PW f B R d a n c N L nd lt s t A)(w:Obj)(I:B≤f.heap.size)(hu:f.ownsRow B 9 1 u x.names.length (x.names.map Value.string))(hk:f.ownsRow B 3 1 k x.kids.length (AN x.kids))
  (J:∀ j,(i:j < s.length)→∀ q,s[j].ownBlock=some q→u.ownBlock≠some q)(K:∀ j,(i:j < t.length)→∀ q,t[j].ownBlock=some q→k.ownBlock≠some q)(hx:YF x)
  (m:(f.alloc w).grownBy g nd.ownBlock)(M:g.ownsRow B 114 5 (.slice (some ⟨g7,0,none⟩) (N.length+1) c7) (N.length+1) (Ir N s t ++GH x u k))(O:nd.ownBlock=some g7∨g7=f.heap.size+1):
  PW (g.setCell ⟨d,1,none⟩ (.slice (some ⟨g7,0,none⟩) (N.length+1) c7)) B R d a n c (N ++ [x]) L (.slice (some ⟨g7,0,none⟩) (N.length+1) c7) lt (s ++ [u]) (t ++ [k]) A∧Gk B R d lt nd f (.slice (some ⟨g7,0,none⟩) (N.length+1) c7) (g.setCell ⟨d,1,none⟩ (.slice (some ⟨g7,0,none⟩) (N.length+1) c7)):=by
 have z:=(Below.refl f.heap.size f).alloc NLN w;have P:=C.below z;have Q:=Ac (w':=f.alloc w) hu (fun q hq=>z.block q (hu.lt q hq).2);have S:=Ac (w':=f.alloc w) hk (fun q hq=>z.block q (hk.lt q hq).2);have T:nd.ownBlock≠some d:=Ad C.row C.nodes.own (by decide);have v:An g d #[.pointer (some ⟨R,0,none⟩),nd,lt,.bool A] 99:=⟨(Ap m d C.row.lt T).trans C.row.out⟩
 have o:=P.nodes.snoc Q S J K M m;have E:g.ownsRow B 102 2 lt L.length (J1 L):=Ac C.lets (fun q hq=>Ap m q (C.lets.lt q hq).2 (fun e=>Al C.lets C.nodes.own (by decide) q hq e));have r:∀ q,q≠d→(g.setCell ⟨d,1,none⟩ (.slice (some ⟨g7,0,none⟩) (N.length+1) c7)).heap[q]? =g.heap[q]? :=fun q hq=>heap_setCell_other g ⟨d,1,none⟩ q _ hq;obtain ⟨p,l⟩:=C.rd;have U:R≠d:=Ej l.row C.row (by decide);have F:Below B f (g.setCell ⟨d,1,none⟩ (.slice (some ⟨g7,0,none⟩) (N.length+1) c7)):=((z.mono I).grown m (by simp;omega) (fun q hq=>(C.nodes.lts.1 q hq).1)).setCell (p:=⟨d,1,none⟩) C.low.1.1 _;refine ⟨⟨v.set 1 _, ?_,o.upto (fun q hq=>r q (fun e=>Ad v o.own (by decide) (by rw[hq,e]))) (fun j i q hq=>r q (fun e=>Ad v (o.names j (by rw[← o.len];exact i) i) (by decide) (by rw[hq,e]))) (fun j i q hq=>r q (fun e=>Ad v (o.kids j (by rw[← o.lenk];exact i) i) (by decide) (by rw[hq,e]))),Ac E (fun q hq=>r q (fun e=>Ad v E (by decide) (by rw[hq,e]))),C.low,⟨fun y hy=>?_,C.good.2⟩⟩,⟨?_,fun q h1 h2 _ h3 _=>(r q h2).trans (Ap m q h1 h3),fun q hq=>?_⟩⟩
 ·refine ⟨p,⟨((r R U).trans (Ap m R l.row.lt (Ad l.row C.nodes.own (by decide)))).trans l.row.out⟩,l.le,l.small,fun j i=>?_⟩;obtain ⟨b,H,V,e1,e2,e3,e4,e5⟩:=l.cells j i;exact ⟨b,H,V,e1,e2,(F.cell (p:=⟨b,H+j,none⟩) (show b < B from C.low.2 (by omega) _ e1)).trans e3,e4,e5⟩
 ·rcases List.mem_append.1 hy with h | h
  ·exact C.good.1 y h
  ·rw[List.mem_singleton.1 h];exact hx
 ·exact F
 ·have e:g7=q:=by simpa[Value.ownBlock] using hq
  subst e;exact O.imp id (fun e=>by omega)
theorem Vw (n k:Nat)(h:k < n):n - (intOf (.int .i64 ((k:Int)+1))).toNat < n - (intOf (.int .i64 (k:Int))).toNat:=by
 simp[intOf];omega
set_option maxHeartbeats 6400000
theorem KY {w:World}{B R i:Nat}{a:Option Addr}{n c:Nat}{N:List Nd}{L:List (ByteArray × Int)}{nd lt:Value}{p s:List Value}{A:Bool}(hC:PW w B R i a n c N L nd lt p s A)(aA:N.length+1≤1000000)
  (x:Nd)(hx:YF x)(b:Option Addr)(d:Nat)(f:Option Addr)(g:Nat)(hu:w.ownsRow B 9 1 (.slice b x.names.length d) x.names.length (x.names.map Value.string))(hk:w.ownsRow B 3 1 (.slice f x.kids.length g) x.kids.length (AN x.kids))
  (Q:∀ j,(ai:j < p.length)→∀ q,p[j].ownBlock=some q→(Value.slice b x.names.length d).ownBlock≠some q)(S:∀ j,(ai:j < s.length)→∀ q,s[j].ownBlock=some q→(Value.slice f x.kids.length g).ownBlock≠some q):
  Calls Tryz.prog 100 #[.pointer (some ⟨i,0,none⟩),.agg #[.int .i64 x.op,.int .i64 x.num,.string x.text,.slice b x.names.length d,.slice f x.kids.length g]] w fun r w'=>r= .returned (.int .i64 (N.length:Int))∧∃ T,PW w' B R i a n c (N ++ [x]) L T lt (p ++ [.slice b x.names.length d]) (s ++ [.slice f x.kids.length g]) A∧Gk B R i lt nd w T w':=by
 have aj:=hC.row.lt;have U:B≤w.heap.size:=by have:=hC.low.1.1;omega
 obtain ⟨ak,al,ao,ap,aq⟩:=info_parts Jc;have V:=Ab (And.intro Q S);have ar:=Ab hx;have t:=(Below.refl w.heap.size w).alloc NLN (.cells #[.int .i64 x.op,.int .i64 x.num,.string x.text,.slice b x.names.length d,.slice f x.kids.length g] 114);have C:=An.new w #[.int .i64 x.op,.int .i64 x.num,.string x.text,.slice b x.names.length d,.slice f x.kids.length g] 114;have l:=hC.below t;have F:Gk B R i lt nd w nd (w.alloc (.cells #[.int .i64 x.op,.int .i64 x.num,.string x.text,.slice b x.names.length d,.slice f x.kids.length g] 114)):=Gk.of_below t U;have H:=Ac (w':=w.alloc (.cells #[.int .i64 x.op,.int .i64 x.num,.string x.text,.slice b x.names.length d,.slice f x.kids.length g] 114)) hu (fun q hq=>t.block q (hu.lt q hq).2);have I:=Ac (w':=w.alloc (.cells #[.int .i64 x.op,.int .i64 x.num,.string x.text,.slice b x.names.length d,.slice f x.kids.length g] 114)) hk (fun q hq=>t.block q (hk.lt q hq).2);have W:w.heap.size < (w.alloc (.cells #[.int .i64 x.op,.int .i64 x.num,.string x.text,.slice b x.names.length d,.slice f x.kids.length g] 114)).heap.size:=by simp
 clear Q S hu hk t hx;go_enter Tryz.func100,Tryz.ntmps100
 go_wp2_with fail
 generalize w.alloc (.cells #[.int .i64 x.op,.int .i64 x.num,.string x.text,.slice b x.names.length d,.slice f x.kids.length g] 114)=h at l F H I C W ⊢;generalize w.heap.size=v at C W aj U ⊢;obtain ⟨y,z,m,-⟩:=Ah l.nodes.own;have J:=Ab m;have m:=Aa J;obtain ⟨X,e1,e2,e3,e4⟩:=JI C;have K:h.cell? ⟨i,1,none⟩=some (nd):=l.row.cell 1;rw[m] at K;have Y:=l.row.frozen 1;have Z:=World.news_of_block (heap_alloc_new h (.cells #[.int .i64 x.op,.int .i64 x.num,.string x.text,.slice b x.names.length d,.slice f x.kids.length g] 114));have au:h.drew.cell? ⟨i,1,none⟩=some (.slice y (N).length z)∧h.drew.frozen? ⟨i,1,none⟩=false:=⟨K,Y⟩
 have d1:h.drew.cell? ⟨v,0,none⟩=some (.int .i64 x.op):=X;have d2:h.drew.cell? ⟨v,1,none⟩=some (.int .i64 x.num):=e1;have d3:h.drew.cell? ⟨v,2,none⟩=some (.string x.text):=e2;have d4:h.drew.cell? ⟨v,3,none⟩=some (.slice b x.names.length d):=e3;have d5:h.drew.cell? ⟨v,4,none⟩=some (.slice f x.kids.length g):=e4;have aa:(h.alloc (.cells #[.int .i64 x.op,.int .i64 x.num,.string x.text,.slice b x.names.length d,.slice f x.kids.length g] 114)).drew.ownsRow B 114 5 (.slice y (N).length z) (N).length (Ir (N) (p) (s)):=by
  have:=l.nodes.own;rw[m] at this;exact (World.ownsRow.alloc this _).drew
 have E:An (h.alloc (.cells #[.int .i64 x.op,.int .i64 x.num,.string x.text,.slice b x.names.length d,.slice f x.kids.length g] 114)).drew i #[.pointer (some ⟨R,0,none⟩),nd,lt,.bool A] 99:=⟨(l.row.alloc (.cells #[.int .i64 x.op,.int .i64 x.num,.string x.text,.slice b x.names.length d,.slice f x.kids.length g] 114)).out⟩
 have av:(h.alloc (.cells #[.int .i64 x.op,.int .i64 x.num,.string x.text,.slice b x.names.length d,.slice f x.kids.length g] 114)).drew.cell? ⟨i,1,none⟩=some (.slice y (N).length z):=by
  have:=E.cell 1;rw[m] at this;exact this
 have ab:(Value.slice y (N).length z).ownBlock≠some i:=by rw[← m];exact Ad l.row l.nodes.own (by decide)
 have aw:B≤h.heap.size:=by have:=l.row.lt;have:=l.low.1.1;omega
 clear X e1 e2 e3 e4 K Y m;go_region_law (refine step_append_lies _ rfl _ _ 24 rfl B 114 ak (.agg #[.int .i64 0,.int .i64 0,.string ByteArray.empty,.slice none 0 0,.slice none 0 0]) 5 80 Tryz.underlying24 al ao ap aq rfl (by decide) (.slice y (N).length z) (N).length (Ir (N) (p) (s)) rfl aa ⟨h.heap.size,0,none⟩ 1 1 [.int .i64 x.op,.int .i64 x.num,.string x.text,.slice b x.names.length d,.slice f x.kids.length g] rfl rfl Z (by intro u hu;simp at hu;rcases hu with rfl | rfl | rfl | rfl | rfl <;> rfl) (by decide) (by unfold maxLen;omega) (by omega) (by simp;omega) _ rfl ?_;intro g7 c7 M ac o ad ax;have O:An M i #[.pointer (some ⟨R,0,none⟩),nd,lt,.bool A] 99:=⟨(o.block i E.lt (fun e=>ab e.symm)).trans E.out⟩;have ae:=O.cell 1;have ay:=O.frozen 1)
 all_goals
  have af:(h.alloc (.cells #[.int .i64 x.op,.int .i64 x.num,.string x.text,.slice b x.names.length d,.slice f x.kids.length g] 114)).grownBy M (nd).ownBlock:=by rw[Aa J];exact ⟨o.os,o.tape,o.output,o.size,o.block⟩
  obtain ⟨P,ag⟩:=l.pushN (g7:=g7) (c7:=c7) (x:=x) (u:= .slice b x.names.length d) (k:= .slice f x.kids.length g) _ aw H I (Aa V).1 (Aa V).2 (Aa ar) af ac (by rw[Aa J];exact ad.imp id (fun e=>by rw[e];show (h.alloc _).heap.size=_;simp));have ah:=F.trans ag;clear ac o ad ax O E av au d1 d2 d3 d4 d5 Z aa af ag;clear ae ay;generalize M.setCell ⟨i,1,none⟩ (.slice (some ⟨g7,0,none⟩) ((N).length+1) c7)=az at P ah ⊢;clear ab C l F H I;have ae:az.cell? ⟨i,1,none⟩=some (.slice (some ⟨g7,0,none⟩) ((N).length+1) c7):=P.row.cell 1;go_wp2_with fail
  go_ret
  exact ⟨by simp,_,P,ah⟩
def GF (B R gb:Nat) (a:Option Addr) (n c m:Nat) (L:List (ByteArray × Int)) (nd lt:Value) (w:World):Prop:=
 ∃ N nv kv wild,PW w B R gb a n c N L nd lt nv kv wild∧N.length=m
def Eu (B R gb:Nat) (a:Option Addr) (n c m top:Nat) (L:List (ByteArray × Int)) (nd lt:Value) (w:World) (r:Ending) (w':World):Prop:=
 (∃ k:Int,r= .returned (.int .i64 k))∧∃ m' nd',m≤m'∧m'≤m+top∧GF B R gb a n c m' L nd' lt w'∧Gk B R gb lt nd w nd' w'
theorem GF.below {B R b:Nat}{a:Option Addr}{n c m:Nat}{L:List (ByteArray × Int)}{nd lt:Value}{w w':World}(h:GF B R b a n c m L nd lt w)(d:Below w.heap.size w w'):GF B R b a n c m L nd lt w':=by
 obtain ⟨N,f,g,i,C,e⟩:=h;exact ⟨N,f,g,i,C.below d,e⟩
theorem GF.touch {B R b:Nat}{a:Option Addr}{n c m:Nat}{L:List (ByteArray × Int)}{nd lt:Value}{w w':World}(h:GF B R b a n c m L nd lt w)(t:Ai R (R+1) w w')(d:Cr w' R a n c):GF B R b a n c m L nd lt w':=by
 obtain ⟨N,f,g,i,C,e⟩:=h;exact ⟨N,f,g,i,C.touch t d,e⟩
theorem GF.lt {B R b:Nat}{a:Option Addr}{n c m:Nat}{L:List (ByteArray × Int)}{nd lt:Value}{w:World}(h:GF B R b a n c m L nd lt w):(B≤w.heap.size∧b < w.heap.size∧R < w.heap.size)∧(B≤b∧B≤R)∧Cr w R a n c:=by
 obtain ⟨N,d,f,g,C,e⟩:=h;have h1:=C.row.lt;have h2:=C.rd.lt;have h3:=C.low.1;exact ⟨⟨by omega,h1,h2⟩,h3,C.rd⟩
theorem GF.cells {B R b:Nat}{a:Option Addr}{n c m:Nat}{L:List (ByteArray × Int)}{nd lt:Value}{w:World}(h:GF B R b a n c m L nd lt w):∃ d f g i j,nd= .slice d m f∧lt= .slice g L.length i∧w.cell? ⟨b,0,none⟩=some (.pointer (some ⟨R,0,none⟩))∧w.cell? ⟨b,1,none⟩=some nd∧w.cell? ⟨b,2,none⟩=some lt∧w.cell? ⟨b,3,none⟩=some (.bool j):=by
 obtain ⟨N,k,l,j,C,e⟩:=h;obtain ⟨d,f,h1,-⟩:=Ah C.nodes.own;obtain ⟨g,i,h2,-⟩:=Ah C.lets;exact ⟨d,f,g,i,j,by rw[h1,e],h2,C.row.cell 0,C.row.cell 1,C.row.cell 2,C.row.cell 3⟩
theorem Bc {B R b:Nat}{a:Option Addr}{n c m:Nat}{L:List (ByteArray × Int)}{nd lt:Value}{w:World}(h:GF B R b a n c m L nd lt w)(hm:m+1≤1000000)(op num:Int)(d:ByteArray)(f:num≤9223372036854775807)(g:d.size≤1048576):
  Calls Tryz.prog 100 #[.pointer (some ⟨b,0,none⟩),.agg #[.int .i64 op,.int .i64 num,.string d,.slice none 0 0,.slice none 0 0]] w (Eu B R b a n c m 1 L nd lt w):=by
 obtain ⟨N,p,t,u,C,e⟩:=h;refine (KY C (by omega) ⟨op,num,d, [], []⟩ ⟨⟨by simp,by simp,fun s hs=>by cases hs⟩,g,f⟩ none 0 none 0 (World.ownsRow_nil _ _ _ _) (World.ownsRow_nil _ _ _ _) (fun j i q hq e=>by cases e) (fun j i q hq e=>by cases e)).mono ?_;rintro r w' ⟨rfl,k,l,o⟩;exact ⟨⟨_,rfl⟩,m+1,k,by omega,by omega,⟨_,_,_,_,l,by simp[e]⟩,o⟩
theorem OW {B R f:Nat}{a:Option Addr}{n c m:Nat}{L:List (ByteArray × Int)}{nd lt:Value}{b w:World}(h0:GF B R f a n c m L nd lt b)(T:Ai R (R+1) b w)(k:Cr w R a n c)(hm:m+1≤1000000)(K:List ByteArray)(x:Option Addr)(g:Nat)(h:CT w b.heap.size x K g)(hl:K.length≤64):
  Calls Tryz.prog 100 #[.pointer (some ⟨f,0,none⟩),.agg #[.int .i64 4,.int .i64 0,.string ⟨#[]⟩,.slice x K.length g,.slice none 0 0]] w (Eu B R f a n c m 1 L nd lt w):=by
 obtain ⟨N,u,v,y,d,e⟩:=h0;have C:=d.touch T k;have l:B≤b.heap.size:=by have:=d.row.lt;have:=d.low.1.1;omega
 refine (KY C (by omega) ⟨4,0,⟨#[]⟩,K, []⟩ ⟨⟨by show K.length≤1048576;omega,by simp,fun s hs=>by have:=h.small s hs;unfold maxLen;omega⟩,by show (⟨#[]⟩:ByteArray).size≤1048576;decide,by show (0 :Int)≤9223372036854775807;decide⟩ x g none 0 (Ch h.own l) (World.ownsRow_nil _ _ _ _) (fun j i q hq e=>?_) (fun j i q hq e=>by cases e)).mono ?_
 ·have h1:=(d.nodes.lts.2.1 j i q hq).2;have h2:=(h.own.lt q e).1;omega
 ·rintro r w' ⟨rfl,o,p,t⟩;exact ⟨⟨_,rfl⟩,m+1,o,by omega,by omega,⟨_,_,_,_,p,by simp[e]⟩,t⟩
theorem TO (w:World)(b:List Int)(a:Array Value)(n:Nat)(c:a.toList=AN b)(h:a.size=n)(hm:n≤maxLen):(w.alloc (.cells a 3)).ownsRow w.heap.size 3 1 (.slice (some ⟨w.heap.size,0,none⟩) n n) n (AN b):=by
 refine ⟨by rw[← c];simp[h],.inr ⟨w.heap.size,n,a,rfl,NLN,heap_alloc_new w _,NLN,hm,by omega, ?_⟩⟩;rw[Nat.mul_one,List.take_of_length_le (by simp;omega),c]
theorem TP {B R k:Nat}{a:Option Addr}{n c m:Nat}{L:List (ByteArray × Int)}{nd lt:Value}{w:World}(h:GF B R k a n c m L nd lt w)(hm:m+1≤1000000)(b:List Int)(d:Array Value)(j:Nat)(l:d.toList=AN b)(f:d.size=j)(h3:j≤3)(op:Int)(g:World)(o:Below (w.alloc (.cells d 3)).heap.size (w.alloc (.cells d 3)) g):
  Calls Tryz.prog 100 #[.pointer (some ⟨k,0,none⟩),.agg #[.int .i64 op,.int .i64 0,.string ⟨#[]⟩,.slice none 0 0,.slice (some ⟨w.heap.size,0,none⟩) j j]] g (Eu B R k a n c m 1 L nd lt g):=by
 obtain ⟨N,A,E,F,i,e⟩:=h;have p:=(Below.refl w.heap.size w).alloc NLN (.cells d 3);have C:=(i.below p).below o;have t:B≤w.heap.size:=by have:=i.row.lt;have:=i.low.1.1;omega
 have u:b.length=j:=by
  have:=congrArg List.length l;simp[AN] at this;omega
 subst u;have ok:=TO w b d b.length l f (by unfold maxLen;omega);have v:=Ac (w':=g) ok (fun q hq=>o.block q (ok.lt q hq).2);refine (KY C (by omega) ⟨op,0,⟨#[]⟩, [],b⟩ ⟨⟨by simp,by show b.length≤1048576;omega,fun s hs=>by cases hs⟩,by show (⟨#[]⟩:ByteArray).size≤1048576;decide,by show (0 :Int)≤9223372036854775807;decide⟩ none 0 (some ⟨w.heap.size,0,none⟩) b.length (World.ownsRow_nil _ _ _ _) (Ch v t) (fun j f q hq e=>by cases e) (fun j f q hq e=>?_)).mono ?_
 ·have h1:w.heap.size=q:=by simpa[Value.ownBlock] using e
  have:=(i.nodes.lts.2.2 j f q hq).2;omega
 ·rintro r w' ⟨rfl,x,y,z⟩;exact ⟨⟨_,rfl⟩,m+1,x,by omega,by omega,⟨_,_,_,_,y,by simp[e]⟩,z⟩
end Go.Proofs.YtdldimphcpojoaaGreatDoor
namespace Go.Proofs.YtdldimphcpojoaaGreatDoor
set_option maxRecDepth 100000
set_option maxHeartbeats 3200000
open Go.RowKit
set_option linter.unusedVariables false
variable {aY : Addr} {pb g c : Nat} {T : List Af} {tl : Nat}
theorem Oe {P:Nat→Prop} :∀ n,P n→∃ m,P m∧∀ i,P i→m≤i:=by
 intro n
 induction n using Nat.strongRecOn with
 | ind n a=>
  intro h;by_cases hx:∃ i,i < n∧P i
  ·obtain ⟨i,hi,b⟩:=hx;exact a i hi b
  ·exact ⟨n,h,fun i hi=>by
    by_cases hl:i < n
    ·exact absurd ⟨i,hl,hi⟩ hx
    ·omega⟩
open Classical in
noncomputable def Bu (P:Nat→Prop):Nat:=if h:∃ m,P m∧∀ i,P i→m≤i then Classical.choose h else 0
theorem EY {P:Nat→Prop}(h:∃ n,P n):P (Bu P):=by
 obtain ⟨n,a⟩:=h;have hx:=Oe n a;rw[Bu,dif_pos hx];exact (Classical.choose_spec hx).1
theorem Te {P:Nat→Prop}{n:Nat}(h:P n):Bu P≤n:=by
 have hx:=Oe n h;rw[Bu,dif_pos hx];exact (Classical.choose_spec hx).2 n h
theorem Gp {P a:Nat→Prop}{n:Nat}(h:n < Bu P)(hq:a n):Bu a < Bu P:=Nat.lt_of_le_of_lt (Te hq) h
theorem Sh (k:Nat)(a:Nat)(b:List Af):NV k b=CF k (CW a b):=by
 cases b with
 | nil=>
  show none=_;rw[CF,Eq.comm,Option.map_eq_none_iff,List.find?_eq_none];intro p _;show ¬ see p.1 (eT a)=true;rw[show see p.1 (eT a)=false from rfl];decide
 | cons t r=>rfl
def WB (aY:Addr) (pb g c:Nat) (T:List Af) (tl:Nat) (lv:Nat) (ts:List Af) (x:PR) (w:World) (n:Nat) (v e:Value) (wr:World):Prop:=
 ((∃ q b,e=BS b∧FT v∧x= .bad q∧Uu aY tl q b wr∧n=0)∨
   (∃ e0 p0 r k,e= .nilIface∧v=Ex.val e0∧Er e0 p0∧e0.own (pb+1) wr∧Pp wr pb g c T tl r k∧D (.more lv p0) r x∧r.length < ts.length∧n=r.length+1))∧Ai pb (pb+1) w wr
theorem Qr (P: 17≤pb)(lv:Nat)(a:List Af)(x:PR)(d:D (.chain lv) a x)(Q:∀ r x,D (.opd lv) r x→r.length≤a.length→CS aY pb g c T tl (.opd lv) r x):CS aY pb g c T tl (.chain lv) a x:=by
 intro w aw h S;show Calls Tryz.prog 127 #[.pointer (some ⟨pb,0,none⟩),.int .i64 (lv:Int)] w (EQ aY pb g c T tl x w);have U:∃ y,D (.opd lv) a y∧(∀ q,y= .bad q→x= .bad q)∧(∀ e r,y= .ok e r→D (.more lv e) r x∧r.length < a.length):=by
  cases d with
  | chain_bad d=>exact ⟨_,d,fun q e=>(by cases e;rfl),fun e r h=>by cases h⟩
  | chain d d2=>exact ⟨_,d,fun q e=>(by cases e),fun e r h=>by cases h;exact ⟨d2,d.less rfl⟩⟩
 obtain ⟨y,E,F,H⟩:=U;have ax:Hid (Calls Tryz.prog 133 #[.pointer (some ⟨pb,0,none⟩),.int .i64 (lv:Int)] w (EQ aY pb g c T tl y w)):=Ab (Q _ _ E NLN w aw h S);have I:=Ab (And.intro F H);have ag:=Ab S;have ay:=Ab Q;clear h S Q F H E d;go_enter Tryz.func127,Tryz.ntmps127
 go_wp2_with fail
 refine (Aa ax).mono ?_;intro r az s;have J:Hid (∃ v e,r= .returned (.tuple #[v,e])∧FT v∧FT e∧∃ n,WB aY pb g c T tl lv a x w n v e az):=by
  cases y with
  | bad q=>
   obtain ⟨⟨v,b,rfl,i,R⟩,j⟩:=s;exact ⟨v,_,rfl,i,.inr ⟨_,_,rfl⟩,0,.inl ⟨q,b,rfl,i,(Aa I).1 q rfl,R,rfl⟩,j⟩
  | ok p q=>
   obtain ⟨⟨e,V,rfl,he,z,W⟩,aA⟩:=s;obtain ⟨d2,hl⟩:=(Aa I).2 p q rfl;exact ⟨_,_,rfl,e.val_if,.inl rfl,q.length+1,.inr ⟨e,p,q,V,rfl,rfl,he,z,W,d2,hl,rfl⟩,aA⟩
 obtain ⟨v,e,rfl,i,he,n,l⟩:=Aa J;clear J s;have A:=Ab l;clear l;dsimp only;go_wp2_with fail
 go_loopw [6,7] (fun v e wr=>∃ n,WB aY pb g c T tl lv a x w n v e wr) (fun v e wr=>Bu (fun n=>WB aY pb g c T tl lv a x w n v e wr))
 case atStart=>exact ⟨n,Aa A⟩
 case round=>
  clear A i he;have hl:=EY hrel;have M:=Ab (show ∀ n X e' w',n < Bu (fun n=>WB aY pb g c T tl lv a x w n u6 u7 wr)→WB aY pb g c T tl lv a x w n X e' w'→Bu (fun n=>WB aY pb g c T tl lv a x w n X e' w') < Bu (fun n=>WB aY pb g c T tl lv a x w n u6 u7 wr) from fun n X e' w' h1 h2=>Gp h1 h2);generalize ah:Bu (fun n=>WB aY pb g c T tl lv a x w n u6 u7 wr)=m at hl M;have ai:=Ab ah;clear ah;clear hrel;obtain ⟨⟨q,b,rfl,i,hx,R,hm⟩ | ⟨K,Y,r,k,rfl,rfl,he,z,Z,aj,ak,hm⟩,j⟩:=hl
  ·have aa:=Ab hx;clear hx hm M;rcases i with rfl | ⟨aD,aE,rfl⟩
   all_goals
    dsimp only[BS];go_wp2_with fail
    go_ret2
    rw[Aa aa];exact ⟨⟨.nilIface,b,rfl,.inl rfl,R⟩,j⟩
  ·have al:=Ab (EE (aY:=aY) lv Z ((Aa ag).touch j P));have ao:=Ab Z;have N:=Ab (And.intro he z);have ab:=Ab (And.intro ak hm);have U:(CF lv (CW tl r)=none∧x= .ok Y r)∨(∃ t u op y,r=t ::u∧CF lv t=some op∧D (.opd lv) u y∧(∀ q,y= .bad q→x= .bad q)∧(∀ f q,y= .ok f q→D (.more lv (.bin t.at_ op Y f)) q x∧q.length < u.length)):=by
    cases aj with
    | more_no h=>exact .inl ⟨by rw[← Sh];exact h,rfl⟩
    | @more_bad _ _ t r q op h d=>exact .inr ⟨t,r,op,_,rfl,h,d,fun q e=>(by cases e;rfl),fun f q e=>by cases e⟩
    | @more _ _ f t r q op x h d d2=>exact .inr ⟨t,r,op,_,rfl,h,d,fun q e=>(by cases e),fun f q e=>by cases e;exact ⟨d2,d.less rfl⟩⟩
   clear he z ak hm aj Z;obtain ⟨aF,aG,B⟩:=K.form;rcases U with ⟨l,hx⟩ | ⟨t,u,op,y,rfl,ap,E,F,H⟩
   ·have aa:=Ab hx;have A:=Ab l;have aq:=Ab B;rw[B];clear hx l B M;go_wp2_with fail
    refine (Aa al).mono ?_;rintro ac aB ⟨L,C⟩;rw[WA,Aa A] at L;subst L;dsimp only;go_wp2_with fail
    go_ret2
    rw[Aa aa];have o:=C.alloc C.size (.cells #[.int .i64 0,.int .i64 0,.string ⟨#[]⟩] 220);exact ⟨⟨K,k,by rw[Aa aq];rfl,(Aa N).1,K.own_touch (Ai.of_below o NLN) (Aa N).2,(Aa ao).below o⟩,j.allP o⟩
   ·have A:=Ab (show CF lv (CW tl (t ::u))=some op from ap);have aq:=Ab B;have I:=Ab (And.intro F H);have ar:=Ab (fun w' O (ad:Below wr.heap.size wr w')=>Ky P lv op O K Y t u y w' k ((Aa ao).below ad) (((Aa ag).touch j P).below ad) (Aa N).1 (K.own_touch (Ai.of_below ad NLN) (Aa N).2) (Aa ay u y E (by have:=(Aa ab).1;simp at this;omega)));rw[B] at ar ai ⊢;clear ap B F H E;go_wp2_with fail
    refine (Aa al).mono ?_;rintro ac aB ⟨L,C⟩;rw[WA,Aa A] at L;obtain ⟨O,rfl⟩:=L;dsimp only;have o:=C.alloc C.size (.cells #[.int .i64 op,.int .i64 (lv:Int),.string O] 220);go_wp2_with fail
    refine (Aa ar _ O o).mono ?_;intro ac aC s;have J:Hid (∃ v e,ac= .returned (.tuple #[v,e])∧FT v∧FT e∧∃ n,n < m∧WB aY pb g c T tl lv a x w n v e aC):=by
     have h1:=(Aa ab).1;have h2:=(Aa ab).2;simp only[List.length_cons] at h1 h2;cases y with
     | bad q=>
      obtain ⟨⟨v,b,rfl,i,R⟩,ae⟩:=s;exact ⟨v,_,rfl,i,.inr ⟨_,_,rfl⟩,0,by omega,.inl ⟨q,b,rfl,i,(Aa I).1 q rfl,R,rfl⟩,(j.allP o).trans ae⟩
     | ok f q=>
      obtain ⟨⟨e,V,rfl,he,z,W⟩,ae⟩:=s;obtain ⟨d2,hl⟩:=(Aa I).2 f q rfl;exact ⟨_,_,rfl,e.val_if,.inl rfl,q.length+1,by omega,.inr ⟨e,_,q,V,rfl,rfl,he,z,W,d2,by omega,rfl⟩,(j.allP o).trans ae⟩
    obtain ⟨v,e,rfl,i,he,au,av,l⟩:=Aa J;have af:=Ab (And.intro av l);clear J s l av o C;dsimp only;go_wp2_with fail
    go_roundw
    case rel=>exact ⟨au,(Aa af).2⟩
    case measure=>rw[Aa ai];exact Aa M au _ _ _ (Aa af).1 (Aa af).2
end Go.Proofs.YtdldimphcpojoaaGreatDoor

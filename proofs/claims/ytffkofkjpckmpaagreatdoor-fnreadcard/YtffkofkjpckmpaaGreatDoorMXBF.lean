/-
  ONP, KTB, KTC, KTD, KTE, KTG. Own work.
-/
import Derived.Test.YtffkofkjpckmpaaGreatDoorMXAV
import Derived.Test.YtffkofkjpckmpaaGreatDoorMXAL
import Derived.Test.YtffkofkjpckmpaaGreatDoorMXAQ
import Derived.Test.YtffkofkjpckmpaaGreatDoorMXBH
namespace Go.Proofs.YtffkofkjpckmpaaGreatDoor
open Go.RowKit
set_option linter.unusedVariables false
structure AdE (w:World) (lo hi:Nat) (x:Option Addr) (n cx:Nat) (y:Option Addr) (m cy:Nat) (z:Option Addr) (p cz:Nat) (N:List Nd) (nv kv:List Value) (L:List St) (T:List Int):Prop where
 nd:Cj w lo (.slice x n cx) N nv kv
 st:w.ownsRow lo 51 4 (.slice y m cy) m (Dm L)
 ty:w.ownsRow lo 3 1 (.slice z p cz) p (AF T)
 apart:∀ q,(Value.slice z p cz).ownBlock=some q→∀ j,(hj:j < kv.length)→kv[j].ownBlock≠some q
 inN:InN (.slice x n cx) nv kv hi
 inS:∀ q,(Value.slice y m cy).ownBlock=some q→q < hi
 inT:∀ q,(Value.slice z p cz).ownBlock=some q→q < hi
 top:hi≤w.heap.size
 nn:N.length=n
 ns:L.length=m
 nt:T.length=p
def AcM (N:List Nd) (L:List St) (T:List Int):Prop:=(N.length≤65535∧∀ x∈N,okN x∧x.text.size≤1048576∧x.names.length+x.kids.length≤65535)∧(L.length≤65535∧∀ s∈L,s.name.size≤1048576)∧T.length≤65535
theorem Cj.nds {w:World}{lo n c:Nat}{a:Option Addr}{N:List Nd}{d f:List Value}(h:Cj w lo (.slice a n c) N d f)(q:N.length=n)(hs:n≤1048576)(ok:∀ x∈N,okN x∧x.text.size≤1048576):IZ w a n c N:=by
 refine ⟨q,hs,fun x hx=>(ok x hx).2,fun j b=>?_⟩;have l:j < d.length:=by rw[h.len];exact b
 have m:j < f.length:=by rw[h.lenk];exact b
 have k:=Qf N d f j b l m;have r:=k 0 (by decide);have s:=k 1 (by decide);have t:=k 2 (by decide);have o:=k 3 (by decide);have p:=k 4 (by decide);simp only[MI,zr,zh,zc] at r s t o p;obtain ⟨g,A⟩:∃ g,a=some ⟨g,0,none⟩:=by
  rcases h.own.2 with ⟨_,h0⟩ | ⟨g,cap,H,u,_⟩
  ·omega
  ·simp only[Value.slice.injEq] at u;exact ⟨g,u.1⟩
 subst A;subst q;have hl:=VS N d f h.len h.lenk;have cell:∀ i,i < 5→w.cell? ⟨g,0+j * 5+i,none⟩=(JM N d f)[j * 5+i]? :=fun i hi=>by
  rw[zW];exact h.own.cellAt (g:=g) (n:=N.length) (j * 5+i) (by omega)
 obtain ⟨an,B,hu⟩:=DH (h.names j b l);obtain ⟨C,E,F⟩:=DH (h.kids j b m);have v:=h.names j b l;have y:=h.kids j b m;rw[hu] at o v;rw[F] at p y;have z:=ok _ (zP b);refine ⟨g,0,rfl,(h.own.lt g rfl).2,an,_,B,C,_,E,(cell 0 (by omega)).trans r,(cell 1 (by omega)).trans s,(cell 2 (by omega)).trans t,(cell 3 (by omega)).trans o,(cell 4 (by omega)).trans p,BL.of_owns v (fun i hi=>?_),Qv y rfl z.1.2.1⟩;rw[Cw _ i hi];exact z.1.2.2 _ (zP hi)
theorem GT {w:World}{lo n c:Nat}{a:Option Addr}{L:List St}(h:w.ownsRow lo 51 4 (.slice a n c) n (Dm L))(hl:L.length=n)(l:n≤1048576)(ok:∀ s∈L,s.name.size≤1048576):PO w a n c L:=by
 refine ⟨hl,l,ok,fun j m=>?_⟩;have b:=VT L j m;have d:=b 0 (by decide);have f:=b 1 (by decide);have i:=b 2 (by decide);have k:=b 3 (by decide);simp only[zr,zh,zc] at d f i k;obtain ⟨x,o,e,hx⟩:=Af h;cases e;obtain ⟨g,rfl,p,hc⟩:=hx (by omega);refine ⟨g,0,rfl,(h.lt g rfl).2, ?_, ?_, ?_, ?_⟩
 ·rw[zW];exact hc _ _ d
 ·rw[zW];exact hc _ _ f
 ·rw[zW];exact hc _ _ i
 ·rw[zW];exact hc _ _ k
def ndG (x:Nd):Prop:=okN x∧x.text.size≤1048576∧x.num≤9223372036854775807
def Og (L:List (ByteArray × Int)):List Value:=L.flatMap fun x=> [.string x.1,.int .i64 x.2]
theorem W8 (L:List (ByteArray × Int))(x:ByteArray × Int):Og (L ++ [x])=Og L ++ [.string x.1,.int .i64 x.2]:=by simp[Og]
theorem VO:∀ (L:List (ByteArray × Int)) (j:Nat) (h:j < L.length),(Og L)[j * 2]? =some (.string L[j].1)∧(Og L)[j * 2+1]? =some (.int .i64 L[j].2)
 |x ::L,0,_=>⟨rfl,rfl⟩
 |x ::L,j+1,h=>by
  have a:=VO L j (by simpa using h);have e1:(j+1) * 2=j * 2+2:=by omega
  rw[e1];exact a
structure TE (w:World) (B R gb:Nat) (a:Option Addr) (n c:Nat) (N:List Nd) (L:List (ByteArray × Int)) (nd lt:Value) (nv kv:List Value) (wild:Bool):Prop where
 row:Am w gb #[.pointer (some ⟨R,0,none⟩),nd,lt,.bool wild] 131
 rd:CE w R a n c
 nodes:Cj w B nd N nv kv
 lets:w.ownsRow B 134 2 lt L.length (Og L)
 low:(B≤gb∧B≤R)∧(0 < n→∀ q,a=some q→q.block < B)
 good:(∀ x∈N,ndG x)∧∀ x∈L,x.1.size≤1000
structure Gk (B R gb:Nat) (lt nd:Value) (w:World) (nd':Value) (w':World):Prop where
 low:Below B w w'
 block:∀ k,k < w.heap.size→k≠gb→k≠R→nd.ownBlock≠some k→lt.ownBlock≠some k→w'.heap[k]? =w.heap[k]?
 newN:∀ q,nd'.ownBlock=some q→nd.ownBlock=some q∨w.heap.size≤q
theorem Gk.trans {B R a:Nat}{lt nd b c:Value}{w d f:World}(h:Gk B R a lt nd w b d)(k:Gk B R a lt b d c f):Gk B R a lt nd w c f:=by
 refine ⟨h.low.trans k.low,fun q h1 h2 h3 h4 h5=>?_,fun q hq=>?_⟩
 ·refine (k.block q (zY h1 h.low.size) h2 h3 (fun e=>?_) h5).trans (h.block q h1 h2 h3 h4 h5);rcases h.newN q e with e | e
  ·exact h4 e
  ·omega
 ·rcases k.newN q hq with e | e
  ·exact h.newN q e
  ·have:=h.low.size;exact .inr (by omega)
theorem Gk.of_below {B R a:Nat}{lt nd:Value}{w w':World}(h:Below w.heap.size w w')(b:B≤w.heap.size):Gk B R a lt nd w nd w':=
 ⟨h.mono b,fun k h1 _ _ _ _=>h.block k h1,fun q hq=> .inl hq⟩
theorem Gk.of_touch {B R a:Nat}{lt nd:Value}{w w':World}(h:Ak R (R+1) w w')(b:B≤R)(c:R < w.heap.size):Gk B R a lt nd w nd w':=
 ⟨⟨h.os,h.tape,h.output,h.size,fun k hk=>h.block k (by omega) (.inl (by omega))⟩,fun k h1 _ h3 _ _=>h.block k h1 (by omega),fun q hq=> .inl hq⟩
theorem TE.below {w w':World}{B R d:Nat}{a:Option Addr}{n c:Nat}{N:List Nd}{L:List (ByteArray × Int)}{nd lt:Value}{f g:List Value}{i:Bool}(h:TE w B R d a n c N L nd lt f g i)(b:Below w.heap.size w w'):TE w' B R d a n c N L nd lt f g i:=
 ⟨h.row.after b NLN,h.rd.after b h.rd.lt,h.nodes.blocks (fun k _ hk=>b.block k hk),Ac h.lets (fun q hq=>b.block q (h.lets.lt q hq).2),h.low,h.good⟩
theorem EQ {w:World}{b c:Nat}{cs f:Array Value}{t u:TypeId}(h:Am w b cs t)(k:Am w c f u)(g:t≠u):b≠c:=fun e=>by
 have d:=h.out;have a:=k.out;rw[e] at d;rw[d] at a;injection a with a;injection a with _ a;exact g a
theorem TE.touch {w w':World}{B R g:Nat}{a:Option Addr}{n c:Nat}{N:List Nd}{L:List (ByteArray × Int)}{nd lt:Value}{i k:List Value}{l:Bool}(h:TE w B R g a n c N L nd lt i k l)(t:Ak R (R+1) w w')(r:CE w' R a n c):TE w' B R g a n c N L nd lt i k l:=by
 obtain ⟨p,o⟩:=h.rd;have d:∀ q,q < w.heap.size→q≠R→w'.heap[q]? =w.heap[q]? :=fun q h1 h2=>t.block q h1 (by omega);have f:∀ {e size m:Nat} {v:Value} {s:List Value},w.ownsRow B e size v m s→78≠e→∀ q,v.ownBlock=some q→q≠R:=fun u x q hq e=>Ad o.row u x (by rw[hq,e]);exact ⟨⟨(d g h.row.lt (EQ h.row o.row (by decide))).trans h.row.out⟩,r,
  h.nodes.upto (fun q hq=>d q (h.nodes.lts.1 q hq).2 (f h.nodes.own (by decide) q hq)) (fun j b q hq=>d q (h.nodes.lts.2.1 j b q hq).2 (f (h.nodes.names j (by rw[← h.nodes.len];exact b) b) (by decide) q hq)) (fun j b q hq=>d q (h.nodes.lts.2.2 j b q hq).2 (f (h.nodes.kids j (by rw[← h.nodes.lenk];exact b) b) (by decide) q hq)),
  Ac h.lets (fun q hq=>d q (h.lets.lt q hq).2 (f h.lets (by decide) q hq)),h.low,h.good⟩
theorem TE.pushN {f g:World}{B R d g7 c7:Nat}{a:Option Addr}{n c:Nat}{N:List Nd}{L:List (ByteArray × Int)}{nd lt u k:Value}{s t:List Value}{A:Bool}{x:Nd}(C:TE f B R d a n c N L nd lt s t A)(w:Obj)(I:B≤f.heap.size)(hu:f.ownsRow B 9 1 u x.names.length (x.names.map Value.string))(hk:f.ownsRow B 3 1 k x.kids.length (AF x.kids))
  (J:∀ j,(i:j < s.length)→∀ q,s[j].ownBlock=some q→u.ownBlock≠some q)(K:∀ j,(i:j < t.length)→∀ q,t[j].ownBlock=some q→k.ownBlock≠some q)(hx:ndG x)
  (m:(f.alloc w).grownBy g nd.ownBlock)(M:g.ownsRow B 124 5 (.slice (some ⟨g7,0,none⟩) (N.length+1) c7) (N.length+1) (JM N s t ++MI x u k))(O:nd.ownBlock=some g7∨g7=f.heap.size+1):
  TE (g.setCell ⟨d,1,none⟩ (.slice (some ⟨g7,0,none⟩) (N.length+1) c7)) B R d a n c (N ++ [x]) L (.slice (some ⟨g7,0,none⟩) (N.length+1) c7) lt (s ++ [u]) (t ++ [k]) A∧Gk B R d lt nd f (.slice (some ⟨g7,0,none⟩) (N.length+1) c7) (g.setCell ⟨d,1,none⟩ (.slice (some ⟨g7,0,none⟩) (N.length+1) c7)):=by
 have z:=(Below.refl f.heap.size f).alloc NLN w;have P:=C.below z;have Q:=Ac (w':=f.alloc w) hu (fun q hq=>z.block q (hu.lt q hq).2);have S:=Ac (w':=f.alloc w) hk (fun q hq=>z.block q (hk.lt q hq).2);have T:nd.ownBlock≠some d:=Ad C.row C.nodes.own (by decide);have v:Am g d #[.pointer (some ⟨R,0,none⟩),nd,lt,.bool A] 131:=⟨(Ax m d C.row.lt T).trans C.row.out⟩
 have o:=P.nodes.snoc Q S J K M m;have E:g.ownsRow B 134 2 lt L.length (Og L):=Ac C.lets (fun q hq=>Ax m q (C.lets.lt q hq).2 (fun e=>Ap C.lets C.nodes.own (by decide) q hq e));have r:∀ q,q≠d→(g.setCell ⟨d,1,none⟩ (.slice (some ⟨g7,0,none⟩) (N.length+1) c7)).heap[q]? =g.heap[q]? :=fun q hq=>heap_setCell_other g ⟨d,1,none⟩ q _ hq;obtain ⟨p,l⟩:=C.rd;have U:R≠d:=EQ l.row C.row (by decide);have F:Below B f (g.setCell ⟨d,1,none⟩ (.slice (some ⟨g7,0,none⟩) (N.length+1) c7)):=((z.mono I).grown m (by simp;omega) (fun q hq=>(C.nodes.lts.1 q hq).1)).setCell (p:=⟨d,1,none⟩) C.low.1.1 _;refine ⟨⟨v.set 1 _, ?_,o.upto (fun q hq=>r q (fun e=>Ad v o.own (by decide) (by rw[hq,e]))) (fun j i q hq=>r q (fun e=>Ad v (o.names j (by rw[← o.len];exact i) i) (by decide) (by rw[hq,e]))) (fun j i q hq=>r q (fun e=>Ad v (o.kids j (by rw[← o.lenk];exact i) i) (by decide) (by rw[hq,e]))),Ac E (fun q hq=>r q (fun e=>Ad v E (by decide) (by rw[hq,e]))),C.low,⟨fun y hy=>?_,C.good.2⟩⟩,⟨?_,fun q h1 h2 _ h3 _=>(r q h2).trans (Ax m q h1 h3),fun q hq=>?_⟩⟩
 ·refine ⟨p,⟨((r R U).trans (Ax m R l.row.lt (Ad l.row C.nodes.own (by decide)))).trans l.row.out⟩,l.le,l.small,fun j i=>?_⟩;obtain ⟨b,H,V,e1,e2,e3,e4,e5⟩:=l.cells j i;exact ⟨b,H,V,e1,e2,(F.cell (p:=⟨b,H+j,none⟩) (show b < B from C.low.2 (by omega) _ e1)).trans e3,e4,e5⟩
 ·rcases zH.1 hy with h | h
  ·exact C.good.1 y h
  ·rw[zJ.1 h];exact hx
 ·exact F
 ·have e:g7=q:=by simpa[Value.ownBlock] using hq
  subst e;exact O.imp id (fun e=>by omega)
theorem Y4 (n k:Nat)(h:k < n):n - (intOf (.int .i64 ((k:Int)+1))).toNat < n - (intOf (.int .i64 (k:Int))).toNat:=by
 simp[intOf];omega
set_option maxRecDepth 100000
set_option maxHeartbeats 6400000
theorem MV {w:World}{B R i:Nat}{a:Option Addr}{n c:Nat}{N:List Nd}{L:List (ByteArray × Int)}{nd lt:Value}{p s:List Value}{A:Bool}(F:TE w B R i a n c N L nd lt p s A)(aB:N.length+1≤1000000)
  (x:Nd)(hx:ndG x)(b:Option Addr)(d:Nat)(f:Option Addr)(g:Nat)(hu:w.ownsRow B 9 1 (.slice b x.names.length d) x.names.length (x.names.map Value.string))(hk:w.ownsRow B 3 1 (.slice f x.kids.length g) x.kids.length (AF x.kids))
  (S:∀ j,(aj:j < p.length)→∀ q,p[j].ownBlock=some q→(Value.slice b x.names.length d).ownBlock≠some q)(T:∀ j,(aj:j < s.length)→∀ q,s[j].ownBlock=some q→(Value.slice f x.kids.length g).ownBlock≠some q):
  Calls Tryz.prog 139 #[.pointer (some ⟨i,0,none⟩),.agg #[.int .i64 x.op,.int .i64 x.num,.string x.text,.slice b x.names.length d,.slice f x.kids.length g]] w fun r w'=>r= .returned (.int .i64 (N.length:Int))∧∃ U,TE w' B R i a n c (N ++ [x]) L U lt (p ++ [.slice b x.names.length d]) (s ++ [.slice f x.kids.length g]) A∧Gk B R i lt nd w U w':=by
 have ak:=F.row.lt;have V:B≤w.heap.size:=by have:=F.low.1.1;omega
 obtain ⟨al,ao,ap,aq,ar⟩:=info_parts KI;have W:=Ab (And.intro S T);have au:=Ab hx;have t:=(Below.refl w.heap.size w).alloc NLN (.cells #[.int .i64 x.op,.int .i64 x.num,.string x.text,.slice b x.names.length d,.slice f x.kids.length g] 124);have C:=Am.new w #[.int .i64 x.op,.int .i64 x.num,.string x.text,.slice b x.names.length d,.slice f x.kids.length g] 124;have l:=F.below t;have H:Gk B R i lt nd w nd (w.alloc (.cells #[.int .i64 x.op,.int .i64 x.num,.string x.text,.slice b x.names.length d,.slice f x.kids.length g] 124)):=Gk.of_below t V;have I:=Ac (w':=w.alloc (.cells #[.int .i64 x.op,.int .i64 x.num,.string x.text,.slice b x.names.length d,.slice f x.kids.length g] 124)) hu (fun q hq=>t.block q (hu.lt q hq).2);have J:=Ac (w':=w.alloc (.cells #[.int .i64 x.op,.int .i64 x.num,.string x.text,.slice b x.names.length d,.slice f x.kids.length g] 124)) hk (fun q hq=>t.block q (hk.lt q hq).2);have X:w.heap.size < (w.alloc (.cells #[.int .i64 x.op,.int .i64 x.num,.string x.text,.slice b x.names.length d,.slice f x.kids.length g] 124)).heap.size:=by simp
 clear S T hu hk t hx;go_enter Tryz.func139,Tryz.ntmps139
 go_wp2_with fail
 generalize w.alloc (.cells #[.int .i64 x.op,.int .i64 x.num,.string x.text,.slice b x.names.length d,.slice f x.kids.length g] 124)=h at l H I J C X ⊢;generalize w.heap.size=v at C X ak V ⊢;obtain ⟨y,z,m,-⟩:=Af l.nodes.own;have K:=Ab m;have m:=Aa K;obtain ⟨Y,e1,e2,e3,e4⟩:=Lu C;have M:h.cell? ⟨i,1,none⟩=some (nd):=l.row.cell 1;rw[m] at M;have Z:=l.row.frozen 1;have aa:=World.news_of_block (heap_alloc_new h (.cells #[.int .i64 x.op,.int .i64 x.num,.string x.text,.slice b x.names.length d,.slice f x.kids.length g] 124));have av:h.drew.cell? ⟨i,1,none⟩=some (.slice y (N).length z)∧h.drew.frozen? ⟨i,1,none⟩=false:=⟨M,Z⟩
 have d1:h.drew.cell? ⟨v,0,none⟩=some (.int .i64 x.op):=Y;have d2:h.drew.cell? ⟨v,1,none⟩=some (.int .i64 x.num):=e1;have d3:h.drew.cell? ⟨v,2,none⟩=some (.string x.text):=e2;have d4:h.drew.cell? ⟨v,3,none⟩=some (.slice b x.names.length d):=e3;have d5:h.drew.cell? ⟨v,4,none⟩=some (.slice f x.kids.length g):=e4;have ab:(h.alloc (.cells #[.int .i64 x.op,.int .i64 x.num,.string x.text,.slice b x.names.length d,.slice f x.kids.length g] 124)).drew.ownsRow B 124 5 (.slice y (N).length z) (N).length (JM (N) (p) (s)):=by
  have:=l.nodes.own;rw[m] at this;exact (World.ownsRow.alloc this _).drew
 have E:Am (h.alloc (.cells #[.int .i64 x.op,.int .i64 x.num,.string x.text,.slice b x.names.length d,.slice f x.kids.length g] 124)).drew i #[.pointer (some ⟨R,0,none⟩),nd,lt,.bool A] 131:=⟨(l.row.alloc (.cells #[.int .i64 x.op,.int .i64 x.num,.string x.text,.slice b x.names.length d,.slice f x.kids.length g] 124)).out⟩
 have aw:(h.alloc (.cells #[.int .i64 x.op,.int .i64 x.num,.string x.text,.slice b x.names.length d,.slice f x.kids.length g] 124)).drew.cell? ⟨i,1,none⟩=some (.slice y (N).length z):=by
  have:=E.cell 1;rw[m] at this;exact this
 have ac:(Value.slice y (N).length z).ownBlock≠some i:=by rw[← m];exact Ad l.row l.nodes.own (by decide)
 have ax:B≤h.heap.size:=by have:=l.row.lt;have:=l.low.1.1;omega
 clear Y e1 e2 e3 e4 M Z m;go_region_law (refine step_append_lies _ rfl _ _ 24 rfl B 124 al (.agg #[.int .i64 0,.int .i64 0,.string ByteArray.empty,.slice none 0 0,.slice none 0 0]) 5 80 Tryz.underlying24 ao ap aq ar rfl (by decide) (.slice y (N).length z) (N).length (JM (N) (p) (s)) rfl ab ⟨h.heap.size,0,none⟩ 1 1 [.int .i64 x.op,.int .i64 x.num,.string x.text,.slice b x.names.length d,.slice f x.kids.length g] rfl rfl aa (by intro u hu;simp at hu;rcases hu with rfl | rfl | rfl | rfl | rfl <;> rfl) (by decide) (by unfold maxLen;omega) (by omega) (by simp;omega) _ rfl ?_;intro g7 c7 O ad o ae ay;have P:Am O i #[.pointer (some ⟨R,0,none⟩),nd,lt,.bool A] 131:=⟨(o.block i E.lt (fun e=>ac e.symm)).trans E.out⟩;have af:=P.cell 1;have az:=P.frozen 1)
 all_goals
  have ag:(h.alloc (.cells #[.int .i64 x.op,.int .i64 x.num,.string x.text,.slice b x.names.length d,.slice f x.kids.length g] 124)).grownBy O (nd).ownBlock:=by rw[Aa K];exact ⟨o.os,o.tape,o.output,o.size,o.block⟩
  obtain ⟨Q,ah⟩:=l.pushN (g7:=g7) (c7:=c7) (x:=x) (u:= .slice b x.names.length d) (k:= .slice f x.kids.length g) _ ax I J (Aa W).1 (Aa W).2 (Aa au) ag ad (by rw[Aa K];exact ae.imp id (fun e=>by rw[e];show (h.alloc _).heap.size=_;simp));have ai:=H.trans ah;clear ad o ae ay P E aw av d1 d2 d3 d4 d5 aa ab ag ah;clear af az;generalize O.setCell ⟨i,1,none⟩ (.slice (some ⟨g7,0,none⟩) ((N).length+1) c7)=aA at Q ai ⊢;clear ac C l H I J;have af:aA.cell? ⟨i,1,none⟩=some (.slice (some ⟨g7,0,none⟩) ((N).length+1) c7):=Q.row.cell 1;go_wp2_with fail
  go_ret
  exact ⟨by simp,_,Q,ai⟩
def IQ (B R gb:Nat) (a:Option Addr) (n c m:Nat) (L:List (ByteArray × Int)) (nd lt:Value) (w:World):Prop:=
 ∃ N nv kv wild,TE w B R gb a n c N L nd lt nv kv wild∧N.length=m
def UE (B R gb:Nat) (a:Option Addr) (n c m top:Nat) (L:List (ByteArray × Int)) (nd lt:Value) (w:World) (r:Ending) (w':World):Prop:=
 (∃ k:Int,r= .returned (.int .i64 k))∧∃ m' nd',m≤m'∧m'≤m+top∧IQ B R gb a n c m' L nd' lt w'∧Gk B R gb lt nd w nd' w'
theorem IQ.below {B R b:Nat}{a:Option Addr}{n c m:Nat}{L:List (ByteArray × Int)}{nd lt:Value}{w w':World}(h:IQ B R b a n c m L nd lt w)(d:Below w.heap.size w w'):IQ B R b a n c m L nd lt w':=by
 obtain ⟨N,f,g,i,C,e⟩:=h;exact ⟨N,f,g,i,C.below d,e⟩
theorem IQ.touch {B R b:Nat}{a:Option Addr}{n c m:Nat}{L:List (ByteArray × Int)}{nd lt:Value}{w w':World}(h:IQ B R b a n c m L nd lt w)(t:Ak R (R+1) w w')(d:CE w' R a n c):IQ B R b a n c m L nd lt w':=by
 obtain ⟨N,f,g,i,C,e⟩:=h;exact ⟨N,f,g,i,C.touch t d,e⟩
theorem IQ.lt {B R b:Nat}{a:Option Addr}{n c m:Nat}{L:List (ByteArray × Int)}{nd lt:Value}{w:World}(h:IQ B R b a n c m L nd lt w):(B≤w.heap.size∧b < w.heap.size∧R < w.heap.size)∧(B≤b∧B≤R)∧CE w R a n c:=by
 obtain ⟨N,d,f,g,C,e⟩:=h;have h1:=C.row.lt;have h2:=C.rd.lt;have h3:=C.low.1;exact ⟨⟨by omega,h1,h2⟩,h3,C.rd⟩
theorem IQ.cells {B R b:Nat}{a:Option Addr}{n c m:Nat}{L:List (ByteArray × Int)}{nd lt:Value}{w:World}(h:IQ B R b a n c m L nd lt w):∃ d f g i j,nd= .slice d m f∧lt= .slice g L.length i∧w.cell? ⟨b,0,none⟩=some (.pointer (some ⟨R,0,none⟩))∧w.cell? ⟨b,1,none⟩=some nd∧w.cell? ⟨b,2,none⟩=some lt∧w.cell? ⟨b,3,none⟩=some (.bool j):=by
 obtain ⟨N,k,l,j,C,e⟩:=h;obtain ⟨d,f,h1,-⟩:=Af C.nodes.own;obtain ⟨g,i,h2,-⟩:=Af C.lets;exact ⟨d,f,g,i,j,by rw[h1,e],h2,C.row.cell 0,C.row.cell 1,C.row.cell 2,C.row.cell 3⟩
theorem Bj {B R b:Nat}{a:Option Addr}{n c m:Nat}{L:List (ByteArray × Int)}{nd lt:Value}{w:World}(h:IQ B R b a n c m L nd lt w)(hm:m+1≤1000000)(op num:Int)(d:ByteArray)(f:num≤9223372036854775807)(g:d.size≤1048576):
  Calls Tryz.prog 139 #[.pointer (some ⟨b,0,none⟩),.agg #[.int .i64 op,.int .i64 num,.string d,.slice none 0 0,.slice none 0 0]] w (UE B R b a n c m 1 L nd lt w):=by
 obtain ⟨N,p,t,u,C,e⟩:=h;refine (MV C (by omega) ⟨op,num,d, [], []⟩ ⟨⟨by simp,by simp,fun s hs=>by cases hs⟩,g,f⟩ none 0 none 0 (World.ownsRow_nil _ _ _ _) (World.ownsRow_nil _ _ _ _) (fun j i q hq e=>by cases e) (fun j i q hq e=>by cases e)).mono ?_;rintro r w' ⟨rfl,k,l,o⟩;exact ⟨⟨_,rfl⟩,m+1,k,by omega,by omega,⟨_,_,_,_,l,by simp[e]⟩,o⟩
theorem Se {B R f:Nat}{a:Option Addr}{n c m:Nat}{L:List (ByteArray × Int)}{nd lt:Value}{b w:World}(h0:IQ B R f a n c m L nd lt b)(T:Ak R (R+1) b w)(k:CE w R a n c)(hm:m+1≤1000000)(K:List ByteArray)(x:Option Addr)(g:Nat)(h:DQ w b.heap.size x K g)(hl:K.length≤64):
  Calls Tryz.prog 139 #[.pointer (some ⟨f,0,none⟩),.agg #[.int .i64 4,.int .i64 0,.string ⟨#[]⟩,.slice x K.length g,.slice none 0 0]] w (UE B R f a n c m 1 L nd lt w):=by
 obtain ⟨N,u,v,y,d,e⟩:=h0;have C:=d.touch T k;have l:B≤b.heap.size:=by have:=d.row.lt;have:=d.low.1.1;omega
 refine (MV C (by omega) ⟨4,0,⟨#[]⟩,K, []⟩ ⟨⟨by show K.length≤1048576;omega,by simp,fun s hs=>by have:=h.small s hs;unfold maxLen;omega⟩,by show (⟨#[]⟩:ByteArray).size≤1048576;decide,by show (0 :Int)≤9223372036854775807;decide⟩ x g none 0 (Cx h.own l) (World.ownsRow_nil _ _ _ _) (fun j i q hq e=>?_) (fun j i q hq e=>by cases e)).mono ?_
 ·have h1:=(d.nodes.lts.2.1 j i q hq).2;have h2:=(h.own.lt q e).1;omega
 ·rintro r w' ⟨rfl,o,p,t⟩;exact ⟨⟨_,rfl⟩,m+1,o,by omega,by omega,⟨_,_,_,_,p,by simp[e]⟩,t⟩
theorem W9 (w:World)(ks:List Int)(a:Array Value)(n:Nat)(b:a.toList=AF ks)(h:a.size=n)(hm:n≤maxLen):(w.alloc (.cells a 3)).ownsRow w.heap.size 3 1 (.slice (some ⟨w.heap.size,0,none⟩) n n) n (AF ks):=by
 refine ⟨by rw[← b];simp[h],.inr ⟨w.heap.size,n,a,rfl,NLN,heap_alloc_new w _,NLN,hm,by omega, ?_⟩⟩;rw[Nat.mul_one,zk (by simp;omega),b]
theorem Xa {B R i:Nat}{a:Option Addr}{n c m:Nat}{L:List (ByteArray × Int)}{nd lt:Value}{w:World}(h:IQ B R i a n c m L nd lt w)(hm:m+1≤1000000)(ks:List Int)(b:Array Value)(j:Nat)(k:b.toList=AF ks)(d:b.size=j)(h3:j≤3)(op:Int)(f:World)(l:Below (w.alloc (.cells b 3)).heap.size (w.alloc (.cells b 3)) f):
  Calls Tryz.prog 139 #[.pointer (some ⟨i,0,none⟩),.agg #[.int .i64 op,.int .i64 0,.string ⟨#[]⟩,.slice none 0 0,.slice (some ⟨w.heap.size,0,none⟩) j j]] f (UE B R i a n c m 1 L nd lt f):=by
 obtain ⟨N,z,A,E,g,e⟩:=h;have o:=(Below.refl w.heap.size w).alloc NLN (.cells b 3);have C:=(g.below o).below l;have p:B≤w.heap.size:=by have:=g.row.lt;have:=g.low.1.1;omega
 have t:ks.length=j:=by
  have:=congrArg List.length k;simp[AF] at this;omega
 subst t;have ok:=W9 w ks b ks.length k d (by unfold maxLen;omega);have u:=Ac (w':=f) ok (fun q hq=>l.block q (ok.lt q hq).2);refine (MV C (by omega) ⟨op,0,⟨#[]⟩, [],ks⟩ ⟨⟨by simp,by show ks.length≤1048576;omega,fun s hs=>by cases hs⟩,by show (⟨#[]⟩:ByteArray).size≤1048576;decide,by show (0 :Int)≤9223372036854775807;decide⟩ none 0 (some ⟨w.heap.size,0,none⟩) ks.length (World.ownsRow_nil _ _ _ _) (Cx u p) (fun j d q hq e=>by cases e) (fun j d q hq e=>?_)).mono ?_
 ·have h1:w.heap.size=q:=by simpa[Value.ownBlock] using e
  have:=(g.nodes.lts.2.2 j d q hq).2;omega
 ·rintro r w' ⟨rfl,v,x,y⟩;exact ⟨⟨_,rfl⟩,m+1,v,by omega,by omega,⟨_,_,_,_,x,by simp[e]⟩,y⟩
end Go.Proofs.YtffkofkjpckmpaaGreatDoor
namespace Go.Proofs.YtffkofkjpckmpaaGreatDoor
set_option maxRecDepth 100000
set_option maxHeartbeats 6400000
open Go.RowKit Go.ChangeShapes
set_option linter.unusedVariables false
theorem VP (R:Nat)(a:Option Addr)(n c:Nat)(w:World)(h:CE w R a n c):
  Calls Tryz.prog 142 #[.pointer (some ⟨R,0,none⟩)] w fun e w'=>∃ r:Int,e= .returned (.int .i64 r)∧(-9223372036854775808≤r∧r≤9223372036854775807)∧CE w' R a n c∧Ak R (R+1) w w':=by
 go_enter Tryz.func142,Tryz.ntmps142
 go_wp2_with fail
 refine (BJ R a n c w h).mono ?_;rintro e g ⟨x,rfl,u,z,h1,d⟩;clear h;by_cases e4:x % 8=4
 ·have j:(x % 8== 0)=false:=zA.2 (by omega);have l:(x % 8== 1)=false:=zA.2 (by omega);have q2:(x % 8== 2)=false:=zA.2 (by omega);have q3:(x % 8== 3)=false:=zA.2 (by omega);have q4:(x % 8== 4)=true:=zI.2 (by omega);clear e4;go_wp2_with fail
  refine (BJ R a n c g h1).mono ?_;rintro e o ⟨y,rfl,p,q,h2,b⟩;go_wp2_with fail
  refine (BJ R a n c o h2).mono ?_;rintro e s ⟨A,rfl,B,C,h3,f⟩;go_wp2_with fail
  go_ret
  exact ⟨_,rfl,⟨by omega,by omega⟩,h3,(d.trans b).trans f⟩
 by_cases e5:x % 8=5
 ·have j:(x % 8== 0)=false:=zA.2 (by omega);have l:(x % 8== 1)=false:=zA.2 (by omega);have q2:(x % 8== 2)=false:=zA.2 (by omega);have q3:(x % 8== 3)=false:=zA.2 (by omega);have q4:(x % 8== 4)=false:=zA.2 (by omega);have q5:(x % 8== 5)=true:=zI.2 (by omega);clear e4 e5;go_wp2_with fail
  go_loopw [5,6] (fun v i wr=>∃ (k:Nat) (m:Int),k≤8∧i= .int .i64 k∧v= .int .i64 m∧(-9223372036854775808≤m∧m≤9223372036854775807)∧CE wr R a n c∧Ak R (R+1) w wr) (fun _ i _=>8 - (intOf i).toNat)
  case atStart=>exact ⟨0,0,by omega,rfl,rfl,⟨by omega,by omega⟩,h1,d⟩
  case round=>
   obtain ⟨k,m,hk,rfl,rfl,hm,h2,b⟩:=hrel;by_cases E:k < 8
   ·have t:(k:Int) < 8:=by omega
    go_wp2_with (go_at_call 26;refine (BJ R a n c _ h2).mono ?_;rintro e s ⟨y,rfl,p,q,h3,f⟩)
    go_roundw
    case rel=>exact ⟨k+1,_,by omega,by go_num,rfl,bounds_i64 (wf_bits _ _ _ _),h3,b.trans f⟩
    case measure=>simp[intOf];omega
   ·have t: ¬ (k:Int) < 8:=by omega
    go_wp2
    go_ret
    exact ⟨_,rfl,hm,h2,b⟩
 have q4:(x % 8== 4)=false:=zA.2 e4;have q5:(x % 8== 5)=false:=zA.2 e5;clear e4 e5;go_wp2
 all_goals
  go_ret
  exact ⟨_,rfl,⟨by omega,by omega⟩,h1,d⟩
theorem Qs (w:World)(k:Nat)(hk:k < 6):∃ s:ByteArray,s.size≤10∧(w.alloc (.cells #[.string ⟨#[108,101,118,101,108]⟩,.string ⟨#[110,111,119]⟩,.string ⟨#[99,108,105,101,110,116]⟩,.string ⟨#[117,115,101,114]⟩,.string ⟨#[97,115,107,101,100]⟩,.string ⟨#[97,103,114,101,101,100]⟩] 9)).cell? ⟨w.heap.size,k,none⟩=some (.string s):=by
 have h:=(Am.new w #[.string ⟨#[108,101,118,101,108]⟩,.string ⟨#[110,111,119]⟩,.string ⟨#[99,108,105,101,110,116]⟩,.string ⟨#[117,115,101,114]⟩,.string ⟨#[97,115,107,101,100]⟩,.string ⟨#[97,103,114,101,101,100]⟩] 9).cell k
 match k,hk with
 | 0,_=>exact ⟨_,by decide,h⟩
 | 1,_=>exact ⟨_,by decide,h⟩
 | 2,_=>exact ⟨_,by decide,h⟩
 | 3,_=>exact ⟨_,by decide,h⟩
 | 4,_=>exact ⟨_,by decide,h⟩
 | 5,_=>exact ⟨_,by decide,h⟩
def LtI (L:List (ByteArray × Int)) (w1:World) (vi:Value) (wr:World):Prop:=
 ∃ i:Int,-1≤i∧i < (L.length:Int)∧vi= .int .i64 i∧Below w1.heap.size w1 wr
theorem IQ.let_at {B R f:Nat}{a:Option Addr}{n c m:Nat}{L:List (ByteArray × Int)}{nd:Value}{b:Option Addr}{i:Nat}{w:World}(h:IQ B R f a n c m L nd (.slice b L.length i) w)(j:Nat)(d:j < L.length):∃ g,b=some ⟨g,0,none⟩∧w.cell? ⟨g,j * 2,none⟩=some (.string L[j].1)∧w.cell? ⟨g,j * 2+1,none⟩=some (.int .i64 L[j].2)∧L[j].1.size≤1000:=by
 obtain ⟨N,k,l,o,C,e⟩:=h;obtain ⟨p,q,h1,h2⟩:=Af C.lets;simp only[Value.slice.injEq] at h1;obtain ⟨rfl,_,rfl⟩:=h1;obtain ⟨g,rfl,_,hc⟩:=h2 (by omega);obtain ⟨e1,e2⟩:=VO L j d;exact ⟨g,rfl,hc _ _ e1,hc _ _ e2,C.good.2 _ (zP d)⟩
theorem UE.back {B R b:Nat}{a:Option Addr}{n c m top:Nat}{L:List (ByteArray × Int)}{nd lt:Value}{w d:World}{r:Ending}{w':World}(h:UE B R b a n c m top L nd lt d r w')(K:Gk B R b lt nd w nd d):UE B R b a n c m top L nd lt w r w':=by
 obtain ⟨h1,f,g,h2,h3,h4,h5⟩:=h;exact ⟨h1,f,g,h2,h3,h4,K.trans h5⟩
theorem H4 {B R E:Nat}{a:Option Addr}{n c m:Nat}{L:List (ByteArray × Int)}{nd lt:Value}{w:World}(h:IQ B R E a n c m L nd lt w)(hm:m+1≤1000000)(ar:L.length≤100)(ty:Int)(H:ty=1∨ty=2∨ty=3∨ty=4):
  Calls Tryz.prog 110 #[.pointer (some ⟨E,0,none⟩),.int .i64 ty] w (UE B R E a n c m 1 L nd lt w):=by
 obtain ⟨au,av,W,X,aw,Y,Z,F,c1,c2,c3⟩:=h.cells;subst Z;go_enter Tryz.func110,Tryz.ntmps110
 go_wp2_with fail
 refine (BJ R a n c w h.lt.2.2).mono ?_;rintro e l ⟨x,rfl,ax,ay,hr1,I⟩;have f:=h.touch I hr1;have v:Gk B R E (.slice W L.length X) nd w nd l:=Gk.of_touch I h.lt.2.1.2 h.lt.1.2.2;clear F c1 c2 c3 h I hr1;obtain ⟨az,aA,aB,aC,aD,aa,ab,F,c1,c2,c3⟩:=f.cells;clear Y aa ab;dsimp only;rcases (show x % 3=2∨x % 3=1∨x % 3=0 by omega) with e3 | e3 | e3
 ·have q2:(x % 3== 2)=true:=zI.2 e3;have Q:(x % 3== 1)=false:=zA.2 (by omega);clear e3;have S:=Ab (show LtI L l (.int .i64 ((L.length:Int) - 1)) l from ⟨(L.length:Int) - 1,by omega,by omega,rfl,BRN⟩);have T:=Ab f;have ac:=Ab v;clear f v;go_wp2_with fail
  go_loopw [6] (fun J wr=>LtI L l J wr) (fun J _=>(intOf J+1).toNat)
  case atStart=>exact Aa S
  case round=>
   clear S F c1 c2 c3;obtain ⟨i,aE,aF,rfl,K⟩:=hrel;have k:=(Aa T).below K;have t:=(Aa ac).trans (Gk.of_below (nd:=nd) K (Aa T).lt.1.1);obtain ⟨aG,aH,aI,aJ,aK,ad,ae,F,c1,c2,c3⟩:=k.cells;clear ad ae;by_cases hi: 0≤i
   ·obtain ⟨j,rfl⟩:=Int.eq_ofNat_of_zero_le hi;have af:j < L.length:=by omega
    obtain ⟨g,rfl,ag,d1,ah⟩:=k.let_at j af;have U:=Ab (show (intOf (.int .i64 ((j:Int) - 1))+1).toNat < (intOf (.int .i64 (j:Int))+1).toNat by simp[intOf]);have V:=Ab (show LtI L l (.int .i64 ((j:Int) - 1)) wr from ⟨(j:Int) - 1,by omega,by omega,rfl,K⟩);generalize L[j].1=ai at ag ah;generalize L[j].2=aj at d1;cases aL:(aj== ty)
    ·go_wp2_with fail
     exact ⟨Aa V,Aa U⟩
    ·cases aM:(((j:Int)+x) % 2== 0)
     ·go_wp2_with fail
      exact ⟨Aa V,Aa U⟩
     ·go_wp2_with fail
      refine (Bj k hm 5 0 ai (by omega) (by omega)).mono ?_;intro r o b;have d:=Ab (b.back t);obtain ⟨⟨p,rfl⟩,-⟩:=b;dsimp only;go_wp2_with fail
      go_ret
      exact Aa d
   ·have aN: ¬ ((0 :Int)≤i):=hi;clear hi;rcases H with rfl | rfl | rfl | rfl
    ·go_wp2_with fail
     refine (Bj k hm 3 (x / 3 % 2) ⟨#[]⟩ (by omega) (by decide)).mono ?_;intro r o b;have d:=Ab (b.back t);obtain ⟨⟨p,rfl⟩,-⟩:=b;dsimp only;go_wp2_with fail
     go_ret
     exact Aa d
    ·by_cases ak: 220 < x
     ·go_wp2_with fail
      refine (VP R a n c _ k.lt.2.2).mono ?_;rintro r C ⟨y,rfl,⟨al,ao⟩,z,q⟩;have A:=k.touch q z;have u:=t.trans (Gk.of_touch q k.lt.2.1.2 k.lt.1.2.2);dsimp only;by_cases hy:y < 0
      ·go_wp2_with fail
       refine (Bj A hm 1 (-(y+1)) ⟨#[]⟩ (by omega) (by decide)).mono ?_;intro r o b;have d:=Ab (b.back u);obtain ⟨⟨p,rfl⟩,-⟩:=b;dsimp only;go_wp2_with fail
       go_ret
       exact Aa d
      ·go_wp2_with fail
       refine (Bj A hm 1 y ⟨#[]⟩ (by omega) (by decide)).mono ?_;intro r o b;have d:=Ab (b.back u);obtain ⟨⟨p,rfl⟩,-⟩:=b;dsimp only;go_wp2_with fail
       go_ret
       exact Aa d
     ·go_wp2_with fail
      refine (Bj k hm 1 (x / 3 % 6) ⟨#[]⟩ (by omega) (by decide)).mono ?_;intro r o b;have d:=Ab (b.back t);obtain ⟨⟨p,rfl⟩,-⟩:=b;dsimp only;go_wp2_with fail
      go_ret
      exact Aa d
    ·by_cases ap: 250 < x
     ·go_wp2_with fail
      refine (Bj k hm 2 0 ⟨#[]⟩ (by omega) (by decide)).mono ?_;intro r o b;have d:=Ab (b.back t);obtain ⟨⟨p,rfl⟩,-⟩:=b;dsimp only;go_wp2_with fail
      go_ret
      exact Aa d
     ·go_wp2_with fail
      refine (Mk R a n c _ k.lt.2.2).mono ?_;rintro r C ⟨s,rfl,aq,z,q⟩;have A:=k.touch q z;have u:=t.trans (Gk.of_touch q k.lt.2.1.2 k.lt.1.2.2);dsimp only;go_wp2_with fail
      refine (Bj A hm 2 0 s (by omega) (by omega)).mono ?_;intro r o b;have d:=Ab (b.back u);obtain ⟨⟨p,rfl⟩,-⟩:=b;dsimp only;go_wp2_with fail
      go_ret
      exact Aa d
    ·go_wp2_with fail
     refine (Vq R a n c _ k.lt.2.2).mono ?_;rintro r C ⟨M,c5,N,rfl,O,P,z,q⟩;have u:=t.trans (Gk.of_touch q k.lt.2.1.2 k.lt.1.2.2);dsimp only;go_wp2_with fail
     refine (Se k q z hm N M c5 P O).mono ?_;intro r o b;have d:=Ab (b.back u);obtain ⟨⟨p,rfl⟩,-⟩:=b;dsimp only;go_wp2_with fail
     go_ret
     exact Aa d
 ·have q2:(x % 3== 2)=false:=zA.2 (by omega);have Q:(x % 3== 1)=true:=zI.2 e3;clear e3;rcases H with rfl | rfl | rfl | rfl
  ·go_wp2_with fail
   refine (Bj f hm 3 (x / 3 % 2) ⟨#[]⟩ (by omega) (by decide)).mono ?_;intro r o b;have d:=Ab (b.back v);obtain ⟨⟨p,rfl⟩,-⟩:=b;dsimp only;go_wp2_with fail
   go_ret
   exact Aa d
  ·obtain ⟨s,hs,hc⟩:=Qs l (x / 3 % 2).toNat (by omega);have k:=f.below ((Below.refl l.heap.size l).alloc NLN (.cells #[.string ⟨#[108,101,118,101,108]⟩,.string ⟨#[110,111,119]⟩,.string ⟨#[99,108,105,101,110,116]⟩,.string ⟨#[117,115,101,114]⟩,.string ⟨#[97,115,107,101,100]⟩,.string ⟨#[97,103,114,101,101,100]⟩] 9));have t:=v.trans (Gk.of_below (nd:=nd) ((Below.refl l.heap.size l).alloc NLN (.cells #[.string ⟨#[108,101,118,101,108]⟩,.string ⟨#[110,111,119]⟩,.string ⟨#[99,108,105,101,110,116]⟩,.string ⟨#[117,115,101,114]⟩,.string ⟨#[97,115,107,101,100]⟩,.string ⟨#[97,103,114,101,101,100]⟩] 9)) f.lt.1.1);go_wp2_with fail
   refine (Bj k hm 5 0 s (by omega) (by omega)).mono ?_;intro r o b;have d:=Ab (b.back t);obtain ⟨⟨p,rfl⟩,-⟩:=b;dsimp only;go_wp2_with fail
   go_ret
   exact Aa d
  ·obtain ⟨s,hs,hc⟩:=Qs l (2+x / 3 % 2).toNat (by omega);have k:=f.below ((Below.refl l.heap.size l).alloc NLN (.cells #[.string ⟨#[108,101,118,101,108]⟩,.string ⟨#[110,111,119]⟩,.string ⟨#[99,108,105,101,110,116]⟩,.string ⟨#[117,115,101,114]⟩,.string ⟨#[97,115,107,101,100]⟩,.string ⟨#[97,103,114,101,101,100]⟩] 9));have t:=v.trans (Gk.of_below (nd:=nd) ((Below.refl l.heap.size l).alloc NLN (.cells #[.string ⟨#[108,101,118,101,108]⟩,.string ⟨#[110,111,119]⟩,.string ⟨#[99,108,105,101,110,116]⟩,.string ⟨#[117,115,101,114]⟩,.string ⟨#[97,115,107,101,100]⟩,.string ⟨#[97,103,114,101,101,100]⟩] 9)) f.lt.1.1);go_wp2_with fail
   refine (Bj k hm 5 0 s (by omega) (by omega)).mono ?_;intro r o b;have d:=Ab (b.back t);obtain ⟨⟨p,rfl⟩,-⟩:=b;dsimp only;go_wp2_with fail
   go_ret
   exact Aa d
  ·obtain ⟨s,hs,hc⟩:=Qs l (4+x / 3 % 2).toNat (by omega);have k:=f.below ((Below.refl l.heap.size l).alloc NLN (.cells #[.string ⟨#[108,101,118,101,108]⟩,.string ⟨#[110,111,119]⟩,.string ⟨#[99,108,105,101,110,116]⟩,.string ⟨#[117,115,101,114]⟩,.string ⟨#[97,115,107,101,100]⟩,.string ⟨#[97,103,114,101,101,100]⟩] 9));have t:=v.trans (Gk.of_below (nd:=nd) ((Below.refl l.heap.size l).alloc NLN (.cells #[.string ⟨#[108,101,118,101,108]⟩,.string ⟨#[110,111,119]⟩,.string ⟨#[99,108,105,101,110,116]⟩,.string ⟨#[117,115,101,114]⟩,.string ⟨#[97,115,107,101,100]⟩,.string ⟨#[97,103,114,101,101,100]⟩] 9)) f.lt.1.1);go_wp2_with fail
   refine (Bj k hm 5 0 s (by omega) (by omega)).mono ?_;intro r o b;have d:=Ab (b.back t);obtain ⟨⟨p,rfl⟩,-⟩:=b;dsimp only;go_wp2_with fail
   go_ret
   exact Aa d
 ·have q2:(x % 3== 2)=false:=zA.2 (by omega);have Q:(x % 3== 1)=false:=zA.2 (by omega);clear e3;rcases H with rfl | rfl | rfl | rfl
  ·go_wp2_with fail
   refine (Bj f hm 3 (x / 3 % 2) ⟨#[]⟩ (by omega) (by decide)).mono ?_;intro r o b;have d:=Ab (b.back v);obtain ⟨⟨p,rfl⟩,-⟩:=b;dsimp only;go_wp2_with fail
   go_ret
   exact Aa d
  ·by_cases ak: 220 < x
   ·go_wp2_with fail
    refine (VP R a n c _ f.lt.2.2).mono ?_;rintro r C ⟨y,rfl,⟨al,ao⟩,z,q⟩;have A:=f.touch q z;have u:=v.trans (Gk.of_touch q f.lt.2.1.2 f.lt.1.2.2);dsimp only;by_cases hy:y < 0
    ·go_wp2_with fail
     refine (Bj A hm 1 (-(y+1)) ⟨#[]⟩ (by omega) (by decide)).mono ?_;intro r o b;have d:=Ab (b.back u);obtain ⟨⟨p,rfl⟩,-⟩:=b;dsimp only;go_wp2_with fail
     go_ret
     exact Aa d
    ·go_wp2_with fail
     refine (Bj A hm 1 y ⟨#[]⟩ (by omega) (by decide)).mono ?_;intro r o b;have d:=Ab (b.back u);obtain ⟨⟨p,rfl⟩,-⟩:=b;dsimp only;go_wp2_with fail
     go_ret
     exact Aa d
   ·go_wp2_with fail
    refine (Bj f hm 1 (x / 3 % 6) ⟨#[]⟩ (by omega) (by decide)).mono ?_;intro r o b;have d:=Ab (b.back v);obtain ⟨⟨p,rfl⟩,-⟩:=b;dsimp only;go_wp2_with fail
    go_ret
    exact Aa d
  ·by_cases ap: 250 < x
   ·go_wp2_with fail
    refine (Bj f hm 2 0 ⟨#[]⟩ (by omega) (by decide)).mono ?_;intro r o b;have d:=Ab (b.back v);obtain ⟨⟨p,rfl⟩,-⟩:=b;dsimp only;go_wp2_with fail
    go_ret
    exact Aa d
   ·go_wp2_with fail
    refine (Mk R a n c _ f.lt.2.2).mono ?_;rintro r C ⟨s,rfl,aq,z,q⟩;have A:=f.touch q z;have u:=v.trans (Gk.of_touch q f.lt.2.1.2 f.lt.1.2.2);dsimp only;go_wp2_with fail
    refine (Bj A hm 2 0 s (by omega) (by omega)).mono ?_;intro r o b;have d:=Ab (b.back u);obtain ⟨⟨p,rfl⟩,-⟩:=b;dsimp only;go_wp2_with fail
    go_ret
    exact Aa d
  ·go_wp2_with fail
   refine (Vq R a n c _ f.lt.2.2).mono ?_;rintro r C ⟨M,c5,N,rfl,O,P,z,q⟩;have u:=v.trans (Gk.of_touch q f.lt.2.1.2 f.lt.1.2.2);dsimp only;go_wp2_with fail
   refine (Se f q z hm N M c5 P O).mono ?_;intro r o b;have d:=Ab (b.back u);obtain ⟨⟨p,rfl⟩,-⟩:=b;dsimp only;go_wp2_with fail
   go_ret
   exact Aa d
end Go.Proofs.YtffkofkjpckmpaaGreatDoor
namespace Go.Proofs.YtffkofkjpckmpaaGreatDoor
set_option maxHeartbeats 3200000
open Go.RowKit
set_option linter.unusedVariables false
theorem Sf (R:Nat)(a:Option Addr)(n c:Nat)(w:World)(h:CE w R a n c):
  Calls Tryz.prog 61 #[.pointer (some ⟨R,0,none⟩)] w fun e w'=>∃ r:Int,e= .returned (.int .i64 r)∧0≤r∧r≤1048576∧Below w.heap.size w w':=by
 obtain ⟨p,h⟩:=h;have b:=h.row.cell 0;have c1:=h.row.cell 1;have h1:=h.le;have h2:=h.small;go_enter Tryz.func61,Tryz.ntmps61
 go_wp2_with fail
 go_quiet (fail)
 go_wp2_with fail
 go_ret
 exact ⟨_,rfl,by omega,by omega,⟨rfl,rfl,rfl,NLN,fun _ _=>rfl⟩⟩
theorem L6 {B R d:Nat}{a:Option Addr}{n c m:Nat}{L:List (ByteArray × Int)}{nd lt:Value}{w:World}(h:IQ B R d a n c m L nd lt w)(hm:m+1≤1000000)(ks:List Int)(b:Array Value)(j:Nat)(g:b.toList=AF ks)(i:b.size=j)(h3:j≤3)(op:Int):
  Calls Tryz.prog 111 #[.pointer (some ⟨d,0,none⟩),.int .i64 op,.slice (some ⟨w.heap.size,0,none⟩) j j] (w.alloc (.cells b 3)) (UE B R d a n c m 1 L nd lt w):=by
 have k:=(Below.refl w.heap.size w).alloc NLN (.cells b 3);have l:Gk B R d lt nd w nd (w.alloc (.cells b 3)):=Gk.of_below k h.lt.1.1;go_enter Tryz.func111,Tryz.ntmps111
 go_wp2_with fail
 refine (Xa h hm ks b j g i h3 op _ BRN).mono ?_;intro r p f;have o:=Ab (f.back l);obtain ⟨⟨q,rfl⟩,-⟩:=f;dsimp only;go_wp2_with fail
 go_ret
 exact Aa o
def Z5:Nat→Nat
 | 0=>1
 |d+1=>3 * Z5 d+1
def ExD (B R gb:Nat) (a:Option Addr) (n c:Nat) (L:List (ByteArray × Int)) (lt:Value) (d:Nat):Prop:=
 ∀ (ty:Int) (m:Nat) (nd:Value) (w:World),(ty=1∨ty=2∨ty=3∨ty=4)→m+Z5 d≤1000000→IQ B R gb a n c m L nd lt w→Calls Tryz.prog 62 #[.pointer (some ⟨gb,0,none⟩),.int .i64 ty,.int .i64 (d:Int)] w (UE B R gb a n c m (Z5 d) L nd lt w)
theorem AaG {B R g:Nat}{a:Option Addr}{n c m d:Nat}{L:List (ByteArray × Int)}{nd lt:Value}{w:World}(j:ExD B R g a n c L lt d)(h:IQ B R g a n c m L nd lt w)(hm:m+2 * Z5 d+1≤1000000)(op b f:Int)(h1:b=1∨b=2∨b=3∨b=4)(h2:f=1∨f=2∨f=3∨f=4):
  Calls Tryz.prog 112 #[.pointer (some ⟨g,0,none⟩),.int .i64 op,.int .i64 b,.int .i64 f,.int .i64 (d:Int)] w (UE B R g a n c m (2 * Z5 d+1) L nd lt w):=by
 have i:=Ab j;unfold ExD at i;generalize Z5 d=l at hm i ⊢;clear j;go_enter Tryz.func112,Tryz.ntmps112
 go_wp2_with fail
 refine (Aa i b m nd w h1 (by omega) h).mono ?_;rintro r o ⟨⟨x,rfl⟩,p,q,a1,a2,s,t⟩;dsimp only;go_wp2_with fail
 refine (Aa i f p q o h2 (by omega) s).mono ?_;rintro r J ⟨⟨y,rfl⟩,K,M,a3,a4,u,v⟩;have z:=t.trans v;dsimp only;go_wp2_with fail
 refine (L6 u (by omega) [x,y] _ 2 rfl rfl (by omega) op).mono ?_;rintro r A ⟨⟨k,rfl⟩,C,E,a5,a6,F,H⟩;have I:=Ab (show UE B R g a n c m (2 * l+1) L nd lt w (.returned (.int .i64 k)) A from ⟨⟨k,rfl⟩,C,E,by omega,by omega,F,z.trans H⟩);dsimp only;go_wp2_with fail
 go_ret
 exact Aa I
set_option maxRecDepth 100000
def DgI (B R gb:Nat) (a:Option Addr) (n c m:Nat) (L:List (ByteArray × Int)) (nd lt:Value) (t:Nat) (w:World) (vx vi:Value) (wr:World):Prop:=
 ∃ (j m':Nat) (k:Int) (nd':Value),1≤j∧j≤t∧vi= .int .i64 (j:Int)∧vx= .int .i64 k∧m≤m'∧m'≤m+j∧IQ B R gb a n c m' L nd' lt wr∧Gk B R gb lt nd w nd' wr
theorem Y5 {B R b:Nat}{a:Option Addr}{n c m:Nat}{L:List (ByteArray × Int)}{nd lt:Value}{w:World}(h:IQ B R b a n c m L nd lt w)(hm:m+65≤1000000)(v:L.length≤100)(t:Nat)(z: 1≤t)(P:t≤64):
  Calls Tryz.prog 64 #[.pointer (some ⟨b,0,none⟩),.int .i64 (t:Int)] w (UE B R b a n c m 64 L nd lt w):=by
 go_enter Tryz.func64,Tryz.ntmps64
 go_wp2_with fail
 refine (H4 h (by omega) v 1 (by omega)).mono ?_;rintro r A ⟨⟨x,rfl⟩,C,E,a1,a2,o,p⟩;have q:=Ab (show DgI B R b a n c m L nd lt t w (.int .i64 x) (.int .i64 1) A from ⟨1,C,x,E,by omega,z,rfl,rfl,a1,a2,o,p⟩);clear o p a1 a2 h;dsimp only;go_wp2_with fail
 go_loopw [5,6] (fun F g wr=>DgI B R b a n c m L nd lt t w F g wr) (fun _ g _=>t - (intOf g).toNat)
 case atStart=>exact Aa q
 case round=>
  clear q;obtain ⟨j,H,k,I,Q,S,rfl,rfl,b1,b2,d,f⟩:=hrel;by_cases i:j < t
  ·have J:(j:Int) < (t:Int):=by omega
   have K:=Ab (Y4 t j i);go_wp2_with fail
   refine (L6 d (by omega) [k] _ 1 rfl rfl (by omega) 9).mono ?_;rintro r M ⟨⟨y,rfl⟩,N,O,b3,b4,s,u⟩;have l:=Ab (show DgI B R b a n c m L nd lt t w (.int .i64 y) (.int .i64 ((j:Int)+1)) M from ⟨j+1,N,y,O,by omega,by omega,by rw[zU];rfl,rfl,by omega,by omega,s,f.trans u⟩);clear d f s u i;dsimp only;go_wp2_with fail
   exact ⟨Aa l,Aa K⟩
  ·have J: ¬ ((j:Int) < (t:Int)):=by omega
   have l:=Ab (show UE B R b a n c m 64 L nd lt w (.returned (.int .i64 k)) wr from ⟨⟨k,rfl⟩,H,I,b1,by omega,d,f⟩);clear d f i;go_wp2_with fail
   go_ret
   exact Aa l
end Go.Proofs.YtffkofkjpckmpaaGreatDoor

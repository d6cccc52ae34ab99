/-
  LTA, LTB, EZ0, MemS, APS, GE, VPI, NUH, TM, TB, TO, Comp, MKL. Own work.
-/
import Derived.Test.YtoplnhndilmlcaaGreatDoorMXAH
import Derived.Test.YtoplnhndilmlcaaGreatDoorMXAI
import Derived.Test.YtoplnhndilmlcaaGreatDoorMXAB
import Derived.Test.YtoplnhndilmlcaaGreatDoorMXAC
import Derived.Laws.AppendOwnNone
import Derived.Test.YtoplnhndilmlcaaGreatDoorMXAJ
import Derived.Test.YtoplnhndilmlcaaGreatDoorMXAG
import Derived.Test.YtoplnhndilmlcaaGreatDoorMXAE
import Derived.Test.YtoplnhndilmlcaaGreatDoorMXAF
import Derived.Test.YtoplnhndilmlcaaGreatDoorMXAA
import Derived.Lib.SlicesCompact
import Derived.Test.YtoplnhndilmlcaaGreatDoorShelf
import Derived.Sort.OwnSorted
namespace Go.Proofs.YtoplnhndilmlcaaGreatDoor
open Go.RowKit
set_option linter.unusedVariables false
def Ib (k:Nat):ByteArray:= [⟨#[108,101,118,101,108]⟩,⟨#[110,111,119]⟩,⟨#[99,108,105,101,110,116]⟩,⟨#[117,115,101,114]⟩,⟨#[97,115,107,101,100]⟩,⟨#[97,103,114,101,101,100]⟩].getD k ⟨#[]⟩
def Ej (L:List (ByteArray × Int)) (ty x:Int):Nat→Option ByteArray
 | 0=>none
 | i+1=>if (L.getD i (⟨#[]⟩,0)).2=ty∧((i:Int)+x) % 2=0 then some (L.getD i (⟨#[]⟩,0)).1 else Ej L ty x i
def Xs (zs:List Int):Nat→Nat→Int→Int × Nat
 | 0,p,v=>(v,p)
 | k+1,p,v=>Xs zs k (nx zs p).2 (bits .or .i64 (wrap64 (v * 256)) (nx zs p).1)
def M6 (zs:List Int) (x:Int) (p:Nat):Int × Nat:=
 if x % 8=0 then (9223372036854775807 - x / 8 % 3,p)
 else if x % 8=1 then (-9223372036854775808+x / 8 % 3,p)
 else if x % 8=2 then (x / 8 % 3,p)
 else if x % 8=3 then (-(x / 8 % 3),p)
 else if x % 8=4 then ((nx zs p).1 * 16777216+(nx zs (nx zs p).2).1,(nx zs (nx zs p).2).2)
 else if x % 8=5 then Xs zs 8 p 0
 else if x % 8=6 then (3037000499+x / 8 % 3,p)
 else (x - 128,p)
def Vx (zs:List Int) (p:Nat):Int × Nat:=M6 zs (nx zs p).1 (nx zs p).2
def Vy (y:Int):Int:=if y < 0 then -(y+1) else y
def KB (zs:List Int) (L:List (ByteArray × Int)) (ty x:Int) (p:Nat) (y:Nd) (q:Nat):Prop:=
 if x % 3=2∧(Ej L ty x L.length).isSome=true then some y.text=Ej L ty x L.length∧y=⟨5,0,y.text, [], []⟩∧q=p
 else if x % 3=1∧ty≠1 then y=⟨5,0,Ib ((ty - 2) * 2+x / 3 % 2).toNat, [], []⟩∧q=p
 else if ty=1 then y=⟨3,x / 3 % 2,⟨#[]⟩, [], []⟩∧q=p
 else if ty=3 then (if 250 < x then y=⟨2,0,⟨#[]⟩, [], []⟩∧q=p else y=⟨2,0,(Gf zs p).1, [], []⟩∧q=(Gf zs p).2)
 else if ty=4 then y=⟨4,0,⟨#[]⟩,y.names, []⟩∧U4 zs p y.names q
 else if 220 < x then y=⟨1,Vy (Vx zs p).1,⟨#[]⟩, [], []⟩∧q=(Vx zs p).2
 else y=⟨1,x / 3 % 6,⟨#[]⟩, [], []⟩∧q=p
theorem KB.unique {zs:List Int}{L:List (ByteArray × Int)}{ty x:Int}{p q d:Nat}{y b:Nd}(h:KB zs L ty x p y q)(a:KB zs L ty x p b d):y=b∧q=d:=by
 unfold KB at h a;split at h
 ·rename_i c;rw[if_pos c] at a;have e:y.text=b.text:=Option.some.inj (h.1.trans a.1.symm);exact ⟨by rw[h.2.1,a.2.1,e],by rw[h.2.2,a.2.2]⟩
 ·rename_i c;rw[if_neg c] at a;split at h
  ·rename_i c;rw[if_pos c] at a;exact ⟨by rw[h.1,a.1],by rw[h.2,a.2]⟩
  ·rename_i c;rw[if_neg c] at a;split at h
   ·rename_i c;rw[if_pos c] at a;exact ⟨by rw[h.1,a.1],by rw[h.2,a.2]⟩
   ·rename_i c;rw[if_neg c] at a;split at h
    ·rename_i c;rw[if_pos c] at a;split at h
     ·rename_i c;rw[if_pos c] at a;exact ⟨by rw[h.1,a.1],by rw[h.2,a.2]⟩
     ·rename_i c;rw[if_neg c] at a;exact ⟨by rw[h.1,a.1],by rw[h.2,a.2]⟩
    ·rename_i c;rw[if_neg c] at a;split at h
     ·rename_i c;rw[if_pos c] at a;obtain ⟨e1,e2⟩:=h.2.unique a.2;exact ⟨by rw[h.1,a.1,e1],e2⟩
     ·rename_i c;rw[if_neg c] at a;split at h
      ·rename_i c;rw[if_pos c] at a;exact ⟨by rw[h.1,a.1],by rw[h.2,a.2]⟩
      ·rename_i c;rw[if_neg c] at a;exact ⟨by rw[h.1,a.1],by rw[h.2,a.2]⟩
def Bh (zs:List Int) (L:List (ByteArray × Int)) (ty:Int) (p:Nat) (N:List Nd) (q:Nat) (N':List Nd):Prop:=∃ y,KB zs L ty (nx zs p).1 (nx zs p).2 y q∧N'=N ++ [y]
theorem Bh.unique {zs:List Int}{L:List (ByteArray × Int)}{ty:Int}{p q a:Nat}{N M b:List Nd}(h:Bh zs L ty p N q M)(c:Bh zs L ty p N a b):q=a∧M=b:=by
 obtain ⟨y,h1,rfl⟩:=h;obtain ⟨f,d,rfl⟩:=c;obtain ⟨rfl,rfl⟩:=h1.unique d;exact ⟨rfl,rfl⟩
def YV (op:Int) (ks:List Int):Nd:=⟨op,0,⟨#[]⟩, [],ks⟩
def Ay (N:List Nd):Int:=(N.length:Int) - 1
def DI (ty x:Int):Option (Int × Int × Option Int):=
 if ty=1 then
  if x / 8 % 8=0∨x / 8 % 8=1 then some (25+x / 8 / 8 % 2,ty,some ty)
  else if x / 8 % 8=2 then some (26,ty,some ty)
  else if x / 8 % 8=3 then some (9,ty,none)
  else if x / 8 % 8=4 then some (23,3,some 4)
  else if x / 8 % 8=5 then some (24,4,some 4)
  else if x / 8 % 8=6 then some (21+x / 8 / 8 % 2,2,some 2)
  else some (19+x % 2,1+x / 8 / 8,some (1+x / 8 / 8))
 else if ty=2 then
  if x / 8 % 8=6 then some (10,4,none)
  else if x / 8 % 8=7 then some (8,ty,none)
  else some (11+x / 8 % 5,ty,some ty)
 else if ty=4 then some (16+x / 8 % 3,ty,some ty)
 else none
abbrev Drw:=Int→Nat→List Nd→Nat→List Nd→Prop
def NO (Lf E:Drw) (ty x:Int) (p:Nat) (N:List Nd) (q:Nat) (N':List Nd):Prop:=
 if x % 8=7 then ∃ q1 N1 q2 N2 N3,E 1 p N q1 N1∧E ty q1 N1 q2 N2∧E ty q2 N2 q N3∧N'=N3 ++ [YV 27 [Ay N1,Ay N2,Ay N3]]
 else if x % 8 < 2 then Lf ty p N q N'
 else match DI ty x with
  | none=>Lf ty p N q N'
  | some (op,t1,none)=>∃ N1,E t1 p N q N1∧N'=N1 ++ [YV op [Ay N1]]
  | some (op,t1,some t2)=>∃ q1 N1 N2,E t1 p N q1 N1∧E t2 q1 N1 q N2∧N'=N2 ++ [YV op [Ay N1,Ay N2]]
def Dj (zs:List Int) (L:List (ByteArray × Int)) (wild:Bool):Nat→Drw
 | 0=>Bh zs L
 | d+1=>fun ty p N q N'=>if zs.length≤p∨300 < N.length then Bh zs L ty p N q N'
   else NO (Bh zs L) (Dj zs L wild d) (if wild=true∧(nx zs p).1=201 then 1+ty % 4 else ty) (nx zs p).1 (nx zs p).2 N q N'
def Uni (E:Drw):Prop:=∀ (ty:Int) (p q q':Nat) (N M M':List Nd),E ty p N q M→E ty p N q' M'→q=q'∧M=M'
theorem NO.unique {d f:Drw}(g:Uni d)(b:Uni f){ty x:Int}{p q i:Nat}{N M j:List Nd}(h:NO d f ty x p N q M)(a:NO d f ty x p N i j):q=i∧M=j:=by
 unfold NO at h a;split at h
 ·rename_i c;rw[if_pos c] at a;obtain ⟨m,k,q2,n,u,a1,a2,a3,rfl⟩:=h;obtain ⟨o,l,v,r,w,b1,b2,b3,rfl⟩:=a;obtain ⟨rfl,rfl⟩:=b _ _ _ _ _ _ _ a1 b1;obtain ⟨rfl,rfl⟩:=b _ _ _ _ _ _ _ a2 b2;obtain ⟨rfl,rfl⟩:=b _ _ _ _ _ _ _ a3 b3;exact ⟨rfl,rfl⟩
 ·rename_i c;rw[if_neg c] at a;split at h
  ·rename_i c;rw[if_pos c] at a;exact g _ _ _ _ _ _ _ h a
  ·rename_i c;rw[if_neg c] at a;cases hs:DI ty x with
   | none=>rw[hs] at h a;exact g _ _ _ _ _ _ _ h a
   | some s=>
    obtain ⟨op,y,t⟩:=s;rw[hs] at h a;cases t with
    | none=>
     obtain ⟨k,a1,rfl⟩:=h;obtain ⟨l,b1,rfl⟩:=a;obtain ⟨rfl,rfl⟩:=b _ _ _ _ _ _ _ a1 b1;exact ⟨rfl,rfl⟩
    | some z=>
     obtain ⟨m,k,n,a1,a2,rfl⟩:=h;obtain ⟨o,l,r,b1,b2,rfl⟩:=a;obtain ⟨rfl,rfl⟩:=b _ _ _ _ _ _ _ a1 b1;obtain ⟨rfl,rfl⟩:=b _ _ _ _ _ _ _ a2 b2;exact ⟨rfl,rfl⟩
theorem Dj.unique (zs:List Int)(L:List (ByteArray × Int))(wild:Bool):∀ d,Uni (Dj zs L wild d)
 | 0=>fun _ _ _ _ _ _ _ h f=>Bh.unique h f
 | d+1=>fun _ _ _ _ _ _ _ h f=>by
  unfold Dj at h f;split at h
  ·rename_i c;rw[if_pos c] at f;exact h.unique f
  ·rename_i c;rw[if_neg c] at f;exact NO.unique (fun _ _ _ _ _ _ _ a b=>Bh.unique a b) (Dj.unique zs L wild d) h f
def NP (zs:List Int) (L:List (ByteArray × Int)):Nat→Nat→List Nd→Nat→List Nd→Prop
 | 0,p,N,q,N'=>False
 | 1,p,N,q,N'=>Bh zs L 1 p N q N'
 | k+2,p,N,q,N'=>∃ N1,NP zs L (k+1) p N q N1∧N'=N1 ++ [YV 9 [Ay N1]]
theorem NP.unique {zs:List Int}{L:List (ByteArray × Int)} :∀ {k p q a:Nat} {N M b:List Nd},NP zs L k p N q M→NP zs L k p N a b→q=a∧M=b
 | 0,_,_,_,_,_,_,h,_=>by cases h
 | 1,_,_,_,_,_,_,h,h'=>Bh.unique h h'
 | k+2,_,_,_,_,_,_,h,h'=>by
  obtain ⟨c,a1,rfl⟩:=h;obtain ⟨d,b1,rfl⟩:=h';obtain ⟨rfl,rfl⟩:=NP.unique a1 b1;exact ⟨rfl,rfl⟩
def Sl (x:Nd):Prop:=okN x∧x.text.size≤1000000∧x.num≤9223372036854775807∧x.names.length≤64∧(∀ s∈x.names,s.size≤1000)∧x.kids.length≤3
def KC (L:List (ByteArray × Int)):List Value:=L.flatMap fun x=> [.string x.1,.int .i64 x.2]
theorem Vz (L:List (ByteArray × Int))(x:ByteArray × Int):KC (L ++ [x])=KC L ++ [.string x.1,.int .i64 x.2]:=by simp[KC]
theorem Us:∀ (L:List (ByteArray × Int)) (j:Nat) (h:j < L.length),(KC L)[j * 2]? =some (.string L[j].1)∧(KC L)[j * 2+1]? =some (.int .i64 L[j].2)
 | x ::L,0,_=>⟨rfl,rfl⟩
 | x ::L,j+1,h=>by
  have a:=Us L j (by simpa using h);have e1:(j+1) * 2=j * 2+2:=by omega
  rw[e1];exact a
structure QF (w:World) (B R gb:Nat) (a:Option Addr) (n c:Nat) (zs:List Int) (p:Nat) (N:List Nd) (L:List (ByteArray × Int)) (nd lt:Value) (nv kv:List Value) (wild:Bool):Prop where
 row:Aj w gb #[.pointer (some ⟨R,0,none⟩),nd,lt,.bool wild] 113
 rd:H6 w R a n c zs p
 nodes:A6 w B nd N nv kv
 lets:w.ownsRow B 116 2 lt L.length (KC L)
 low:(B≤gb∧B≤R)∧(0 < n→∀ q,a=some q→q.block < B)
 good:(∀ x∈N,Sl x)∧∀ x∈L,x.1.size≤1000
structure Gk (B R gb:Nat) (lt nd:Value) (w:World) (nd':Value) (w':World):Prop where
 low:Below B w w'
 block:∀ k,k < w.heap.size→k≠gb→k≠R→nd.ownBlock≠some k→lt.ownBlock≠some k→w'.heap[k]? =w.heap[k]?
 newN:∀ q,nd'.ownBlock=some q→nd.ownBlock=some q∨w.heap.size≤q
theorem Gk.trans {B R a:Nat}{lt nd b c:Value}{w d f:World}(h:Gk B R a lt nd w b d)(k:Gk B R a lt b d c f):Gk B R a lt nd w c f:=by
 refine ⟨h.low.trans k.low,fun q h1 h2 h3 h4 h5=>?_,fun q hq=>?_⟩
 ·refine (k.block q (Nat.lt_of_lt_of_le h1 h.low.size) h2 h3 (fun e=>?_) h5).trans (h.block q h1 h2 h3 h4 h5);rcases h.newN q e with e | e
  ·exact h4 e
  ·omega
 ·rcases k.newN q hq with e | e
  ·exact h.newN q e
  ·have:=h.low.size;exact .inr (by omega)
theorem Gk.of_below {B R a:Nat}{lt nd:Value}{w w':World}(h:Below w.heap.size w w')(b:B≤w.heap.size):Gk B R a lt nd w nd w':=
 ⟨h.mono b,fun k h1 _ _ _ _=>h.block k h1,fun q hq=> .inl hq⟩
theorem Gk.of_touch {B R a:Nat}{lt nd:Value}{w w':World}(h:Ai R (R+1) w w')(b:B≤R)(c:R < w.heap.size):Gk B R a lt nd w nd w':=
 ⟨⟨h.os,h.tape,h.output,h.size,fun k hk=>h.block k (by omega) (.inl (by omega))⟩,fun k h1 _ h3 _ _=>h.block k h1 (by omega),fun q hq=> .inl hq⟩
theorem QF.below {w w':World}{B R d:Nat}{a:Option Addr}{n c:Nat}{zs:List Int}{p:Nat}{N:List Nd}{L:List (ByteArray × Int)}{nd lt:Value}{f g:List Value}{wild:Bool}(h:QF w B R d a n c zs p N L nd lt f g wild)(b:Below w.heap.size w w'):QF w' B R d a n c zs p N L nd lt f g wild:=
 ⟨h.row.after b NLN,h.rd.after b h.rd.lt,h.nodes.blocks (fun k _ hk=>b.block k hk),Ac h.lets (fun q hq=>b.block q (h.lets.lt q hq).2),h.low,h.good⟩
theorem Ch {w:World}{b c:Nat}{cs f:Array Value}{t u:TypeId}(h:Aj w b cs t)(k:Aj w c f u)(g:t≠u):b≠c:=fun e=>by
 have d:=h.out;have a:=k.out;rw[e] at d;rw[d] at a;injection a with a;injection a with _ a;exact g a
theorem QF.touch {w w':World}{B R g:Nat}{a:Option Addr}{n c:Nat}{zs:List Int}{p:Nat}{N:List Nd}{L:List (ByteArray × Int)}{nd lt:Value}{i k:List Value}{wild:Bool}{q:Nat}(h:QF w B R g a n c zs p N L nd lt i k wild)(t:Ai R (R+1) w w')(o:H6 w' R a n c zs q):QF w' B R g a n c zs q N L nd lt i k wild:=by
 have l:=h.rd;have d:∀ q,q < w.heap.size→q≠R→w'.heap[q]? =w.heap[q]? :=fun q h1 h2=>t.block q h1 (by omega);have f:∀ {e size m:Nat} {v:Value} {r:List Value},w.ownsRow B e size v m r→63≠e→∀ q,v.ownBlock=some q→q≠R:=fun s u q hq e=>Ad l.row s u (by rw[hq,e]);exact ⟨⟨(d g h.row.lt (Ch h.row l.row (by decide))).trans h.row.out⟩,o,
  h.nodes.upto (fun q hq=>d q (h.nodes.lts.1 q hq).2 (f h.nodes.own (by decide) q hq)) (fun j b q hq=>d q (h.nodes.lts.2.1 j b q hq).2 (f (h.nodes.names j (by rw[← h.nodes.len];exact b) b) (by decide) q hq)) (fun j b q hq=>d q (h.nodes.lts.2.2 j b q hq).2 (f (h.nodes.kids j (by rw[← h.nodes.lenk];exact b) b) (by decide) q hq)),
  Ac h.lets (fun q hq=>d q (h.lets.lt q hq).2 (f h.lets (by decide) q hq)),h.low,h.good⟩
theorem QF.pushN {f g:World}{B R d g7 c7:Nat}{a:Option Addr}{n c:Nat}{zs:List Int}{p:Nat}{N:List Nd}{L:List (ByteArray × Int)}{nd lt u k:Value}{s t:List Value}{wild:Bool}{x:Nd}(C:QF f B R d a n c zs p N L nd lt s t wild)(w:Obj)(H:B≤f.heap.size)(hu:f.ownsRow B 9 1 u x.names.length (x.names.map Value.string))(hk:f.ownsRow B 3 1 k x.kids.length (At x.kids))
  (I:∀ j,(i:j < s.length)→∀ q,s[j].ownBlock=some q→u.ownBlock≠some q)(J:∀ j,(i:j < t.length)→∀ q,t[j].ownBlock=some q→k.ownBlock≠some q)(hx:Sl x)
  (m:(f.alloc w).grownBy g nd.ownBlock)(K:g.ownsRow B 80 5 (.slice (some ⟨g7,0,none⟩) (N.length+1) c7) (N.length+1) (DA N s t ++Gi x u k))(M:nd.ownBlock=some g7∨g7=f.heap.size+1):
  QF (g.setCell ⟨d,1,none⟩ (.slice (some ⟨g7,0,none⟩) (N.length+1) c7)) B R d a n c zs p (N ++ [x]) L (.slice (some ⟨g7,0,none⟩) (N.length+1) c7) lt (s ++ [u]) (t ++ [k]) wild∧Gk B R d lt nd f (.slice (some ⟨g7,0,none⟩) (N.length+1) c7) (g.setCell ⟨d,1,none⟩ (.slice (some ⟨g7,0,none⟩) (N.length+1) c7)):=by
 have z:=(Below.refl f.heap.size f).alloc NLN w;have O:=C.below z;have P:=Ac (w':=f.alloc w) hu (fun q hq=>z.block q (hu.lt q hq).2);have Q:=Ac (w':=f.alloc w) hk (fun q hq=>z.block q (hk.lt q hq).2);have S:nd.ownBlock≠some d:=Ad C.row C.nodes.own (by decide);have v:Aj g d #[.pointer (some ⟨R,0,none⟩),nd,lt,.bool wild] 113:=⟨(Ao m d C.row.lt S).trans C.row.out⟩
 have o:=O.nodes.snoc P Q I J K m;have A:g.ownsRow B 116 2 lt L.length (KC L):=Ac C.lets (fun q hq=>Ao m q (C.lets.lt q hq).2 (fun e=>Ak C.lets C.nodes.own (by decide) q hq e));have r:∀ q,q≠d→(g.setCell ⟨d,1,none⟩ (.slice (some ⟨g7,0,none⟩) (N.length+1) c7)).heap[q]? =g.heap[q]? :=fun q hq=>heap_setCell_other g ⟨d,1,none⟩ q _ hq;have l:=C.rd;have T:R≠d:=Ch l.row C.row (by decide);have E:Below B f (g.setCell ⟨d,1,none⟩ (.slice (some ⟨g7,0,none⟩) (N.length+1) c7)):=((z.mono H).grown m (by simp;omega) (fun q hq=>(C.nodes.lts.1 q hq).1)).setCell (p:=⟨d,1,none⟩) C.low.1.1 _;refine ⟨⟨v.set 1 _, ?_,o.upto (fun q hq=>r q (fun e=>Ad v o.own (by decide) (by rw[hq,e]))) (fun j i q hq=>r q (fun e=>Ad v (o.names j (by rw[← o.len];exact i) i) (by decide) (by rw[hq,e]))) (fun j i q hq=>r q (fun e=>Ad v (o.kids j (by rw[← o.lenk];exact i) i) (by decide) (by rw[hq,e]))),Ac A (fun q hq=>r q (fun e=>Ad v A (by decide) (by rw[hq,e]))),C.low,⟨fun y hy=>?_,C.good.2⟩⟩,⟨?_,fun q h1 h2 _ h3 _=>(r q h2).trans (Ao m q h1 h3),fun q hq=>?_⟩⟩
 ·refine ⟨⟨((r R T).trans (Ao m R l.row.lt (Ad l.row C.nodes.own (by decide)))).trans l.row.out⟩,l.len,l.le,l.small,fun j i=>?_⟩;obtain ⟨b,F,e1,e2,e3,e4⟩:=l.cells j i;exact ⟨b,F,e1,e2,(E.cell (p:=⟨b,F+j,none⟩) (show b < B from C.low.2 (by omega) _ e1)).trans e3,e4⟩
 ·rcases List.mem_append.1 hy with h | h
  ·exact C.good.1 y h
  ·rw[List.mem_singleton.1 h];exact hx
 ·exact E
 ·have e:g7=q:=by simpa[Value.ownBlock] using hq
  subst e;exact M.imp id (fun e=>by omega)
theorem Xt (n k:Nat)(h:k < n):n - (intOf (.int .i64 ((k:Int)+1))).toNat < n - (intOf (.int .i64 (k:Int))).toNat:=by
 simp[intOf];omega
set_option maxRecDepth 100000
set_option maxHeartbeats 6400000
def Ft (zs:List Int) (p:Nat) (K:List ByteArray):List ByteArray × Nat:=
 (if (nx zs p).1 % 5=0 then K ++ [⟨#[]⟩] else if (nx zs p).1 % 5=1 then K ++ [⟨#[97]⟩] else if (nx zs p).1 % 5=2 then K ++ [⟨#[122,122,32,116,111,112]⟩] else if (nx zs p).1 % 5=3 then K ++Lk 64 100 else if 0 < K.length then K ++ [DL K (K.length - 1)] else K,(nx zs p).2)
def If (zs:List Int) (p:Nat) (K:List ByteArray) (K':List ByteArray) (q:Nat):Prop:=Ft zs p K=(K',q)
theorem U5 (R:Nat)(a:Option Addr)(n c:Nat)(zs:List Int)(p:Nat)(ak:Nat)(x:Option Addr)(K:List ByteArray)(O:Nat)(w:World)(h:H6 w R a n c zs p)(C:AZ w ak x K O)(aC:K.length≤64):
  Calls Tryz.prog 51 #[.pointer (some ⟨R,0,none⟩),.slice x K.length O] w fun e w'=>AbM R a n c zs (If zs p K) w 128 e w':=by
 obtain ⟨i,hi,E,F,H⟩:=info_parts La;have t:=h.lt;have X:=C.small;have q:=Ab X;clear X;go_enter Tryz.func51,Tryz.ntmps51
 go_wp2_with (at_builtin;refine J8 rfl _ _ rfl w.heap.size _ _ _ rfl (World.ownsRow_nil _ _ _ _) x K.length O K rfl C.strs (PX C.own) ?c1 NLN ?_)
 case c1=>omega
 intro v1 P I Y;have Q:Below w.heap.size w P:=BRN.grown Y NLN (fun k hk=>by cases hk);obtain ⟨Z,aa,ab⟩:=AK I;rw[ab] at I ⊢;clear ab Y C;have ac:AZ P w.heap.size Z K aa:=⟨I,Aa q⟩
 clear I;have h1:=h.after Q t;go_wp2_with fail
 refine (Cd R a n c zs p P h1).mono ?_;rintro e f ⟨y,v,rfl,z,aD,aE,h2,S⟩;have m:Ai R (R+1) w f:=(Ai.of_below Q NLN).trans S;have A:=ac.touch S (by omega);have J:=m.size;clear h h1 ac Q S;have o:=A.own;by_cases e3:y % 5=3
 ·have L:(y % 5== 0)=false:=beq_eq_false_iff_ne.2 (by omega);have T:(y % 5== 1)=false:=beq_eq_false_iff_ne.2 (by omega);have q2:(y % 5== 2)=false:=beq_eq_false_iff_ne.2 (by omega);have q3:(y % 5== 3)=true:=beq_iff_eq.2 e3;have al:=Ab e3;clear e3;go_wp2_with fail
  refine (Nx _ _ _ (by omega) (by omega) (by omega) (by omega)).mono ?_;rintro e l ⟨ao,c3,M,rfl,ap,aq,N,b3⟩;have aF:M.length≤64:=by omega
  clear aq;have ad:=m.then_below b3 m.size;have h3:=h2.after b3 h2.lt;have ae:=(A.below b3 NLN).own;have ar:=N.strs;have au:=PX N.own;have av:=Ab N.small;have af:=ad.size;clear N A o m h2 b3;go_wp2_with (at_builtin;refine J8 rfl _ _ rfl w.heap.size _ _ _ rfl ae ao M.length c3 M rfl ar au ?d1 af ?_)
  case d1=>omega
  intro aG aw U ag;have ah:Below w.heap.size l aw:=(Below.refl w.heap.size l).grown ag af (fun k hk=>(ae.lt k hk).1);obtain ⟨ax,ay,ai⟩:=AK U;rw[ai] at U ⊢;clear ai ag;go_wp2_with fail
  go_ret
  exact ⟨ax,ay,K ++M,v,by rw[List.length_append];rfl,Ab (by have e3:=Aa al;rw[If,Ft,Aa z,Aa ap];simp only[e3];rfl),by rw[List.length_append];omega,AZ.app U (Aa q) (Aa av),h3.after ah t,ad.then_below ah NLN⟩
 have q3:(y % 5== 3)=false:=beq_eq_false_iff_ne.2 e3;by_cases e4:y % 5=4
 ·have L:(y % 5== 0)=false:=beq_eq_false_iff_ne.2 (by omega);have T:(y % 5== 1)=false:=beq_eq_false_iff_ne.2 (by omega);have q2:(y % 5== 2)=false:=beq_eq_false_iff_ne.2 (by omega);have aj:=Ab e4;clear e3 e4;by_cases V: 0 < K.length
  ·have az:(0 :Int) < (K.length:Int):=by omega
   obtain ⟨b,aH,aA,aI,hc⟩:=A.strs.at V;have aJ:=hc (K.length - 1) (by omega);clear hc;subst aA;have aK:((K.length:Int) - 1).toNat=K.length - 1:=by omega
   have aL:(0 :Int)≤(K.length:Int) - 1:=by omega
   have aM:(K.length:Int) - 1 < (K.length:Int):=by omega
   have aB:=Ab (show (DL K (K.length - 1)).size≤1000 by rw[Cz K _ (by omega)];exact Aa q _ (List.getElem_mem _));go_wp2_with (at_builtin;refine wpList_append_own _ rfl _ _ 78 rfl w.heap.size 9 i (.string ByteArray.empty) 1 16 Tryz.underlying78 hi E F H rfl (by decide) _ _ _ rfl (o.alloc _) ⟨f.heap.size,0,none⟩ 1 1 [.string (DL K (K.length - 1))] rfl rfl ?c1 ?c2 ?c3 ?c4 ?c5 ?_)
   case c1=>exact cell_one_new _ _ _
   case c2=>intro u hu;simp at hu;subst hu;rfl
   case c3=>unfold maxLen;omega
   case c4=>omega
   case c5=>simp;omega
   intro W l d g _;have j:Below w.heap.size f l:=((Below.refl w.heap.size f).alloc J _).grown g (by simp;omega) (fun k hk=>(o.lt k hk).1);obtain ⟨r,s,hf⟩:=AK d;rw[hf] at d ⊢;clear g hf;go_wp2_with fail
   go_ret
   exact ⟨r,s,K ++ [DL K (K.length - 1)],v,by rw[List.length_append];rfl,Ab (by have e4:=Aa aj;rw[If,Ft,Aa z];simp only[e4];rw[if_pos V];rfl),by rw[List.length_append];simp;omega,AZ.snoc d (Aa q) (Aa aB),h2.after j t,m.then_below j NLN⟩
  ·have az: ¬ ((0 :Int) < (K.length:Int)):=by omega
   go_wp2_with fail
   go_ret
   exact ⟨Z,aa,K,v,rfl,Ab (by have e4:=Aa aj;rw[If,Ft,Aa z];simp only[e4];rw[if_neg V];rfl),by omega,A,h2,m⟩
 ·have hq:y % 5=0∨y % 5=1∨y % 5=2:=by omega
  clear e3 e4;rcases hq with hq | hq | hq
  ·have L:(y % 5== 0)=true:=beq_iff_eq.2 hq;have B:=Ab hq;clear hq;go_wp2_with (at_builtin;refine wpList_append_own _ rfl _ _ 78 rfl w.heap.size 9 i (.string ByteArray.empty) 1 16 Tryz.underlying78 hi E F H rfl (by decide) _ _ _ rfl (o.alloc _) ⟨f.heap.size,0,none⟩ 1 1 [.string (⟨#[]⟩:ByteArray)] rfl rfl ?c1 ?c2 ?c3 ?c4 ?c5 ?_)
   case c1=>exact cell_one_new _ _ _
   case c2=>intro u hu;simp at hu;subst hu;rfl
   case c3=>unfold maxLen;omega
   case c4=>omega
   case c5=>simp;omega
   intro W l d g _;have j:Below w.heap.size f l:=((Below.refl w.heap.size f).alloc J _).grown g (by simp;omega) (fun k hk=>(o.lt k hk).1);obtain ⟨r,s,hf⟩:=AK d;rw[hf] at d ⊢;clear g hf;go_wp2_with fail
   go_ret
   exact ⟨r,s,K ++ [(⟨#[]⟩:ByteArray)],v,by rw[List.length_append];rfl,Ab (by have e:=Aa B;rw[If,Ft,Aa z];simp only[e];rfl),by rw[List.length_append];simp;omega,AZ.snoc d (Aa q) (by decide),h2.after j t,m.then_below j NLN⟩
  ·have L:(y % 5== 0)=false:=beq_eq_false_iff_ne.2 (by omega);have T:(y % 5== 1)=true:=beq_iff_eq.2 hq;have B:=Ab hq;clear hq;go_wp2_with (at_builtin;refine wpList_append_own _ rfl _ _ 78 rfl w.heap.size 9 i (.string ByteArray.empty) 1 16 Tryz.underlying78 hi E F H rfl (by decide) _ _ _ rfl (o.alloc _) ⟨f.heap.size,0,none⟩ 1 1 [.string (⟨#[97]⟩:ByteArray)] rfl rfl ?c1 ?c2 ?c3 ?c4 ?c5 ?_)
   case c1=>exact cell_one_new _ _ _
   case c2=>intro u hu;simp at hu;subst hu;rfl
   case c3=>unfold maxLen;omega
   case c4=>omega
   case c5=>simp;omega
   intro W l d g _;have j:Below w.heap.size f l:=((Below.refl w.heap.size f).alloc J _).grown g (by simp;omega) (fun k hk=>(o.lt k hk).1);obtain ⟨r,s,hf⟩:=AK d;rw[hf] at d ⊢;clear g hf;go_wp2_with fail
   go_ret
   exact ⟨r,s,K ++ [(⟨#[97]⟩:ByteArray)],v,by rw[List.length_append];rfl,Ab (by have e:=Aa B;rw[If,Ft,Aa z];simp only[e];rfl),by rw[List.length_append];simp;omega,AZ.snoc d (Aa q) (by decide),h2.after j t,m.then_below j NLN⟩
  ·have L:(y % 5== 0)=false:=beq_eq_false_iff_ne.2 (by omega);have T:(y % 5== 1)=false:=beq_eq_false_iff_ne.2 (by omega);have q2:(y % 5== 2)=true:=beq_iff_eq.2 hq;have B:=Ab hq;clear hq;go_wp2_with (at_builtin;refine wpList_append_own _ rfl _ _ 78 rfl w.heap.size 9 i (.string ByteArray.empty) 1 16 Tryz.underlying78 hi E F H rfl (by decide) _ _ _ rfl (o.alloc _) ⟨f.heap.size,0,none⟩ 1 1 [.string (⟨#[122,122,32,116,111,112]⟩:ByteArray)] rfl rfl ?c1 ?c2 ?c3 ?c4 ?c5 ?_)
   case c1=>exact cell_one_new _ _ _
   case c2=>intro u hu;simp at hu;subst hu;rfl
   case c3=>unfold maxLen;omega
   case c4=>omega
   case c5=>simp;omega
   intro W l d g _;have j:Below w.heap.size f l:=((Below.refl w.heap.size f).alloc J _).grown g (by simp;omega) (fun k hk=>(o.lt k hk).1);obtain ⟨r,s,hf⟩:=AK d;rw[hf] at d ⊢;clear g hf;go_wp2_with fail
   go_ret
   exact ⟨r,s,K ++ [(⟨#[122,122,32,116,111,112]⟩:ByteArray)],v,by rw[List.length_append];rfl,Ab (by have e:=Aa B;rw[If,Ft,Aa z];simp only[e];rfl),by rw[List.length_append];simp;omega,AZ.snoc d (Aa q) (by decide),h2.after j t,m.then_below j NLN⟩
structure Ps where
 at_:Nat
 kind:Int
 name:ByteArray
 cond:Option Pt
 grant:Option Pt
inductive DR where
 | ok (g:Option Pt) (r:List Ae)
 | bad (r:List Ae)
def DR.rest:DR→List Ae
 | .ok _ r=>r
 | .bad r=>r
inductive DD (s:List UInt8):List Ae→DR→Prop
 | no {ts:List Ae} (h:Aw s ts=false):DD s ts (.bad ts)
 | deny {t u:Ae} {r:List Ae} (h:see s t=true) (hu:see Gg u=true):DD s (t ::u ::r) (.ok none r)
 | grant {t:Ae} {r q:List Ae} {e:Pt} (h:see s t=true) (hu:Aw Gg r=false) (d:D (.beh CL) r (.ok e q)):DD s (t ::r) (.ok (some e) q)
 | grant_bad {t:Ae} {r q:List Ae} (h:see s t=true) (hu:Aw Gg r=false) (d:D (.beh CL) r (.bad q)):DD s (t ::r) (.bad q)
inductive SR where
 | ok (s:Ps) (r:List Ae)
 | bad (r:List Ae)
def SR.rest:SR→List Ae
 | .ok _ r=>r
 | .bad r=>r
inductive DS:List Ae→SR→Prop
 | let_nil {t:Ae} (h:see Fu t=true):DS [t] (.bad [])
 | let_no {t n:Ae} {r:List Ae} (h:see Fu t=true) (hn:n.kind≠3):DS (t ::n ::r) (.bad (n ::r))
 | let_bad {t n:Ae} {r q:List Ae} (h:see Fu t=true) (hn:n.kind=3) (d:D (.beh Qf) r (.bad q)):DS (t ::n ::r) (.bad q)
 | let_end {t n:Ae} {r q:List Ae} {e:Pt} (h:see Fu t=true) (hn:n.kind=3) (d:D (.beh Qf) r (.ok e q)) (hq:Aw Ax q=false):DS (t ::n ::r) (.bad q)
 | let_ {t n u:Ae} {r q:List Ae} {e:Pt} (h:see Fu t=true) (hn:n.kind=3) (d:D (.beh Qf) r (.ok e (u ::q))) (hq:see Ax u=true):DS (t ::n ::r) (.ok ⟨t.at_,1,n.text,some e,none⟩ q)
 | when_bad {t:Ae} {r q:List Ae} (h:see Bk t=true) (d:D (.beh Bk) (t ::r) (.bad q)):DS (t ::r) (.bad q)
 | when_bad2 {t:Ae} {r q p:List Ae} {e:Pt} (h:see Bk t=true) (d:D (.beh Bk) (t ::r) (.ok e q)) (d2:DD Ce q (.bad p)):DS (t ::r) (.bad p)
 | when_end {t:Ae} {r q p:List Ae} {e:Pt} {g:Option Pt} (h:see Bk t=true) (d:D (.beh Bk) (t ::r) (.ok e q)) (d2:DD Ce q (.ok g p)) (hq:Aw Ax p=false):DS (t ::r) (.bad p)
 | when {t u:Ae} {r q p:List Ae} {e:Pt} {g:Option Pt} (h:see Bk t=true) (d:D (.beh Bk) (t ::r) (.ok e q)) (d2:DD Ce q (.ok g (u ::p))) (hq:see Ax u=true):DS (t ::r) (.ok ⟨t.at_,2,Bg [],some e,g⟩ p)
 | else_bad {t:Ae} {r q:List Ae} (h:see AE t=true) (d:DD AE (t ::r) (.bad q)):DS (t ::r) (.bad q)
 | else_end {t:Ae} {r q:List Ae} {g:Option Pt} (h:see AE t=true) (d:DD AE (t ::r) (.ok g q)) (hq:Aw Ax q=false):DS (t ::r) (.bad q)
 | else_ {t u:Ae} {r q:List Ae} {g:Option Pt} (h:see AE t=true) (d:DD AE (t ::r) (.ok g (u ::q))) (hq:see Ax u=true):DS (t ::r) (.ok ⟨t.at_,3,Bg [],none,g⟩ q)
 | none {ts:List Ae} (h1:Aw Fu ts=false) (h2:Aw Bk ts=false) (h3:Aw AE ts=false):DS ts (.bad ts)
inductive QR where
 | ok (S:List Ps)
 | bad (r:List Ae)
def QR.res:QR→Option (List Ae)
 | .ok _=>none
 | .bad q=>some q
def QR.cons (s:Ps):QR→QR
 | .ok S=> .ok (s ::S)
 | .bad r=> .bad r
inductive DP:List Ae→QR→Prop
 | bad {ts q:List Ae} (d:DS ts (.bad q)):DP ts (.bad q)
 | more {ts r:List Ae} {s:Ps} {x:QR} (d:DS ts (.ok s r)) (hk:s.kind≠3) (d2:DP r x):DP ts (x.cons s)
 | last {ts:List Ae} {s:Ps} (d:DS ts (.ok s [])) (hk:s.kind=3):DP ts (.ok [s])
 | over {ts r:List Ae} {t:Ae} {s:Ps} (d:DS ts (.ok s (t ::r))) (hk:s.kind=3):DP ts (.bad (t ::r))
theorem D.any (nt:NT)(a:List Ae)(h:nt.good):∃ x,D nt a x:=D.total _ nt a h NLN
theorem DD.total (s:List UInt8)(b:List Ae):∃ x,DD s b x:=by
 cases h:Aw s b
 ·exact ⟨_,.no h⟩
 ·cases b with
  | nil=>cases h
  | cons t r=>
   cases a:Aw Gg r
   ·obtain ⟨x,d⟩:=D.any (.beh CL) r trivial;cases x with
    | ok e q=>exact ⟨_,.grant h a d⟩
    | bad q=>exact ⟨_,.grant_bad h a d⟩
   ·cases r with
    | nil=>cases a
    | cons u r=>exact ⟨_,.deny h a⟩
theorem DS.total (a:List Ae):∃ x,DS a x:=by
 cases h1:Aw Fu a
 case true=>
  cases a with
  | nil=>cases h1
  | cons t r=>
   cases r with
   | nil=>exact ⟨_,.let_nil h1⟩
   | cons n r=>
    by_cases b:n.kind=3
    ·obtain ⟨x,d⟩:=D.any (.beh Qf) r trivial;cases x with
     | bad q=>exact ⟨_,.let_bad h1 b d⟩
     | ok e q=>
      cases hq:Aw Ax q
      ·exact ⟨_,.let_end h1 b d hq⟩
      ·cases q with
       | nil=>cases hq
       | cons u q=>exact ⟨_,.let_ h1 b d hq⟩
    ·exact ⟨_,.let_no h1 b⟩
 cases h2:Aw Bk a
 case true=>
  cases a with
  | nil=>cases h2
  | cons t r=>
   obtain ⟨x,d⟩:=D.any (.beh Bk) (t ::r) trivial;cases x with
   | bad q=>exact ⟨_,.when_bad h2 d⟩
   | ok e q=>
    obtain ⟨y,d2⟩:=DD.total Ce q;cases y with
    | bad p=>exact ⟨_,.when_bad2 h2 d d2⟩
    | ok g p=>
     cases hq:Aw Ax p
     ·exact ⟨_,.when_end h2 d d2 hq⟩
     ·cases p with
      | nil=>cases hq
      | cons u p=>exact ⟨_,.when h2 d d2 hq⟩
 cases h3:Aw AE a
 case true=>
  cases a with
  | nil=>cases h3
  | cons t r=>
   obtain ⟨y,d2⟩:=DD.total AE (t ::r);cases y with
   | bad p=>exact ⟨_,.else_bad h3 d2⟩
   | ok g p=>
    cases hq:Aw Ax p
    ·exact ⟨_,.else_end h3 d2 hq⟩
    ·cases p with
     | nil=>cases hq
     | cons u p=>exact ⟨_,.else_ h3 d2 hq⟩
 exact ⟨_,.none h1 h2 h3⟩
theorem DD.suf {s:List UInt8}{a:List Ae}{x:DR}(d:DD s a x):∃ c,a=c ++x.rest∧(∀ g r,x= .ok g r→c≠ []):=by
 cases d with
 | no h=>exact ⟨[],rfl,fun _ _ h=>by cases h⟩
 | @deny t u r h hu=>exact ⟨[t,u],rfl,fun _ _ _=>by simp⟩
 | @grant t r q e h hu d=>obtain ⟨c,hc,_⟩:=d.suf;exact ⟨t ::c,by rw[hc];rfl,fun _ _ _=>by simp⟩
 | @grant_bad t r q h hu d=>obtain ⟨c,hc,_⟩:=d.suf;exact ⟨t ::c,by rw[hc];rfl,fun _ _ h=>by cases h⟩
theorem DS.suf {f:List Ae}{x:SR}(d:DS f x):∃ c,f=c ++x.rest∧(∀ g r,x= .ok g r→c≠ []):=by
 cases d with
 | @let_nil t h=>exact ⟨[t],rfl,fun _ _ h=>by cases h⟩
 | @let_no t n r h a=>exact ⟨[t],rfl,fun _ _ h=>by cases h⟩
 | @let_bad t n r q h a d=>obtain ⟨c,hc,_⟩:=d.suf;exact ⟨t ::n ::c,by rw[hc];rfl,fun _ _ h=>by cases h⟩
 | @let_end t n r q e h a d hq=>obtain ⟨c,hc,_⟩:=d.suf;exact ⟨t ::n ::c,by rw[hc];rfl,fun _ _ h=>by cases h⟩
 | @let_ t n u r q e h a d hq=>obtain ⟨c,hc,_⟩:=d.suf;exact ⟨t ::n ::(c ++ [u]),by rw[hc];simp[PR.rest,SR.rest],fun _ _ _=>by simp⟩
 | @when_bad t r q h d=>obtain ⟨c,hc,_⟩:=d.suf;exact ⟨c,hc,fun _ _ h=>by cases h⟩
 | @when_bad2 t r q p e h d d2=>obtain ⟨c,hc,_⟩:=d.suf;obtain ⟨c2,b,_⟩:=d2.suf;dsimp only[PR.rest,DR.rest,SR.rest] at *;exact ⟨c ++c2,by rw[List.append_assoc,← b];exact hc,fun _ _ h=>by cases h⟩
 | @when_end t r q p e g h d d2 hq=>obtain ⟨c,hc,_⟩:=d.suf;obtain ⟨c2,b,_⟩:=d2.suf;dsimp only[PR.rest,DR.rest,SR.rest] at *;exact ⟨c ++c2,by rw[List.append_assoc,← b];exact hc,fun _ _ h=>by cases h⟩
 | @when t u r q p e g h d d2 hq=>obtain ⟨c,hc,a⟩:=d.suf;obtain ⟨c2,b,_⟩:=d2.suf;exact ⟨c ++(c2 ++ [u]),by rw[hc];simp only[List.append_assoc];congr 1,fun _ _ _ h=>a _ _ rfl rfl (List.append_eq_nil_iff.1 h).1⟩
 | @else_bad t r q h d=>obtain ⟨c,hc,_⟩:=d.suf;exact ⟨c,hc,fun _ _ h=>by cases h⟩
 | @else_end t r q g h d hq=>obtain ⟨c,hc,_⟩:=d.suf;exact ⟨c,hc,fun _ _ h=>by cases h⟩
 | @else_ t u r q g h d hq=>obtain ⟨c,hc,_⟩:=d.suf;exact ⟨c ++ [u],by rw[hc];simp[DR.rest,SR.rest],fun _ _ _=>by simp⟩
 | none h1 h2 h3=>exact ⟨[],rfl,fun _ _ h=>by cases h⟩
theorem DP.total:∀ (n:Nat) (a:List Ae),a.length≤n→∃ x,DP a x
 | n,a,hn=>by
  obtain ⟨x,d⟩:=DS.total a;cases x with
  | bad q=>exact ⟨_,.bad d⟩
  | ok s r=>
   by_cases hk:s.kind=3
   ·cases r with
    | nil=>exact ⟨_,.last d hk⟩
    | cons t r=>exact ⟨_,.over d hk⟩
   ·obtain ⟨c,hc,b⟩:=d.suf;have h1: 0 < c.length:=List.length_pos_iff.2 (b _ _ rfl);have h2:a.length=c.length+r.length:=by rw[hc,List.length_append];rfl
    match n with
    | 0=>omega
    | n+1=>
     obtain ⟨y,d2⟩:=DP.total n r (by omega);exact ⟨_,.more d hk d2⟩
theorem DD.run {s:List UInt8}{j:List Ae}{x:DR}(d:DD s j x)(hs:s∈Ct)(a:∀ t∈j,BI t)(st:List Sy)(b:Option (List Ae))(h1:∀ q,x= .bad q→b=some q)(h2:∀ g r,x= .ok g r→Ru st r b):Ru (.t s :: .decision ::st) j b:=by
 cases d with
 | no h=>rw[h1 _ rfl];exact .term_no (Dc a hs h)
 | @deny t u r h hu=>
  have e2:=AC (a u (by simp)) (by decide) hu;exact .term (AC (a t (by simp)) hs h) (.exp (m:= [.t Gg]) (by show AI .decision (tk u)=_;rw[e2];rfl) (.term e2 (h2 _ _ rfl)))
 | @grant t r q e h hu d=>
  have f:∀ u∈r,BI u:=fun u hu=>a u (by simp[hu]);refine .term (AC (a t (by simp)) hs h) ?_;have k:Ru ([Sy.t CL,Sy.expr] ++st) r b:=d.run (show CL∈Ct by decide) f st b (h2 _ _ rfl);by_cases i:Y8 r=CL
  ·exact .exp (m:= [.t CL,.expr]) (if_pos i) k
  ·exfalso;obtain ⟨l,c,hc,n,_⟩:=d.tree trivial _ _ rfl;refine i ?_;rw[hc];exact AC (f l (by rw[hc];simp)) (by decide) n
 | @grant_bad t r q h hu d=>
  have f:∀ u∈r,BI u:=fun u hu=>a u (by simp[hu]);refine .term (AC (a t (by simp)) hs h) ?_;have k:Ru ([Sy.t CL,Sy.expr] ++st) r b:=d.run (show CL∈Ct by decide) f st b (h1 _ rfl);by_cases i:Y8 r=CL
  ·exact .exp (m:= [.t CL,.expr]) (if_pos i) k
  ·refine .exp (m:= [.t Gg]) (if_neg i) ?_;have e:q=r:=by
    cases d with
    | beh_no h=>rfl
    | @beh _ l p _ o d1=>exact absurd (AC (f l (by simp)) (by decide) o) i
   rw[h1 _ rfl,e];exact .term_no (Dc f (by decide) hu)
theorem Gr {c r:List Ae}(h:∀ t∈c ++r,BI t):∀ t∈r,BI t:=fun t ht=>h t (List.mem_append_right _ ht)
theorem DS.run {w:List Ae}{x:SR}(d:DS w x)(a:∀ t∈w,BI t)(b:Option (List Ae))(h1:∀ q,x= .bad q→b=some q)(h2:∀ s r,x= .ok s r→Ru (if s.kind=3 then [] else [.policy]) r b):Ru [.policy] w b:=by
 have l:AI .policy Fu=some [.t Fu,.t Gh,.t Qf,.expr,.t Ax,.policy]:=rfl;have v:AI .policy Bk=some [.t Bk,.expr,.t Ce,.decision,.t Ax,.policy]:=rfl;have y:AI .policy AE=some [.t AE,.decision,.t Ax]:=rfl;have A:∀ n:Ae,BI n→n.kind≠3→tk n≠Gh:=fun n i hk e=>by
  rcases i with h | h | h | ⟨h,z⟩
  ·rw[tk,if_pos h] at e;revert e;decide
  ·rw[tk,if_neg (by omega),if_pos h] at e;revert e;decide
  ·exact hk h
  ·have:tk n=Al n.text:=by rcases h with h | h <;> simp[tk,h]
   rw[← this,e] at z;revert z;decide
 cases d with
 | @let_nil t h=>
  have e1:=AC (a t (by simp)) (by decide) h;have h3:Ru [.t Gh,.t Qf,.expr,.t Ax,.policy] [] b:=by rw[h1 _ rfl];exact .term_no (by decide)
  exact .exp (by show AI .policy (tk t)=_;rw[e1];exact l) (.term e1 h3)
 | @let_no t n r h i=>
  have e1:=AC (a t (by simp)) (by decide) h;have h3:Ru [.t Gh,.t Qf,.expr,.t Ax,.policy] (n ::r) b:=by rw[h1 _ rfl];exact .term_no (A n (a n (by simp)) i)
  exact .exp (by show AI .policy (tk t)=_;rw[e1];exact l) (.term e1 h3)
 | @let_bad t n r q h i d=>
  have e1:=AC (a t (by simp)) (by decide) h;have e2:tk n=Gh:=by rw[tk,i];rfl
  have f:Ru ([Sy.t Qf,Sy.expr] ++ [.t Ax,.policy]) r b:=d.run (show Qf∈Ct by decide) (fun u hu=>a u (by simp[hu])) _ _ (h1 _ rfl);exact .exp (by show AI .policy (tk t)=_;rw[e1];exact l) (.term e1 (.term e2 f))
 | @let_end t n r q e h i d hq=>
  have e1:=AC (a t (by simp)) (by decide) h;have e2:tk n=Gh:=by rw[tk,i];rfl
  have o:∀ u∈r,BI u:=fun u hu=>a u (by simp[hu]);have f:Ru ([Sy.t Qf,Sy.expr] ++ [.t Ax,.policy]) r b:=d.run (show Qf∈Ct by decide) o _ _ (by
   show Ru _ q b;rw[h1 _ rfl];exact .term_no (Dc (Bl d o) (by decide) hq))
  exact .exp (by show AI .policy (tk t)=_;rw[e1];exact l) (.term e1 (.term e2 f))
 | @let_ t n u r q e h i d hq=>
  have e1:=AC (a t (by simp)) (by decide) h;have e2:tk n=Gh:=by rw[tk,i];rfl
  have o:∀ u∈r,BI u:=fun u hu=>a u (by simp[hu]);have hu:=Bl d o u (by simp[PR.rest]);have f:Ru ([Sy.t Qf,Sy.expr] ++ [.t Ax,.policy]) r b:=d.run (show Qf∈Ct by decide) o _ _ (by
   show Ru _ (u ::q) b;exact .term (AC hu (by decide) hq) (h2 _ _ rfl))
  exact .exp (by show AI .policy (tk t)=_;rw[e1];exact l) (.term e1 (.term e2 f))
 | @when_bad t r q h d=>
  have e1:=AC (a t (by simp)) (by decide) h;have f:Ru ([Sy.t Bk,Sy.expr] ++ [.t Ce,.decision,.t Ax,.policy]) (t ::r) b:=d.run (show Bk∈Ct by decide) a _ _ (h1 _ rfl);exact .exp (by show AI .policy (tk t)=_;rw[e1];exact v) f
 | @when_bad2 t r q p e h d d2=>
  have e1:=AC (a t (by simp)) (by decide) h;have hq:=Bl d a;have h3:Ru (.t Ce :: .decision :: [.t Ax,.policy]) q b:=d2.run (by decide) hq _ _ (fun _ e=>h1 _ (by cases e;rfl)) (fun _ _ e=>by cases e);have f:Ru ([Sy.t Bk,Sy.expr] ++ [.t Ce,.decision,.t Ax,.policy]) (t ::r) b:=d.run (show Bk∈Ct by decide) a _ _ h3;exact .exp (by show AI .policy (tk t)=_;rw[e1];exact v) f
 | @when_end t r q p e g h d d2 hq=>
  have e1:=AC (a t (by simp)) (by decide) h;have j:∀ u∈q,BI u:=Bl d a;have k:∀ u∈p,BI u:=by obtain ⟨c,hc,_⟩:=d2.suf;rw[hc] at j;exact Gr j
  have h3:Ru (.t Ce :: .decision :: [.t Ax,.policy]) q b:=d2.run (by decide) j _ _ (fun _ e=>by cases e) (fun _ _ e=>by cases e;rw[h1 _ rfl];exact .term_no (Dc k (by decide) hq));have f:Ru ([Sy.t Bk,Sy.expr] ++ [.t Ce,.decision,.t Ax,.policy]) (t ::r) b:=d.run (show Bk∈Ct by decide) a _ _ h3;exact .exp (by show AI .policy (tk t)=_;rw[e1];exact v) f
 | @when t u r q p e g h d d2 hq=>
  have e1:=AC (a t (by simp)) (by decide) h;have j:∀ u∈q,BI u:=Bl d a;have k:∀ x∈u ::p,BI x:=by obtain ⟨c,hc,_⟩:=d2.suf;rw[hc] at j;exact Gr j
  have h3:Ru (.t Ce :: .decision :: [.t Ax,.policy]) q b:=d2.run (by decide) j _ _ (fun _ e=>by cases e) (fun _ _ e=>by cases e;exact .term (AC (k u (by simp)) (by decide) hq) (h2 _ _ rfl));have f:Ru ([Sy.t Bk,Sy.expr] ++ [.t Ce,.decision,.t Ax,.policy]) (t ::r) b:=d.run (show Bk∈Ct by decide) a _ _ h3;exact .exp (by show AI .policy (tk t)=_;rw[e1];exact v) f
 | @else_bad t r q h d=>
  have e1:=AC (a t (by simp)) (by decide) h;exact .exp (by show AI .policy (tk t)=_;rw[e1];exact y) (d.run (by decide) a _ _ (fun _ e=>h1 _ (by cases e;rfl)) (fun _ _ e=>by cases e))
 | @else_end t r q g h d hq=>
  have e1:=AC (a t (by simp)) (by decide) h;have k:∀ u∈q,BI u:=by obtain ⟨c,hc,_⟩:=d.suf;rw[hc] at a;exact Gr a
  have h3:Ru (.t AE :: .decision :: [.t Ax]) (t ::r) b:=d.run (by decide) a _ _ (fun _ e=>by cases e) (fun _ _ e=>by cases e;rw[h1 _ rfl];exact .term_no (Dc k (by decide) hq));exact .exp (by show AI .policy (tk t)=_;rw[e1];exact y) h3
 | @else_ t u r q g h d hq=>
  have e1:=AC (a t (by simp)) (by decide) h;have k:∀ x∈u ::q,BI x:=by obtain ⟨c,hc,_⟩:=d.suf;rw[hc] at a;exact Gr a
  have h3:Ru (.t AE :: .decision :: [.t Ax]) (t ::r) b:=d.run (by decide) a _ _ (fun _ e=>by cases e) (fun _ _ e=>by cases e;exact .term (AC (k u (by simp)) (by decide) hq) (h2 _ _ rfl));exact .exp (by show AI .policy (tk t)=_;rw[e1];exact y) h3
 | none B C E=>
  have F:=Dc a (by decide) B;have H:=Dc a (by decide) C;have I:=Dc a (by decide) E;rw[h1 _ rfl];exact .exp (m:= [.t AE,.decision,.t Ax]) (by rw[AI,if_neg F,if_neg H]) (.term_no I)
theorem DP.run {b:List Ae}{x:QR}(d:DP b x):(∀ t∈b,BI t)→Ru [.policy] b x.res:=by
 induction d with
 | bad d=>intro a;exact d.run a _ (fun _ e=>by cases e;rfl) (fun _ _ e=>by cases e)
 | @more b r s x d hk d2 f=>
  intro a;have g:∀ t∈r,BI t:=by obtain ⟨c,hc,_⟩:=d.suf;rw[hc] at a;exact Gr a
  have h3:=f g;refine d.run a _ (fun _ e=>by cases e) (fun _ _ e=>by cases e;rw[if_neg hk];cases x <;> exact h3)
 | last d hk=>intro a;exact d.run a _ (fun _ e=>by cases e) (fun _ _ e=>by cases e;rw[if_pos hk];exact ⟨0,.fin⟩)
 | over d hk=>intro a;exact d.run a _ (fun _ e=>by cases e) (fun _ _ e=>by cases e;rw[if_pos hk];exact ⟨0,.over⟩)
inductive GC:List Ae→Option Pt→Prop
 | deny {t:Ae} (h:see Gg t=true):GC [t] none
 | grant {t:Ae} {c:List Ae} {p:Pt} (h:see CL t=true) (g:G 0 c p):GC (t ::c) (some p)
inductive SC:List Ae→Ps→Prop
 | let_ {t n e:Ae} {c:List Ae} {p:Pt} (h:see Fu t=true) (hn:n.kind=3) (he:see Qf e=true) (g:G 0 c p):SC (t ::n ::e ::c) ⟨t.at_,1,n.text,some p,none⟩
 | when {t a:Ae} {c d:List Ae} {p:Pt} {g:Option Pt} (h:see Bk t=true) (gc:G 0 c p) (ha:see Ce a=true) (gd:GC d g):SC (t ::(c ++a ::d)) ⟨t.at_,2,Bg [],some p,g⟩
 | else_ {t:Ae} {d:List Ae} {g:Option Pt} (h:see AE t=true) (gd:GC d g):SC (t ::d) ⟨t.at_,3,Bg [],none,g⟩
inductive PC:List Ae→List Ps→Prop
 | nil:PC [] []
 | cons {c r:List Ae} {u:Ae} {s:Ps} {S:List Ps} (sc:SC c s) (hu:see Ax u=true) (pc:PC r S):PC (c ++u ::r) (s ::S)
theorem DD.cut {s:List UInt8}{a:List Ae}{x:DR}(d:DD s a x){g:Option Pt}{r:List Ae}(hx:x= .ok g r):∃ t c,a=t ::(c ++r)∧see s t=true∧GC c g:=by
 cases d with
 | no h=>cases hx
 | @deny t u r h hu=>cases hx;exact ⟨t, [u],rfl,h,.deny hu⟩
 | @grant t r q e h hu d=>
  cases hx;obtain ⟨b,c,hc,hs,f⟩:=d.tree trivial _ _ rfl;exact ⟨t,b ::c,by rw[hc];rfl,h,.grant hs f⟩
 | grant_bad=>cases hx
theorem DS.cut {i:List Ae}{x:SR}(d:DS i x){s:Ps}{r:List Ae}(hx:x= .ok s r):∃ c u,i=c ++u ::r∧see Ax u=true∧SC c s:=by
 cases d with
 | @let_ t n u r q e h l d hq=>
  cases hx;obtain ⟨j,c,hc,hs,f⟩:=d.tree trivial _ _ rfl;exact ⟨t ::n ::j ::c,u,by rw[hc];rfl,hq,.let_ h l hs f⟩
 | @when t u r q p e g h d d2 hq=>
  cases hx;obtain ⟨j,c,hc,hs,f⟩:=d.tree trivial _ _ rfl;obtain ⟨a,c2,b,k,g2⟩:=d2.cut rfl;injection hc with h0 hc;subst h0;exact ⟨t ::(c ++a ::c2),u,by rw[hc,b];simp,hq,.when h f k g2⟩
 | @else_ t u r q g h d hq=>
  cases hx;obtain ⟨a,c2,b,k,g2⟩:=d.cut rfl;injection b with h0 b;subst h0;exact ⟨t ::c2,u,by rw[b];simp,hq,.else_ h g2⟩
 | _=>cases hx
theorem DP.cut {a:List Ae}{x:QR}(d:DP a x):∀ S,x= .ok S→PC a S:=by
 induction d with
 | bad=>intro S h;cases h
 | over=>intro S h;cases h
 | @more a r s x d hk d2 f=>
  intro S h;cases x with
  | bad=>cases h
  | ok T=>
   cases h;obtain ⟨c,u,hc,hu,b⟩:=d.cut rfl;rw[hc];exact .cons b hu (f T rfl)
 | @last a s d hk=>
  intro S h;cases h;obtain ⟨c,u,hc,hu,b⟩:=d.cut rfl;rw[hc];exact .cons b hu .nil
def WO:List Ae→List ByteArray
 | []=> []
 | t ::r=>if see BT t then [] else if t.kind=2 then t.text ::WO r else WO r
def DX:List Ae→List (Nat × List ByteArray)
 | []=> []
 | t ::r=>if see Dq t then (t.at_,WO r) ::DX r else DX r
def Pt.sets:Pt→List (Nat × List ByteArray)
 | .set i ss=> [(i,ss)]
 | .un _ _ k=>k.sets
 | .bin _ _ l r=>l.sets ++r.sets
 | .ite _ c t e=>c.sets ++(t.sets ++e.sets)
 | _=> []
theorem Uj:∀ (c:List Ae),(∀ x∈c,scT x)→∀ (u:Ae) (r:List Ae),see BT u=true→WO (c ++u ::r)=Lp c
 | [],_,u,r,hu=>by rw[List.nil_append,WO,if_pos hu];rfl
 | t ::c,h,u,r,hu=>by
  have a:=Uj c (fun x hx=>h x (List.mem_cons_of_mem _ hx)) u r hu;have b:see BT t=false:=by
   rcases h t (List.mem_cons_self ..) with e | e
   ·exact Ba (by omega) (by omega)
   ·exact Am e (by decide)
  rw[List.cons_append,WO,b,Lp,a];rfl
theorem AF {t:Ae}(h:see Dq t=false)(r:List Ae):DX (t ::r)=DX r:=by
 rw[DX,h];rfl
theorem Qj:∀ (c:List Ae),(∀ x∈c,scT x)→∀ (r:List Ae),DX (c ++r)=DX r
 | [],_,r=>rfl
 | t ::c,h,r=>by
  have a:=Qj c (fun x hx=>h x (List.mem_cons_of_mem _ hx)) r;have b:see Dq t=false:=by
   rcases h t (List.mem_cons_self ..) with e | e
   ·exact Ba (by omega) (by omega)
   ·exact Am e (by decide)
  rw[List.cons_append,AF b,a]
theorem G.sets {k:Nat}{c:List Ae}{p:Pt}(g:G k c p):∀ (r:List Ae),DX (c ++r)=p.sets ++DX r:=by
 induction g with
 | up hk g a=>exact a
 | ite ht hu b n o q i j id=>
  intro r;rw[List.cons_append,AF (Am ht (by decide)),List.append_assoc,i,List.cons_append,AF (Am hu (by decide)),List.append_assoc,j,List.cons_append,AF (Am b (by decide)),id,Pt.sets];simp
 | bin hk l ht m d f=>
  intro r;rw[List.append_assoc,d,List.cons_append,AF ((Gq ht).2.2 _ (by decide)),f,Pt.sets,List.append_assoc]
 | cmp l ht m d f=>
  intro r;rw[List.append_assoc,d,List.cons_append,AF ((Gq ht).2.2 _ (by decide)),f,Pt.sets,List.append_assoc]
 | not ht g a=>intro r;rw[List.cons_append,AF (Am ht (by decide)),a,Pt.sets]
 | neg ht g a=>intro r;rw[List.cons_append,AF (Am ht (by decide)),a,Pt.sets]
 | par ht g hu a=>intro r;rw[List.cons_append,AF (Am ht (by decide)),List.append_assoc,a,List.cons_append,List.nil_append,AF (Am hu (by decide))]
 | size ht hu g b a=>intro r;rw[List.cons_append,List.cons_append,AF (Am ht (by decide)),AF (Am hu (by decide)),List.append_assoc,a,List.cons_append,List.nil_append,AF (Am b (by decide)),Pt.sets]
 | @set t u c ht hc hu=>
  intro r;rw[List.cons_append,DX,if_pos ht,List.append_assoc,List.cons_append,List.nil_append,Uj c hc u r hu,Qj c hc,AF (Am hu (by decide))];rfl
 | num h | text h | name h=>intro r;exact AF (Ba (by omega) (by omega)) r
 | tru h | fls h=>intro r;exact AF (Am h (by decide)) r
def OI:Option Pt→List (Nat × List ByteArray)
 | none=> []
 | some p=>p.sets
def Ps.sets (s:Ps):List (Nat × List ByteArray):=OI s.cond ++OI s.grant
theorem GC.sets {c:List Ae}{g:Option Pt}(h:GC c g)(r:List Ae):DX (c ++r)=OI g ++DX r:=by
 cases h with
 | deny h=>exact AF (Am h (by decide)) r
 | grant h g=>rw[List.cons_append,AF (Am h (by decide)),g.sets];rfl
theorem SC.sets {c:List Ae}{s:Ps}(h:SC c s)(r:List Ae):DX (c ++r)=s.sets ++DX r:=by
 cases h with
 | let_ h f he g=>rw[List.cons_append,List.cons_append,List.cons_append,AF (Am h (by decide)),AF (Ba (by omega) (by omega)),AF (Am he (by decide)),g.sets];simp[Ps.sets,OI]
 | when h b d a=>rw[List.cons_append,AF (Am h (by decide)),List.append_assoc,b.sets,List.cons_append,AF (Am d (by decide)),a.sets];simp[Ps.sets,OI]
 | else_ h a=>rw[List.cons_append,AF (Am h (by decide)),a.sets];simp[Ps.sets,OI]
theorem PC.sets {a:List Ae}{S:List Ps}(h:PC a S):DX a=S.flatMap Ps.sets:=by
 induction h with
 | nil=>rfl
 | cons b hu d c=>rw[b.sets,AF (Am hu (by decide)),c];rfl
def CG (S:List (Nat × Nat)):List Value:=S.flatMap fun p=> [.int .i64 p.1,.int .i64 p.2]
theorem JV:∀ (S:List (Nat × Nat)) (i:Nat) (h:i < S.length),(CG S)[i * 2]? =some (.int .i64 (S[i].1 :Int))∧(CG S)[i * 2+1]? =some (.int .i64 (S[i].2 :Int))
 | [],i,h=>absurd h (by simp)
 | p ::S,0,h=>⟨rfl,rfl⟩
 | p ::S,i+1,h=>by
  have a:=JV S i (by simpa using h);have e:CG (p ::S)= .int .i64 p.1 :: .int .i64 p.2 ::CG S:=rfl;rw[e,show (i+1) * 2=i * 2+1+1 by omega,List.getElem?_cons_succ,List.getElem?_cons_succ,show i * 2+1+1+1=(i * 2+1)+1+1 by omega,List.getElem?_cons_succ,List.getElem?_cons_succ];simpa using a
theorem YN (l:List (Nat × Nat))(p:Nat × Nat):Ep (l ++ [p])=max (Ep l) p.2:=by
 induction l with
 | nil=>simp[Ep]
 | cons q l a=>rw[List.cons_append,Ep,Ep,a];omega
theorem Wq {K:List (List Int)}{k:Nat}{S:List (Nat × Nat)}{ks:List Int}(h:Cj K k [] 0=some S)(hk:K[k]? =some ks):Cj K (k+1) [] 0=CW S k ks:=by
 rw[FO K k 1 [] 0,h];show Cj K 1 S (0+k)=_;rw[Nat.zero_add,Cj,hk];dsimp only;cases CW S k ks <;> rfl
theorem Wr {K:List (List Int)}{k n:Nat}(hk:k≤n)(h:Cj K k [] 0=none):Cj K n [] 0=none:=by
 have e:n=k+(n - k):=by omega
 rw[e,FO K k (n - k) [] 0,h];rfl
theorem RZ {S:List (Nat × Nat)}{i:Nat}{ks:List Int}(h:S.length < ks.length):CW S i ks=none:=by rw[CW,if_pos h]
theorem TN {S:List (Nat × Nat)}{i f j:Nat}{ks:List Int}(hf:f+ks.length=S.length)(a:j < ks.length)(b:f+j < S.length)(h:(S[f+j].1 :Int)≠ks[j]):CW S i ks=none:=by
 have c:S.length - ks.length=f:=by omega
 rw[CW,if_neg (by omega),if_pos];rw[c];intro e;apply h;have h1:(Ar (S.drop f))[j]? =some ks[j]:=by rw[e];exact List.getElem?_eq_getElem a
 rw[Ar,List.getElem?_map,List.getElem?_drop,List.getElem?_eq_getElem b] at h1;simpa using h1
theorem TO {S:List (Nat × Nat)}{i f:Nat}{ks:List Int}(hf:f+ks.length=S.length)(a:Ep (S.drop f)=64):CW S i ks=none:=by
 have b:S.length - ks.length=f:=by omega
 rw[CW,if_neg (by omega),b];by_cases h:Ar (S.drop f)≠ks
 ·rw[if_pos h]
 ·rw[if_neg h,if_pos a]
theorem YO {S:List (Nat × Nat)}{i f:Nat}{ks:List Int}(hf:f+ks.length=S.length)(ht:Ar (S.drop f)=ks)(a:Ep (S.drop f)≠64):CW S i ks=some (S.take f ++ [(i,Ep (S.drop f)+1)]):=by
 have b:S.length - ks.length=f:=by omega
 rw[CW,if_neg (by omega),b,if_neg (by simp[ht]),if_neg a]
def Jr (S:List (Nat × Nat)) (f:Nat) (ks:List Int) (j:Nat):Prop:=Ar ((S.drop f).take j)=ks.take j
theorem TP (S:List (Nat × Nat))(f:Nat)(ks:List Int):Jr S f ks 0:=by simp[Jr,Ar]
theorem GO (S:List (Nat × Nat))(f j:Nat)(h:f+j < S.length):(S.drop f).take (j+1)=(S.drop f).take j ++ [S[f+j]]:=by
 have a:j < (S.drop f).length:=by rw[List.length_drop];omega
 rw[List.take_succ_eq_append_getElem a,List.getElem_drop]
theorem TQ {S:List (Nat × Nat)}{f j:Nat}{ks:List Int}(a:j < ks.length)(b:f+j < S.length)(h:Jr S f ks j)(e:(S[f+j].1 :Int)=ks[j]):Jr S f ks (j+1):=by
 rw[Jr,GO S f j b,List.take_succ_eq_append_getElem a,← e];rw[Jr] at h;rw[← h];simp[Ar]
theorem Ws {S:List (Nat × Nat)}{f:Nat}{ks:List Int}(hf:f+ks.length=S.length)(h:Jr S f ks ks.length):Ar (S.drop f)=ks:=by
 rw[Jr,List.take_of_length_le (by rw[List.length_drop];omega),List.take_of_length_le NLN] at h;exact h
theorem FI {lo:Nat}{a b:List Value}(d:∀ j,(c:j < a.length)→∀ q,a[j].ownBlock=some q→lo≤q)(f:∀ j,(c:j < b.length)→∀ q,b[j].ownBlock=some q→lo≤q):∀ j,(c:j < (a ++b).length)→∀ q,(a ++b)[j].ownBlock=some q→lo≤q:=fun j c q hq=>by
 by_cases h:j < a.length
 ·rw[List.getElem_append_left h] at hq;exact d j h q hq
 ·rw[List.getElem_append_right (by omega)] at hq;exact f _ (by simp at c;omega) q hq
theorem L8 {lo:Nat}{v:Value}(h:∀ q,v.ownBlock=some q→lo≤q):∀ j,(a:j < [v].length)→∀ q, [v][j].ownBlock=some q→lo≤q:=fun j a q hq=>by
 have b:j=0:=by simp at a;exact a
 subst b;exact h q hq
theorem Ey {lo hi:Nat}{a:List Value}(c:∀ j,(b:j < a.length)→∀ q,a[j].ownBlock=some q→hi≤q)(h:lo≤hi):∀ j,(b:j < a.length)→∀ q,a[j].ownBlock=some q→lo≤q:=fun j b q hq=>Nat.le_trans h (c j b q hq)
def JE (t:Ae):List Value:= [.int .i64 t.kind,.int .i64 t.num,.string t.text,.int .i64 (t.at_:Int)]
def Gn (T:List Ae):List Value:=T.flatMap JE
theorem RM:∀ (T:List Ae),(Gn T).length=T.length * 4
 | []=>rfl
 | t ::T=>by
  have:=RM T;simp only[Gn,List.flatMap_cons,List.length_append,List.length_cons] at this ⊢;simp only[JE,List.length_cons,List.length_nil];omega
theorem NN (T:List Ae)(t:Ae):Gn (T ++ [t])=Gn T ++JE t:=by simp[Gn]
theorem OJ:∀ (T:List Ae) (j:Nat) (h:j < T.length),(Gn T)[j * 4]? =some (.int .i64 T[j].kind)∧(Gn T)[j * 4+1]? =some (.int .i64 T[j].num)∧(Gn T)[j * 4+2]? =some (.string T[j].text)∧(Gn T)[j * 4+3]? =some (.int .i64 (T[j].at_:Int))
 | t ::T,0,_=>⟨rfl,rfl,rfl,rfl⟩
 | t ::T,j+1,h=>by
  have b:=OJ T j (by simpa using h);have e:Gn (t ::T)=JE t ++Gn T:=rfl;have e1:∀ i,(JE t ++Gn T)[(j+1) * 4+i]? =(Gn T)[j * 4+i]? :=fun i=>by
   rw[List.getElem?_append_right (by simp[JE];omega)]
   congr 1
   simp[JE];omega
  have a:=e1 0;rw[Nat.add_zero,Nat.add_zero] at a;rw[e,a,e1 1,e1 2,e1 3];simpa using b
def okT (T:List Ae):Prop:=∀ t∈T,t.text.size≤maxLen
structure H9 (w:World) (lo hi:Nat) (a:Option Addr) (n c:Nat) (T:List Ae):Prop where
 own:w.ownsRow lo 93 4 (.slice a n c) n (Gn T)
 lt:∀ x,a=some x→x.block < hi
 sizes:okT T
 top:hi≤w.heap.size
theorem H9.len {w:World}{lo hi n c:Nat}{a:Option Addr}{T:List Ae}(h:H9 w lo hi a n c T):T.length=n:=by
 have:=h.own.1;rw[RM] at this;omega
theorem GL {w w':World}{lo n c:Nat}{a:Option Addr}{d:List Value}(h:w.ownsRow lo 93 4 (.slice a n c) n d)(f:∀ x,a=some x→w'.heap[x.block]? =w.heap[x.block]?):w'.ownsRow lo 93 4 (.slice a n c) n d:=by
 refine ⟨h.1, ?_⟩;rcases h.2 with h2 | ⟨g,cap,i,b,h3,j,h4⟩
 ·exact .inl h2
 ·refine .inr ⟨g,cap,i,b,h3, ?_,h4⟩;simp only[Value.slice.injEq] at b;rw[← j];exact f ⟨g,0,none⟩ b.1
theorem H9.below {w w':World}{lo hi n c B:Nat}{a:Option Addr}{T:List Ae}(h:H9 w lo hi a n c T)(b:Below B w w')(d:hi≤B):H9 w' lo hi a n c T:=
 ⟨GL h.own (fun x hx=>b.block _ (by have:=h.lt x hx;omega)),h.lt,h.sizes,Nat.le_trans h.top b.size⟩
theorem H9.touch {w w':World}{lo hi n c b d:Nat}{a:Option Addr}{T:List Ae}(h:H9 w lo hi a n c T)(t:Ai b d w w')(f:hi≤b∨d≤lo):H9 w' lo hi a n c T:=
 ⟨GL h.own (fun x hx=>t.block _ (by have:=h.lt x hx;have:=h.top;omega) (by
  have h1:=h.lt x hx;have h2:lo≤x.block:=by subst hx;exact (h.own.lt _ rfl).1
  omega)),h.lt,h.sizes,Nat.le_trans h.top t.size⟩
theorem H9.form {w:World}{lo hi n c:Nat}{a:Option Addr}{T:List Ae}(h:H9 w lo hi a n c T)(f: 0 < n):∃ g,a=some ⟨g,0,none⟩∧lo≤g∧g < hi∧g < w.heap.size:=by
 rcases h.own.2 with ⟨_,h0⟩ | ⟨g,cap,i,b,h3,d,_⟩
 ·omega
 ·simp only[Value.slice.injEq] at b;exact ⟨g,b.1,h3,h.lt _ b.1,(Array.getElem?_eq_some_iff.1 d).1⟩
theorem H9.small {w:World}{lo hi n c:Nat}{a:Option Addr}{T:List Ae}(h:H9 w lo hi a n c T):n≤9223372036854775807:=by
 rcases h.own.2 with ⟨_,h0⟩ | ⟨g,cap,b,d,h3,f,h4,h5,_⟩
 ·omega
 ·unfold maxLen at h5;omega
theorem H9.cells {w:World}{lo hi n c g:Nat}{T:List Ae}(h:H9 w lo hi (some ⟨g,0,none⟩) n c T)(j:Nat)(a:j < T.length):
  w.cell? ⟨g,j * 4,none⟩=some (.int .i64 T[j].kind)∧w.cell? ⟨g,j * 4+1,none⟩=some (.int .i64 T[j].num)∧w.cell? ⟨g,j * 4+2,none⟩=some (.string T[j].text)∧w.cell? ⟨g,j * 4+3,none⟩=some (.int .i64 (T[j].at_:Int)):=by
 obtain ⟨b,e1,e2,e3⟩:=OJ T j a;have d:=h.len;exact ⟨(h.own.cellAt _ (by omega)).trans b,(h.own.cellAt _ (by omega)).trans e1,(h.own.cellAt _ (by omega)).trans e2,(h.own.cellAt _ (by omega)).trans e3⟩
theorem H9.of {w:World}{lo n c:Nat}{a:Option Addr}{T:List Ae}(h:w.ownsRow lo 93 4 (.slice a n c) n (Gn T))(hs:okT T):H9 w lo w.heap.size a n c T:=
 ⟨h,fun x hx=>by subst hx;exact (h.lt _ rfl).2,hs,NLN⟩
theorem TH (s:ByteArray)(k:Nat)(h:k < s.size)(a:(s[k].toNat:Int)=32∨(s[k].toNat:Int)=10∨(s[k].toNat:Int)=9):Fg false ((Al s).drop k)=Fg false ((Al s).drop (k+1)):=by
 rw[BY s k h,Fg,if_pos];rcases a with h | h | h
 ·exact .inl (UInt8.toNat_inj.1 (by have:(32 :UInt8).toNat=32:=rfl;omega))
 ·exact .inr (.inl (UInt8.toNat_inj.1 (by have:(10 :UInt8).toNat=10:=rfl;omega)))
 ·exact .inr (.inr (UInt8.toNat_inj.1 (by have:(9 :UInt8).toNat=9:=rfl;omega)))
theorem Abs {c:UInt8}(h1: ¬ (c.toNat:Int)=32)(h2: ¬ (c.toNat:Int)=10)(h3: ¬ (c.toNat:Int)=9): ¬ (c=32∨c=10∨c=9):=by
 rintro (h | h | h)
 ·subst h;exact h1 rfl
 ·subst h;exact h2 rfl
 ·subst h;exact h3 rfl
theorem YF (s:ByteArray)(k:Nat)(h:k < s.size)(a:(s[k].toNat:Int)=35):Fg false ((Al s).drop k)=Fg true ((Al s).drop k):=by
 have e:s[k]=35:=UInt8.toNat_inj.1 (by have:(35 :UInt8).toNat=35:=rfl;omega);rw[BY s k h,e];generalize (Al s).drop (k+1)=r;simp[Fg]
theorem Wh (s:ByteArray)(k:Nat)(h:k < s.size)(h1: ¬ (s[k].toNat:Int)=32)(h2: ¬ (s[k].toNat:Int)=10)(h3: ¬ (s[k].toNat:Int)=9)(h4: ¬ (s[k].toNat:Int)=35):Fg false ((Al s).drop k)=(Al s).drop k:=by
 rw[BY s k h,Fg,if_neg (Abs h1 h2 h3),if_neg (fun e=>h4 (by rw[e];rfl))]
theorem Abt (s:ByteArray)(k:Nat)(h:k < s.size)(h1: ¬ (s[k].toNat:Int)=10):Fg true ((Al s).drop k)=Fg true ((Al s).drop (k+1)):=by
 rw[BY s k h,Fg,if_neg (fun e=>h1 (by rw[e];rfl))]
theorem Abu (s:ByteArray)(k:Nat)(h:k < s.size)(h1:(s[k].toNat:Int)=10):Fg true ((Al s).drop k)=Fg false ((Al s).drop k):=by
 have e:s[k]=10:=UInt8.toNat_inj.1 (by have:(10 :UInt8).toNat=10:=rfl;omega);rw[BY s k h,e];generalize (Al s).drop (k+1)=r;simp[Fg]
theorem Aaq (a:Bool)(s:ByteArray)(k:Nat)(h:s.size≤k):Fg a ((Al s).drop k)= []:=by
 rw[List.drop_of_length_le (by rw[Av];exact h)];cases a <;> rfl
theorem BX {w:World}{b:Nat}{v0 v1 a c:Value}{t:TypeId}(R:Aj w b #[v0,v1,a,c] t):w.cell? ⟨b,0,none⟩=some v0∧w.cell? ⟨b,1,none⟩=some v1∧w.cell? ⟨b,2,none⟩=some a∧w.cell? ⟨b,3,none⟩=some c∧∀ j,w.frozen? ⟨b,j,none⟩=false:=
 ⟨by simpa using R.cell 0,by simpa using R.cell 1,by simpa using R.cell 2,by simpa using R.cell 3,fun j=>R.frozen j⟩
theorem AJ {d:Func}{a t u:Tmp}(h:d.results= #[.cell a 93,.tmp t,.tmp u]){c:Array Value}{w:World}{b:Nat}{v0 v1 f g:Value}(i:c.getD a undef= .pointer (some ⟨b,0,none⟩))
  (j:w.cell? ⟨b,0,none⟩=some v0)(g1:w.cell? ⟨b,1,none⟩=some v1)(g2:w.cell? ⟨b,2,none⟩=some f)(g3:w.cell? ⟨b,3,none⟩=some g):
  (results d c).run Tryz.prog w= .ok (.tuple #[.agg #[v0,v1,f,g],c.getD t undef,c.getD u undef]) w:=by
 rw[Array.getD_eq_getD_getElem?] at i;simp[results,h,i,go_sem,j,g1,g2,g3]
end Go.Proofs.YtoplnhndilmlcaaGreatDoor
namespace Go.Proofs.YtoplnhndilmlcaaGreatDoor
open Go.RowKit Go.Lib
theorem Y4 {x y:List UInt8}(h:Bg x=Bg y):x=y:=by rw[← Fb x,h,Fb]
theorem AaU (x y:List UInt8):sl (Bg x) (Bg y)=true↔x < y:=by rw[OC];simp[Bg]
theorem OD (x y:List UInt8):x≤y↔sl (Bg y) (Bg x)=false:=by
 rw[Bool.eq_false_iff,Ne,AaU];exact List.not_lt.symm
theorem U0 {x y a:ByteArray}(h:sl y x=false)(k:sl a y=false):sl a x=false:=by
 rw[Bool.eq_false_iff];intro hc;rcases IE y a with h1 | h1 | h1
 ·rw[Gp h1 hc] at h;cases h
 ·subst h1;rw[hc] at h;cases h
 ·rw[h1] at k;cases k
theorem U3 (zs:List (List UInt8)):(zs.mergeSort fun x y=>decide (x≤y)).Pairwise fun x y=>sl (Bg y) (Bg x)=false:=by
 have:=List.pairwise_mergeSort (le:=fun x y:List UInt8=>decide (x≤y)) (fun a b c h k=>by
  rw[decide_eq_true_eq,OD] at h k ⊢;exact U0 h k) (fun a b=>by
  rw[Bool.or_eq_true,decide_eq_true_eq,decide_eq_true_eq,OD,OD];cases h:sl (Bg b) (Bg a) with
  | false=>exact .inl rfl
  | true=>exact .inr (Lg h)) zs
 exact this.imp fun {a b} h=>by rwa[decide_eq_true_eq,OD] at h
theorem Lh (d:Array (List UInt8))(f:∀ i j,i≤j→j < d.size→sl (Bg d[j]!) (Bg d[i]!)=false):
  ∀ m,m≤d.size→EZ ((compactUpTo d m).map Bg)=true∧∀ x,x∈compactUpTo d m↔∃ j,j < m∧d[j]! =x
 | 0,_=>⟨rfl,fun x=>⟨fun h=>by simp[compactUpTo] at h,fun ⟨j,c,_⟩=>by omega⟩⟩
 | m+1,hm=>by
  obtain ⟨h1,h2⟩:=Lh d f m (by omega);rw[compactUpTo_succ];cases hk:keeps d m with
  | true=>
   rw[if_pos rfl];refine ⟨?_,fun x=>?_⟩
   ·rw[EZ,decide_eq_true_eq] at h1 ⊢;rw[List.map_append,List.pairwise_append];refine ⟨h1,by simp,fun a l b k=>?_⟩;simp only[List.map_cons,List.map_nil,List.mem_singleton] at k;subst k;obtain ⟨x,hx,rfl⟩:=List.mem_map.1 l;obtain ⟨j,c,rfl⟩:=(h2 x).1 hx;simp only[keeps,decide_eq_true_eq] at hk;have n:d[m]! ≠d[m - 1]! :=by
     rcases hk with hk | hk
     ·omega
     ·exact hk
    rcases IE (Bg d[j]!) (Bg d[m]!) with h | h | h
    ·exact h
    ·exfalso;have a1:=f j (m - 1) (by omega) (by omega);rw[h] at a1;have a2:=f (m - 1) m (by omega) (by omega);exact n (Y4 (Sr _ _ a2 a1))
    ·have:=f j m (by omega) (by omega);rw[h] at this;cases this
   ·rw[List.mem_append,h2,List.mem_singleton];constructor
    ·rintro (⟨j,c,e⟩ | e)
     ·exact ⟨j,by omega,e⟩
     ·exact ⟨m,by omega,e.symm⟩
    ·rintro ⟨j,c,e⟩;by_cases g:j=m
     ·subst g;exact .inr e.symm
     ·exact .inl ⟨j,by omega,e⟩
  | false=>
   rw[if_neg (by simp),List.append_nil];refine ⟨h1,fun x=>?_⟩;rw[h2];simp only[keeps,decide_eq_false_iff_not,not_or,Classical.not_not] at hk;constructor
   ·rintro ⟨j,c,e⟩;exact ⟨j,by omega,e⟩
   ·rintro ⟨j,c,e⟩;by_cases g:j=m
    ·subst g;exact ⟨j - 1,by omega,by rw[← hk.2];exact e⟩
    ·exact ⟨j,by omega,e⟩
def Li (ss:List ByteArray):List (List UInt8):=Lib.compact ((ss.map Al).mergeSort fun x y=>decide (x≤y))
theorem FS (b:List ByteArray):Bz b ((Li b).map Bg):=by
 unfold Li Lib.compact;generalize c:((b.map Al).mergeSort fun x y=>decide (x≤y))=zs;have d:=U3 (b.map Al);rw[c] at d;obtain ⟨h1,h2⟩:=Lh zs.toArray (fun i j h a=>by
  have g:j < zs.length:=by simpa using a
  have f:i < zs.length:=by omega
  rw[getElem!_pos _ j a,getElem!_pos _ i (by simpa using f)];simp only[List.getElem_toArray];by_cases e:i=j
  ·subst e;exact Dh _
  ·exact List.pairwise_iff_getElem.1 d i j f g (by omega)) zs.length (by simp)
 refine ⟨h1,fun x=>?_⟩;rw[List.mem_map];have hm:∀ y,y∈zs↔y∈b.map Al:=fun y=>by rw[← c,List.mem_mergeSort]
 constructor
 ·rintro ⟨y,hy,rfl⟩;obtain ⟨j,a,e⟩:=(h2 y).1 hy;rw[getElem!_pos _ j (by simpa using a)] at e;simp only[List.getElem_toArray] at e;have:y∈zs:=by rw[← e];exact List.getElem_mem a
  obtain ⟨s,hs,rfl⟩:=List.mem_map.1 ((hm y).1 this);rw[Cv];exact hs
 ·intro hx;have:Al x∈zs:=(hm _).2 (List.mem_map.2 ⟨x,hx,rfl⟩);obtain ⟨j,a,e⟩:=List.getElem_of_mem this;refine ⟨Al x,(h2 _).2 ⟨j,a, ?_⟩,Cv x⟩;rw[getElem!_pos _ j (by simpa using a)];simpa using e
theorem Y5 (a:List ByteArray):((a.map Al).map fun l=>Value.string ⟨l.toArray⟩)=a.map Value.string:=by
 rw[List.map_map];apply List.map_congr_left;intro s _;cases s;simp[Al]
theorem Y6 (a:List (List UInt8)):(a.map Bg).map Value.string=a.map fun l=>Value.string ⟨l.toArray⟩:=by
 rw[List.map_map];rfl
end Go.Proofs.YtoplnhndilmlcaaGreatDoor
namespace Go.Proofs.YtoplnhndilmlcaaGreatDoor
open Go.RowKit Go.Lib Go.Sort
theorem WW (b g n c:Nat)(zs:List (List UInt8))(w:World)(h:w.ownsRow b 9 1 (.slice (some ⟨g,0,none⟩) n c) n (zs.map encStr))(j:n≤1048576):
  Calls Tryz.prog 177 #[.slice (some ⟨g,0,none⟩) n c] w fun e w'=>e= .returned (.tuple #[])∧w'.ownsRow b 9 1 (.slice (some ⟨g,0,none⟩) n c) n ((zs.mergeSort fun x y=>decide (x≤y)).map encStr)∧w.grownBy w' (some g):=by
 have f:zs.length=n:=by have:=h.1;simpa using this
 subst f;rcases h.2 with ⟨h0,_⟩ | ⟨k,cap,l,d,i,a,h1,h2,h3,h4⟩
 ·cases h0
 ·simp only[Value.slice.injEq,Option.some.injEq,Addr.mk.injEq,and_true,true_and] at d;obtain ⟨rfl,rfl⟩:=d;refine (Tryz.slices_Sort_string g 0 c zs w (holds_of_block a (by simpa using h4)) (Array.getElem?_eq_some_iff.1 a).1 (by omega)).mono ?_;rintro e w' ⟨rfl,q,os,rfl⟩;exact ⟨rfl,ownsRow_sorted (by simp) i a h1 h2 h3,grownBy_sorted _⟩
theorem JH (b:Array Value)(a rs:List (List UInt8))(h:(a ++rs).length≤b.size):(putCells encStr 0 (a ++rs).toArray b).toList.take a.length=a.map encStr:=by
 have e:=take_putCells b (a ++rs) h;have:=congrArg (List.take a.length) e;rw[List.take_take,Nat.min_eq_left (by simp)] at this;rw[this,List.map_append,List.take_left' (by simp)]
theorem QQ (zs:List (List UInt8)):(Lib.compact zs).length≤zs.length:=by
 unfold Lib.compact compactUpTo;rw[List.length_map];exact Nat.le_trans (List.length_filter_le _ _) (by simp)
theorem Qn (a g n c:Nat)(zs:List (List UInt8))(w:World)(h:w.ownsRow a 9 1 (.slice (some ⟨g,0,none⟩) n c) n (zs.map encStr))(o:n≤1048576):
  Calls Tryz.prog 178 #[.slice (some ⟨g,0,none⟩) n c] w fun e w'=>e= .returned (.slice (some ⟨g,0,none⟩) (Lib.compact zs).length c)∧w'.ownsRow a 9 1 (.slice (some ⟨g,0,none⟩) (Lib.compact zs).length c) (Lib.compact zs).length ((Lib.compact zs).map encStr)∧w.grownBy w' (some g):=by
 have j:zs.length=n:=by have:=h.1;simpa using this
 subst j;rcases h.2 with ⟨h0,_⟩ | ⟨p,cap,k,b,l,d,h1,h2,h3,h4⟩
 ·cases h0
 ·simp only[Value.slice.injEq,Option.some.injEq,Addr.mk.injEq,and_true,true_and] at b;obtain ⟨rfl,rfl⟩:=b;refine (Tryz.slices_Compact_string g 0 c zs w (holds_of_block d (by simpa using h4)) (by omega) h1).mono ?_;rintro e w' ⟨rfl,q,rfl⟩;have m:=(grow_empty (putRow encStr (Sort.ahead w q) g 0 (Lib.compact zs ++List.replicate (zs.length - (Lib.compact zs).length) []).toArray)).symm;have r:=QQ zs;have f:=heap_sorted (n:=q) (os:=#[]) (Lib.compact zs ++List.replicate (zs.length - (Lib.compact zs).length) []).toArray d;have i:=grownBy_sorted (w:=w) (g:=g) (n:=q) (os:=#[]) (Lib.compact zs ++List.replicate (zs.length - (Lib.compact zs).length) []).toArray;rw[← m] at f i;refine ⟨rfl,⟨by simp,.inr ⟨g,c,_,rfl,l,f,by omega,h2,by simp[putCells,h3], ?_⟩⟩,i⟩;rw[Nat.mul_one];exact JH k _ _ (by simp;omega)
end Go.Proofs.YtoplnhndilmlcaaGreatDoor

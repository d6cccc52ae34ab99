/-
  LTH, LTJ. Own work.
-/
import Derived.Test.YtoplnhndilmlcaaGreatDoorMXAN
import Derived.Test.YtoplnhndilmlcaaGreatDoorLTF
namespace Go.Proofs.YtoplnhndilmlcaaGreatDoor
open Go.RowKit
set_option linter.unusedVariables false
structure Uv (w:World) (B pb:Nat) (S:List St) (sv:Value):Prop where
 row:Aj w pb #[.slice none 0 0,sv] 26
 st:w.ownsRow B 51 4 sv S.length (AR S)
 good:∀ s∈S,s.name.size≤1048576
theorem Gk.row {B R d:Nat}{a:Option Addr}{n c:Nat}{zs:List Int}{wild:Bool}{p:Nat}{N:List Nd}{L:List (ByteArray × Int)}{nd lt f:Value}{w w':World}(K:Gk B R d lt nd w f w')(S:FV B R d a n c zs wild p N L nd lt w){b:Nat}{cs:Array Value}{t:TypeId}(h:Aj w b cs t)(h1:t≠113)(h2:t≠63)(h3:t≠80)(h4:t≠116):Aj w' b cs t:=by
 obtain ⟨i,j,C⟩:=S;have g:=C.rd;exact ⟨(K.block b h.lt (Ch h C.row h1) (Ch h g.row h2) (Ad h C.nodes.own h3) (Ad h C.lets h4)).trans h.out⟩
theorem Gk.own {B R b:Nat}{a:Option Addr}{n c:Nat}{zs:List Int}{wild:Bool}{p:Nat}{N:List Nd}{L:List (ByteArray × Int)}{nd lt g:Value}{w w':World}(K:Gk B R b lt nd w g w')(S:FV B R b a n c zs wild p N L nd lt w){d t size k:Nat}{v:Value}{f:List Value}(h:w.ownsRow d t size v k f)(h1: 113≠t)(h2: 63≠t)(h3:t≠80)(h4:t≠116):w'.ownsRow d t size v k f:=by
 obtain ⟨j,l,C⟩:=S;have i:=C.rd;exact Ac h (fun q hq=>K.block q (h.lt q hq).2 (fun e=>Ad C.row h h1 (by rw[hq,e])) (fun e=>Ad i.row h h2 (by rw[hq,e])) (fun e=>Ak h C.nodes.own h3 q hq e) (fun e=>Ak h C.lets h4 q hq e))
theorem Uv.gk {B R b d:Nat}{a:Option Addr}{n c:Nat}{zs:List Int}{wild:Bool}{p:Nat}{N:List Nd}{L:List (ByteArray × Int)}{nd lt g f:Value}{w w':World}{S:List St}(P:Uv w B d S f)(K:Gk B R b lt nd w g w')(G:FV B R b a n c zs wild p N L nd lt w):Uv w' B d S f:=
 ⟨K.row G P.row (by decide) (by decide) (by decide) (by decide),K.own G P.st (by decide) (by decide) (by decide) (by decide),P.good⟩
theorem Uv.below {B a:Nat}{b:Value}{w w':World}{S:List St}(P:Uv w B a S b)(c:Below w.heap.size w w'):Uv w' B a S b:=
 ⟨P.row.after c NLN,Ac P.st (fun q hq=>c.block q (P.st.lt q hq).2),P.good⟩
theorem FV.others {B R o:Nat}{a:Option Addr}{n c:Nat}{zs:List Int}{wild:Bool}{p:Nat}{N:List Nd}{L:List (ByteArray × Int)}{nd lt:Value}{w w':World}(h:FV B R o a n c zs wild p N L nd lt w)(z:Below B w w')(T:TypeId)(X:Nat→Prop)(u:∀ q,X q→(∃ cs,Aj w q cs T)∨∃ g size k v i,v.ownBlock=some q∧w.ownsRow g T size v k i)(h1:T≠113)(h2:T≠63)(h3:T≠80)(h4:T≠116)(h5:T≠9)(h6:T≠3)(hk:∀ q,q < w.heap.size→¬ X q→w'.heap[q]? =w.heap[q]?):FV B R o a n c zs wild p N L nd lt w':=by
 obtain ⟨A,E,C⟩:=h;have f:=C.rd;have x:∀ {b:Nat} {cs:Array Value} {t:TypeId},Aj w b cs t→T≠t→¬ X b:=fun r l hx=>by
  rcases u _ hx with ⟨F,k⟩ | ⟨g,size,k,v,i,s,m⟩
  ·exact Ch k r l rfl
  ·exact Ad r m (Ne.symm l) s
 have no:∀ {g t size k:Nat} {v:Value} {i:List Value},w.ownsRow g t size v k i→T≠t→∀ q,v.ownBlock=some q→¬ X q:=fun m l q hq hx=>by
  rcases u _ hx with ⟨F,k⟩ | ⟨g,size,k,v,i,s,H⟩
  ·exact Ad k m l hq
  ·exact Ak H m l q s hq
 refine ⟨A,E,⟨⟨(hk o C.row.lt (x C.row h1)).trans C.row.out⟩,⟨⟨(hk R f.row.lt (x f.row h2)).trans f.row.out⟩,f.len,f.le,f.small,fun j d=>?_⟩,C.nodes.upto (fun q hq=>hk q (C.nodes.lts.1 q hq).2 (no C.nodes.own h3 q hq)) (fun j d q hq=>hk q (C.nodes.lts.2.1 j d q hq).2 (no (C.nodes.names j (by rw[← C.nodes.len];exact d) d) h5 q hq)) (fun j d q hq=>hk q (C.nodes.lts.2.2 j d q hq).2 (no (C.nodes.kids j (by rw[← C.nodes.lenk];exact d) d) h6 q hq)),Ac C.lets (fun q hq=>hk q (C.lets.lt q hq).2 (no C.lets h4 q hq)),C.low,C.good⟩⟩;obtain ⟨b,y,e1,e2,e3,e4⟩:=f.cells j d;exact ⟨b,y,e1,e2,(z.cell (p:=⟨b,y+j,none⟩) (show b < B from C.low.2 (by omega) _ e1)).trans e3,e4⟩
theorem QF.pushL {k g:World}{B R f g7 c7:Nat}{a:Option Addr}{n c:Nat}{zs:List Int}{p:Nat}{N:List Nd}{L:List (ByteArray × Int)}{nd lt:Value}{s t:List Value}{wild:Bool}(C:QF k B R f a n c zs p N L nd lt s t wild)(u:Obj)(x:ByteArray × Int)(hx:x.1.size≤1000)(z:B≤k.heap.size)
  (l:(k.alloc u).grownBy g lt.ownBlock)(v:g.ownsRow B 116 2 (.slice (some ⟨g7,0,none⟩) (L.length+1) c7) (L.length+1) (KC L ++ [.string x.1,.int .i64 x.2])):
  QF (g.setCell ⟨f,2,none⟩ (.slice (some ⟨g7,0,none⟩) (L.length+1) c7)) B R f a n c zs p N (L ++ [x]) nd (.slice (some ⟨g7,0,none⟩) (L.length+1) c7) s t wild:=by
 have A:=(Below.refl k.heap.size k).alloc NLN u;have E:lt.ownBlock≠some f:=Ad C.row C.lets (by decide);have o:Aj g f #[.pointer (some ⟨R,0,none⟩),nd,lt,.bool wild] 113:=⟨(Ao l f C.row.lt E).trans C.row.out⟩
 have r:∀ q,q≠f→(g.setCell ⟨f,2,none⟩ (.slice (some ⟨g7,0,none⟩) (L.length+1) c7)).heap[q]? =g.heap[q]? :=fun q hq=>heap_setCell_other g ⟨f,2,none⟩ q _ hq;have i:=C.rd;have F:R≠f:=Ch i.row C.row (by decide);have H:Below B k (g.setCell ⟨f,2,none⟩ (.slice (some ⟨g7,0,none⟩) (L.length+1) c7)):=((A.mono z).grown l (by simp;omega) (fun q hq=>(C.lets.lt q hq).1)).setCell (p:=⟨f,2,none⟩) C.low.1.1 _;have m:A6 g B nd N s t:=C.nodes.upto (fun q hq=>Ao l q (C.nodes.lts.1 q hq).2 (fun e=>Ak C.lets C.nodes.own (by decide) q e hq)) (fun j d q hq=>Ao l q (C.nodes.lts.2.1 j d q hq).2 (fun e=>Ak C.lets (C.nodes.names j (by rw[← C.nodes.len];exact d) d) (by decide) q e hq)) (fun j d q hq=>Ao l q (C.nodes.lts.2.2 j d q hq).2 (fun e=>Ak C.lets (C.nodes.kids j (by rw[← C.nodes.lenk];exact d) d) (by decide) q e hq));refine ⟨o.set 2 _,⟨⟨((r R F).trans (Ao l R i.row.lt (Ad i.row C.lets (by decide)))).trans i.row.out⟩,i.len,i.le,i.small,fun j d=>?_⟩,m.upto (fun q hq=>r q (fun e=>Ad o m.own (by decide) (by rw[hq,e]))) (fun j d q hq=>r q (fun e=>Ad o (m.names j (by rw[← m.len];exact d) d) (by decide) (by rw[hq,e]))) (fun j d q hq=>r q (fun e=>Ad o (m.kids j (by rw[← m.lenk];exact d) d) (by decide) (by rw[hq,e]))), ?_,C.low,⟨C.good.1,fun y hy=>?_⟩⟩
 ·obtain ⟨b,w,e1,e2,e3,e4⟩:=i.cells j d;exact ⟨b,w,e1,e2,(H.cell (p:=⟨b,w+j,none⟩) (show b < B from C.low.2 (by omega) _ e1)).trans e3,e4⟩
 ·have:=Ac (w':=g.setCell ⟨f,2,none⟩ (.slice (some ⟨g7,0,none⟩) (L.length+1) c7)) v (fun q hq=>r q (fun e=>Ad o v (by decide) (by rw[hq,e])));rw[Vz,List.length_append];exact this
 ·rcases List.mem_append.1 hy with h | h
  ·exact C.good.2 y h
  ·rw[List.mem_singleton.1 h];exact hx
end Go.Proofs.YtoplnhndilmlcaaGreatDoor
namespace Go.Proofs.YtoplnhndilmlcaaGreatDoor
open Go.RowKit
set_option linter.unusedVariables false
theorem BA:(Tryz.prog.info? 51).map (fun i=>(i.zero,i.size,i.bytes))=some (some (.agg #[.int .i64 0,.string ByteArray.empty,.int .i64 0,.int .i64 0]),4,40):=by kernel_rfl
theorem LQ:(Tryz.prog.info? 116).map (fun i=>(i.zero,i.size,i.bytes))=some (some (.agg #[.string ByteArray.empty,.int .i64 0]),2,24):=by kernel_rfl
theorem Io (L:List St)(s:St):AR (L ++ [s])=AR L ++ [.int .i64 s.kind,.string s.name,.int .i64 s.cond,.int .i64 s.grant]:=by simp[AR]
structure In (B R:Nat) (w w':World):Prop where
 low:Below B w w'
 rd:∀ k cs,k≠R→Aj w k cs 63→Aj w' k cs 63
theorem In.keep {B R:Nat}{w a b:World}(h:In B R w a)(c:Below B a b)(hk:∀ k cs,Aj a k cs 63→b.heap[k]? =a.heap[k]?):In B R w b:=
 ⟨h.low.trans c,fun k cs n r=>⟨(hk k cs (h.rd k cs n r)).trans (h.rd k cs n r).out⟩⟩
theorem In.below {B R:Nat}{w a b:World}(h:In B R w a)(c:Below a.heap.size a b)(d:B≤a.heap.size):In B R w b:=
 h.keep (c.mono d) (fun k cs r=>c.block k r.lt)
theorem In.gk {B R f:Nat}{a:Option Addr}{n c:Nat}{zs:List Int}{wild:Bool}{p:Nat}{N:List Nd}{L:List (ByteArray × Int)}{nd lt i:Value}{w d g:World}(h:In B R w d)(K:Gk B R f lt nd d i g)(G:FV B R f a n c zs wild p N L nd lt d):In B R w g:=by
 obtain ⟨j,l,C⟩:=G;exact ⟨h.low.trans K.low,fun k cs n r=>by
  have b:=h.rd k cs n r;exact ⟨(K.block k b.lt (Ch b C.row (by decide)) n (Ad b C.nodes.own (by decide)) (Ad b C.lets (by decide))).trans b.out⟩⟩
structure LP (B R gb pb b0 sb:Nat) (a:Option Addr) (n c:Nat) (zs:List Int) (wild:Bool) (p:Nat) (N:List Nd) (L:List (ByteArray × Int)) (nd lt:Value) (S:List St) (sv v0 v1 v2 v3:Value) (w w':World):Prop where
 G:FV B R gb a n c zs wild p N L nd lt w'
 P:Uv w' B pb S sv
 Z:Aj w' b0 #[.slice none 0 0,.slice none 0 0] 26
 s:Aj w' sb #[v0,v1,v2,v3] 51
 bel:In B R w w'
 far:sv.ownBlock≠some sb∧B≤sb∧B≤pb∧b0≠pb
section
variable {B R gb pb b0 sb : Nat} {a : Option Addr} {n c : Nat} {zs : List Int} {wild : Bool} {p : Nat} {N : List Nd} {L : List (ByteArray × Int)} {nd lt : Value} {S : List St} {sv v0 v1 v2 v3 : Value} {w w1 w2 : World}
theorem LP.below (h:LP B R gb pb b0 sb a n c zs wild p N L nd lt S sv v0 v1 v2 v3 w w1)(b:Below w1.heap.size w1 w2):LP B R gb pb b0 sb a n c zs wild p N L nd lt S sv v0 v1 v2 v3 w w2:=
 ⟨h.G.below b,h.P.below b,h.Z.after b NLN,h.s.after b NLN,h.bel.below b h.G.lt.1.1,h.far⟩
theorem LP.gk {q:Nat}{M:List Nd}{b:Value}(h:LP B R gb pb b0 sb a n c zs wild p N L nd lt S sv v0 v1 v2 v3 w w1)(G:FV B R gb a n c zs wild q M L b lt w2)(K:Gk B R gb lt nd w1 b w2):LP B R gb pb b0 sb a n c zs wild q M L b lt S sv v0 v1 v2 v3 w w2:=
 ⟨G,h.P.gk K h.G,K.row h.G h.Z (by decide) (by decide) (by decide) (by decide),K.row h.G h.s (by decide) (by decide) (by decide) (by decide),h.bel.gk K h.G,h.far⟩
theorem LP.touch {q:Nat}(h:LP B R gb pb b0 sb a n c zs wild p N L nd lt S sv v0 v1 v2 v3 w w1)(t:Ai R (R+1) w1 w2)(b:H6 w2 R a n c zs q):LP B R gb pb b0 sb a n c zs wild q N L nd lt S sv v0 v1 v2 v3 w w2:=
 h.gk (h.G.touch t b) (Gk.of_touch t h.G.lt.2.1.2 h.G.lt.1.2.2)
theorem LP.set {b d f g:Value}(h:LP B R gb pb b0 sb a n c zs wild p N L nd lt S sv v0 v1 v2 v3 w w1)(j:Nat)(u:Value)(hu: #[v0,v1,v2,v3].setIfInBounds j u= #[b,d,f,g]):LP B R gb pb b0 sb a n c zs wild p N L nd lt S sv b d f g w (w1.setCell ⟨sb,j,none⟩ u):=by
 have hs:∀ q,q≠sb→(w1.setCell ⟨sb,j,none⟩ u).heap[q]? =w1.heap[q]? :=fun q hq=>heap_setCell_other w1 ⟨sb,j,none⟩ q u hq;have i:Below B w1 (w1.setCell ⟨sb,j,none⟩ u):=(Below.refl B w1).setCell (p:=⟨sb,j,none⟩) h.far.2.1 u;refine ⟨h.G.others i 51 (fun q=>q=sb) (fun q hq=> .inl ⟨#[v0,v1,v2,v3],by rw[hq];exact h.s⟩) (by decide) (by decide) (by decide) (by decide) (by decide) (by decide) (fun q _ hq=>hs q hq),⟨⟨(hs pb (Ch h.P.row h.s (by decide))).trans h.P.row.out⟩,Ac h.P.st (fun q hq=>hs q (fun e=>h.far.1 (by rw[hq,e]))),h.P.good⟩,⟨(hs b0 (Ch h.Z h.s (by decide))).trans h.Z.out⟩,by have:=h.s.set j u;rw[hu] at this;exact this,h.bel.keep i (fun k cs r=>hs k (Ch r h.s (by decide))),h.far⟩
theorem LP.cells (h:LP B R gb pb b0 sb a n c zs wild p N L nd lt S sv v0 v1 v2 v3 w w1):(w1.cell? ⟨sb,0,none⟩=some v0∧w1.cell? ⟨sb,1,none⟩=some v1∧w1.cell? ⟨sb,2,none⟩=some v2∧w1.cell? ⟨sb,3,none⟩=some v3)∧(∀ j,w1.frozen? ⟨sb,j,none⟩=false)∧(w1.cell? ⟨gb,1,none⟩=some nd∧w1.cell? ⟨gb,2,none⟩=some lt∧∀ j,w1.frozen? ⟨gb,j,none⟩=false)∧(w1.cell? ⟨pb,0,none⟩=some (.slice none 0 0)∧w1.cell? ⟨pb,1,none⟩=some sv∧∀ j,w1.frozen? ⟨pb,j,none⟩=false):=by
 obtain ⟨b,d,C⟩:=h.G;exact ⟨⟨h.s.cell 0,h.s.cell 1,h.s.cell 2,h.s.cell 3⟩,fun j=>h.s.frozen j,⟨C.row.cell 1,C.row.cell 2,fun j=>C.row.frozen j⟩,h.P.row.cell 0,h.P.row.cell 1,fun j=>h.P.row.frozen j⟩
theorem LP.pushS {g i j:Int}{nm:ByteArray}{b:World}{g7 c7:Nat}(h:LP B R gb pb b0 sb a n c zs wild p N L nd lt S sv v0 v1 v2 v3 w w1)(l:Obj)(v:nm.size≤1048576)(m:(w1.alloc l).grownBy b sv.ownBlock)(o:b.ownsRow B 51 4 (.slice (some ⟨g7,0,none⟩) (S.length+1) c7) (S.length+1) (AR S ++ [.int .i64 g,.string nm,.int .i64 i,.int .i64 j])):
  FV B R gb a n c zs wild p N L nd lt (b.setCell ⟨pb,1,none⟩ (.slice (some ⟨g7,0,none⟩) (S.length+1) c7))∧Uv (b.setCell ⟨pb,1,none⟩ (.slice (some ⟨g7,0,none⟩) (S.length+1) c7)) B pb (S ++ [⟨g,nm,i,j⟩]) (.slice (some ⟨g7,0,none⟩) (S.length+1) c7)∧Aj (b.setCell ⟨pb,1,none⟩ (.slice (some ⟨g7,0,none⟩) (S.length+1) c7)) b0 #[.slice none 0 0,.slice none 0 0] 26∧In B R w (b.setCell ⟨pb,1,none⟩ (.slice (some ⟨g7,0,none⟩) (S.length+1) c7)):=by
 have x:=h.G.lt.1.1;have y:=(Below.refl B w1).alloc x l;have t:Below B w1 b:=y.grown m (by simp;omega) (fun q hq=>(h.P.st.lt q hq).1);have gk:=Ao m;have z:=h.G.others t 51 (fun q=>sv.ownBlock=some q) (fun q hq=> .inr ⟨_,_,_,_,_,hq,h.P.st⟩) (by decide) (by decide) (by decide) (by decide) (by decide) (by decide) (fun q h1 h2=>gk q h1 h2);have f:Aj b pb #[.slice none 0 0,sv] 26:=⟨(gk pb h.P.row.lt (Ad h.P.row h.P.st (by decide))).trans h.P.row.out⟩
 have A:Aj b b0 #[.slice none 0 0,.slice none 0 0] 26:=⟨(gk b0 h.Z.lt (Ad h.Z h.P.st (by decide))).trans h.Z.out⟩
 have d:∀ q,q≠pb→(b.setCell ⟨pb,1,none⟩ (.slice (some ⟨g7,0,none⟩) (S.length+1) c7)).heap[q]? =b.heap[q]? :=fun q hq=>heap_setCell_other b ⟨pb,1,none⟩ q _ hq;have u:Below B b (b.setCell ⟨pb,1,none⟩ (.slice (some ⟨g7,0,none⟩) (S.length+1) c7)):=(Below.refl B b).setCell (p:=⟨pb,1,none⟩) h.far.2.2.1 _;refine ⟨z.others u 26 (fun q=>q=pb) (fun q hq=> .inl ⟨#[.slice none 0 0,sv],by rw[hq];exact f⟩) (by decide) (by decide) (by decide) (by decide) (by decide) (by decide) (fun q _ hq=>d q hq),⟨f.set 1 _, ?_,fun s hs=>?_⟩,⟨(d b0 h.far.2.2.2).trans A.out⟩,h.bel.keep (t.trans u) (fun k cs r=>(d k (Ch r h.P.row (by decide))).trans (gk k r.lt (Ad r h.P.st (by decide))))⟩
 ·rw[Io,List.length_append];exact Ac o (fun q hq=>d q (fun e=>Ad f o (by decide) (by rw[hq,e])))
 ·rcases List.mem_append.1 hs with hs | hs
  ·exact h.P.good s hs
  ·rw[List.mem_singleton.1 hs];exact v
theorem LP.pushL {d:World}{g7 c7:Nat}(h:LP B R gb pb b0 sb a n c zs wild p N L nd lt S sv v0 v1 v2 v3 w w1)(f:Obj)(x:ByteArray × Int)(hx:x.1.size≤1000)(g:(w1.alloc f).grownBy d lt.ownBlock)(m:d.ownsRow B 116 2 (.slice (some ⟨g7,0,none⟩) (L.length+1) c7) (L.length+1) (KC L ++ [.string x.1,.int .i64 x.2])):
  LP B R gb pb b0 sb a n c zs wild p N (L ++ [x]) nd (.slice (some ⟨g7,0,none⟩) (L.length+1) c7) S sv v0 v1 v2 v3 w (d.setCell ⟨gb,2,none⟩ (.slice (some ⟨g7,0,none⟩) (L.length+1) c7)):=by
 have l:=h.G.lt.1.1;have o:=h.G.lt.2.1.1;obtain ⟨u,v,C⟩:=h.G;have y:=(Below.refl B w1).alloc l f;have z:Below B w1 d:=y.grown g (by simp;omega) (fun q hq=>(C.lets.lt q hq).1);have gk:=Ao g;have i:∀ q,q≠gb→(d.setCell ⟨gb,2,none⟩ (.slice (some ⟨g7,0,none⟩) (L.length+1) c7)).heap[q]? =d.heap[q]? :=fun q hq=>heap_setCell_other d ⟨gb,2,none⟩ q _ hq;have j:∀ {b:Nat} {cs:Array Value} {t:TypeId},Aj w1 b cs t→t≠113→t≠116→Aj (d.setCell ⟨gb,2,none⟩ (.slice (some ⟨g7,0,none⟩) (L.length+1) c7)) b cs t:=fun r h1 h2=>⟨((i _ (Ch r C.row h1)).trans (gk _ r.lt (Ad r C.lets h2))).trans r.out⟩
 have A:Below B d (d.setCell ⟨gb,2,none⟩ (.slice (some ⟨g7,0,none⟩) (L.length+1) c7)):=(Below.refl B d).setCell (p:=⟨gb,2,none⟩) o _;exact ⟨⟨u,v,C.pushL f x hx l g m⟩,⟨j h.P.row (by decide) (by decide),Ac h.P.st (fun q hq=>(i q (fun e=>Ad C.row h.P.st (by decide) (by rw[hq,e]))).trans (gk q (h.P.st.lt q hq).2 (fun e=>Ak h.P.st C.lets (by decide) q hq e))),h.P.good⟩,j h.Z (by decide) (by decide),j h.s (by decide) (by decide),h.bel.keep (z.trans A) (fun k cs r=>(i k (Ch r C.row (by decide))).trans (gk k r.lt (Ad r C.lets (by decide)))),h.far⟩
end
def Ip (X:World) (pb b0:Nat) (nd V:Value):World:=((X.setCell ⟨pb,0,none⟩ nd).setCell ⟨b0,0,none⟩ nd).setCell ⟨b0,1,none⟩ V
theorem Pk {X w:World}{B R r d b:Nat}{a:Option Addr}{n c:Nat}{zs:List Int}{p:Nat}{N:List Nd}{L:List (ByteArray × Int)}{nd lt f s u:Value}{i l:List Value}{wild:Bool}{S:List St}(C:QF X B R r a n c zs p N L nd lt i l wild)(P:Uv X B d S f)(Z:Aj X b #[s,u] 26)(x:Below B w X)(y:B≤d)(h0:B≤b):Aj (Ip X d b nd f) b #[nd,f] 26∧A6 (Ip X d b nd f) B nd N i l∧(Ip X d b nd f).ownsRow B 51 4 f S.length (AR S)∧Below B w (Ip X d b nd f):=by
 have z:∀ q,q≠d→q≠b→(Ip X d b nd f).heap[q]? =X.heap[q]? :=fun q h1 h2=>by
  unfold Ip;rw[heap_setCell_other _ _ q _ h2,heap_setCell_other _ _ q _ h2,heap_setCell_other _ _ q _ h1]
 have h:∀ {t size k:Nat} {v:Value} {A:List Value},X.ownsRow B t size v k A→26≠t→∀ q,v.ownBlock=some q→(Ip X d b nd f).heap[q]? =X.heap[q]? :=fun m o q hq=>z q (fun e=>Ad P.row m o (by rw[hq,e])) (fun e=>Ad Z m o (by rw[hq,e]));refine ⟨?_,C.nodes.upto (fun q hq=>h C.nodes.own (by decide) q hq) (fun j g q hq=>h (C.nodes.names j (by rw[← C.nodes.len];exact g) g) (by decide) q hq) (fun j g q hq=>h (C.nodes.kids j (by rw[← C.nodes.lenk];exact g) g) (by decide) q hq),Ac P.st (fun q hq=>h P.st (by decide) q hq),((x.setCell (p:=⟨d,0,none⟩) y nd).setCell (p:=⟨b,0,none⟩) h0 nd).setCell (p:=⟨b,1,none⟩) h0 f⟩;unfold Ip;by_cases e:b=d
 ·subst e;have:=((Z.set 0 nd).set 0 nd).set 1 f;exact this
 ·have:=((Z.setFar (p:=⟨d,0,none⟩) e nd).set 0 nd).set 1 f;exact this
theorem I3 {X w:World}{B R l d b:Nat}{a:Option Addr}{n c:Nat}{zs:List Int}{p:Nat}{N:List Nd}{L:List (ByteArray × Int)}{nd lt f m o:Value}{g h:List Value}{wild:Bool}{S:List St}(C:QF X B R l a n c zs p N L nd lt g h wild)(P:Uv X B d S f)(Z:Aj X b #[m,o] 26)(i:In B R w X)(j:B≤d)(h0:B≤b):Aj (Ip X d b nd f) b #[nd,f] 26∧A6 (Ip X d b nd f) B nd N g h∧(Ip X d b nd f).ownsRow B 51 4 f S.length (AR S)∧In B R w (Ip X d b nd f):=by
 obtain ⟨h1,h2,h3,-⟩:=Pk C P Z i.low j h0;have s:∀ q,q≠d→q≠b→(Ip X d b nd f).heap[q]? =X.heap[q]? :=fun q h1 h2=>by
  unfold Ip;rw[heap_setCell_other _ _ q _ h2,heap_setCell_other _ _ q _ h2,heap_setCell_other _ _ q _ h1]
 have t:Below B X (Ip X d b nd f):=(((Below.refl B X).setCell (p:=⟨d,0,none⟩) j nd).setCell (p:=⟨b,0,none⟩) h0 nd).setCell (p:=⟨b,1,none⟩) h0 f;exact ⟨h1,h2,h3,i.keep t (fun k cs r=>s k (Ch r P.row (by decide)) (Ch r Z (by decide)))⟩
theorem Fv {c:Func}{a:Tmp}(h:c.results= #[.cell a 26]){d:Array Value}{w:World}{b:Nat}{v0 v1:Value}(f:d.getD a undef= .pointer (some ⟨b,0,none⟩))
  (R:Aj w b #[v0,v1] 26):(results c d).run Tryz.prog w= .ok (.agg #[v0,v1]) w:=by
 rw[Array.getD_eq_getD_getElem?] at f;have g:w.cell? ⟨b,0,none⟩=some v0:=R.cell 0;have g1:w.cell? ⟨b,1,none⟩=some v1:=R.cell 1;simp[results,h,f,go_sem,g,g1]
end Go.Proofs.YtoplnhndilmlcaaGreatDoor

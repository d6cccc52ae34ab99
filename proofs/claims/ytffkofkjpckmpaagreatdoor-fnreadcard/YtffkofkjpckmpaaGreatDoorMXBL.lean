/-
  KTH, KTJ. Own work.
-/
import Derived.Test.YtffkofkjpckmpaaGreatDoorMXBF
import Derived.Test.YtffkofkjpckmpaaGreatDoorMXBK
namespace Go.Proofs.YtffkofkjpckmpaaGreatDoor
open Go.RowKit
set_option linter.unusedVariables false
structure Z6 (w:World) (B pb:Nat) (S:List St) (sv:Value):Prop where
 row:Am w pb #[.slice none 0 0,sv] 27
 st:w.ownsRow B 51 4 sv S.length (Dm S)
 good:∀ s∈S,s.name.size≤1048576
theorem Gk.row {B R d:Nat}{a:Option Addr}{n c m:Nat}{L:List (ByteArray × Int)}{nd lt f:Value}{w w':World}(K:Gk B R d lt nd w f w')(S:IQ B R d a n c m L nd lt w){b:Nat}{cs:Array Value}{t:TypeId}(h:Am w b cs t)(h1:t≠131)(h2:t≠78)(h3:t≠124)(h4:t≠134):Am w' b cs t:=by
 obtain ⟨N,i,j,k,C,e⟩:=S;obtain ⟨p,g⟩:=C.rd;exact ⟨(K.block b h.lt (EQ h C.row h1) (EQ h g.row h2) (Ad h C.nodes.own h3) (Ad h C.lets h4)).trans h.out⟩
theorem Gk.own {B R b:Nat}{a:Option Addr}{n c m:Nat}{L:List (ByteArray × Int)}{nd lt g:Value}{w w':World}(K:Gk B R b lt nd w g w')(S:IQ B R b a n c m L nd lt w){d t size k:Nat}{v:Value}{f:List Value}(h:w.ownsRow d t size v k f)(h1: 131≠t)(h2: 78≠t)(h3:t≠124)(h4:t≠134):w'.ownsRow d t size v k f:=by
 obtain ⟨N,j,l,o,C,e⟩:=S;obtain ⟨p,i⟩:=C.rd;exact Ac h (fun q hq=>K.block q (h.lt q hq).2 (fun e=>Ad C.row h h1 (by rw[hq,e])) (fun e=>Ad i.row h h2 (by rw[hq,e])) (fun e=>Ap h C.nodes.own h3 q hq e) (fun e=>Ap h C.lets h4 q hq e))
theorem Z6.gk {B R b d:Nat}{a:Option Addr}{n c m:Nat}{L:List (ByteArray × Int)}{nd lt g f:Value}{w w':World}{S:List St}(P:Z6 w B d S f)(K:Gk B R b lt nd w g w')(G:IQ B R b a n c m L nd lt w):Z6 w' B d S f:=
 ⟨K.row G P.row (by decide) (by decide) (by decide) (by decide),K.own G P.st (by decide) (by decide) (by decide) (by decide),P.good⟩
theorem Z6.below {B a:Nat}{b:Value}{w w':World}{S:List St}(P:Z6 w B a S b)(c:Below w.heap.size w w'):Z6 w' B a S b:=
 ⟨P.row.after c NLN,Ac P.st (fun q hq=>c.block q (P.st.lt q hq).2),P.good⟩
theorem IQ.others {B R s:Nat}{a:Option Addr}{n c m:Nat}{L:List (ByteArray × Int)}{nd lt:Value}{w w':World}(h:IQ B R s a n c m L nd lt w)(A:Below B w w')(T:TypeId)(X:Nat→Prop)(x:∀ q,X q→(∃ cs,Am w q cs T)∨∃ g size k v i,v.ownBlock=some q∧w.ownsRow g T size v k i)(h1:T≠131)(h2:T≠78)(h3:T≠124)(h4:T≠134)(h5:T≠9)(h6:T≠3)(hk:∀ q,q < w.heap.size→¬ X q→w'.heap[q]? =w.heap[q]?):IQ B R s a n c m L nd lt w':=by
 obtain ⟨N,E,F,H,C,e⟩:=h;obtain ⟨p,f⟩:=C.rd;have y:∀ {b:Nat} {cs:Array Value} {t:TypeId},Am w b cs t→T≠t→¬ X b:=fun r l hx=>by
  rcases x _ hx with ⟨I,k⟩ | ⟨g,size,k,v,i,u,o⟩
  ·exact EQ k r l rfl
  ·exact Ad r o (Ne.symm l) u
 have no:∀ {g t size k:Nat} {v:Value} {i:List Value},w.ownsRow g t size v k i→T≠t→∀ q,v.ownBlock=some q→¬ X q:=fun o l q hq hx=>by
  rcases x _ hx with ⟨I,k⟩ | ⟨g,size,k,v,i,u,J⟩
  ·exact Ad k o l hq
  ·exact Ap J o l q u hq
 refine ⟨N,E,F,H,⟨⟨(hk s C.row.lt (y C.row h1)).trans C.row.out⟩,⟨p,⟨(hk R f.row.lt (y f.row h2)).trans f.row.out⟩,f.le,f.small,fun j d=>?_⟩,C.nodes.upto (fun q hq=>hk q (C.nodes.lts.1 q hq).2 (no C.nodes.own h3 q hq)) (fun j d q hq=>hk q (C.nodes.lts.2.1 j d q hq).2 (no (C.nodes.names j (by rw[← C.nodes.len];exact d) d) h5 q hq)) (fun j d q hq=>hk q (C.nodes.lts.2.2 j d q hq).2 (no (C.nodes.kids j (by rw[← C.nodes.lenk];exact d) d) h6 q hq)),Ac C.lets (fun q hq=>hk q (C.lets.lt q hq).2 (no C.lets h4 q hq)),C.low,C.good⟩,e⟩;obtain ⟨b,z,K,e1,e2,e3,e4,e5⟩:=f.cells j d;exact ⟨b,z,K,e1,e2,(A.cell (p:=⟨b,z+j,none⟩) (show b < B from C.low.2 (by omega) _ e1)).trans e3,e4,e5⟩
theorem TE.pushL {k g:World}{B R f g7 c7:Nat}{a:Option Addr}{n c:Nat}{N:List Nd}{L:List (ByteArray × Int)}{nd lt:Value}{s t:List Value}{u:Bool}(C:TE k B R f a n c N L nd lt s t u)(v:Obj)(x:ByteArray × Int)(hx:x.1.size≤1000)(A:B≤k.heap.size)
  (l:(k.alloc v).grownBy g lt.ownBlock)(w:g.ownsRow B 134 2 (.slice (some ⟨g7,0,none⟩) (L.length+1) c7) (L.length+1) (Og L ++ [.string x.1,.int .i64 x.2])):
  TE (g.setCell ⟨f,2,none⟩ (.slice (some ⟨g7,0,none⟩) (L.length+1) c7)) B R f a n c N (L ++ [x]) nd (.slice (some ⟨g7,0,none⟩) (L.length+1) c7) s t u:=by
 have E:=(Below.refl k.heap.size k).alloc NLN v;have F:lt.ownBlock≠some f:=Ad C.row C.lets (by decide);have o:Am g f #[.pointer (some ⟨R,0,none⟩),nd,lt,.bool u] 131:=⟨(Ax l f C.row.lt F).trans C.row.out⟩
 have r:∀ q,q≠f→(g.setCell ⟨f,2,none⟩ (.slice (some ⟨g7,0,none⟩) (L.length+1) c7)).heap[q]? =g.heap[q]? :=fun q hq=>heap_setCell_other g ⟨f,2,none⟩ q _ hq;obtain ⟨p,i⟩:=C.rd;have H:R≠f:=EQ i.row C.row (by decide);have I:Below B k (g.setCell ⟨f,2,none⟩ (.slice (some ⟨g7,0,none⟩) (L.length+1) c7)):=((E.mono A).grown l (by simp;omega) (fun q hq=>(C.lets.lt q hq).1)).setCell (p:=⟨f,2,none⟩) C.low.1.1 _;have m:Cj g B nd N s t:=C.nodes.upto (fun q hq=>Ax l q (C.nodes.lts.1 q hq).2 (fun e=>Ap C.lets C.nodes.own (by decide) q e hq)) (fun j d q hq=>Ax l q (C.nodes.lts.2.1 j d q hq).2 (fun e=>Ap C.lets (C.nodes.names j (by rw[← C.nodes.len];exact d) d) (by decide) q e hq)) (fun j d q hq=>Ax l q (C.nodes.lts.2.2 j d q hq).2 (fun e=>Ap C.lets (C.nodes.kids j (by rw[← C.nodes.lenk];exact d) d) (by decide) q e hq));refine ⟨o.set 2 _,⟨p,⟨((r R H).trans (Ax l R i.row.lt (Ad i.row C.lets (by decide)))).trans i.row.out⟩,i.le,i.small,fun j d=>?_⟩,m.upto (fun q hq=>r q (fun e=>Ad o m.own (by decide) (by rw[hq,e]))) (fun j d q hq=>r q (fun e=>Ad o (m.names j (by rw[← m.len];exact d) d) (by decide) (by rw[hq,e]))) (fun j d q hq=>r q (fun e=>Ad o (m.kids j (by rw[← m.lenk];exact d) d) (by decide) (by rw[hq,e]))), ?_,C.low,⟨C.good.1,fun y hy=>?_⟩⟩
 ·obtain ⟨b,z,J,e1,e2,e3,e4,e5⟩:=i.cells j d;exact ⟨b,z,J,e1,e2,(I.cell (p:=⟨b,z+j,none⟩) (show b < B from C.low.2 (by omega) _ e1)).trans e3,e4,e5⟩
 ·have:=Ac (w':=g.setCell ⟨f,2,none⟩ (.slice (some ⟨g7,0,none⟩) (L.length+1) c7)) w (fun q hq=>r q (fun e=>Ad o w (by decide) (by rw[hq,e])));rw[W8,zB];exact this
 ·rcases zH.1 hy with h | h
  ·exact C.good.2 y h
  ·rw[zJ.1 h];exact hx
end Go.Proofs.YtffkofkjpckmpaaGreatDoor
namespace Go.Proofs.YtffkofkjpckmpaaGreatDoor
open Go.RowKit
set_option linter.unusedVariables false
theorem H6:(Tryz.prog.info? 51).map (fun i=>(i.zero,i.size,i.bytes))=some (some (.agg #[.int .i64 0,.string ByteArray.empty,.int .i64 0,.int .i64 0]),4,40):=by kernel_rfl
theorem Y7:(Tryz.prog.info? 134).map (fun i=>(i.zero,i.size,i.bytes))=some (some (.agg #[.string ByteArray.empty,.int .i64 0]),2,24):=by kernel_rfl
theorem UG (L:List St)(s:St):Dm (L ++ [s])=Dm L ++ [.int .i64 s.kind,.string s.name,.int .i64 s.cond,.int .i64 s.grant]:=by simp[Dm]
structure NS (B R gb pb b0 sb:Nat) (a:Option Addr) (n c m:Nat) (L:List (ByteArray × Int)) (nd lt:Value) (S:List St) (sv v0 v1 v2 v3:Value) (w w':World):Prop where
 G:IQ B R gb a n c m L nd lt w'
 P:Z6 w' B pb S sv
 Z:Am w' b0 #[.slice none 0 0,.slice none 0 0] 27
 s:Am w' sb #[v0,v1,v2,v3] 51
 bel:Below B w w'
 far:sv.ownBlock≠some sb∧B≤sb∧B≤pb∧b0≠pb
section
variable {B R gb pb b0 sb : Nat} {a : Option Addr} {n c m : Nat} {L : List (ByteArray × Int)} {nd lt : Value} {S : List St} {sv v0 v1 v2 v3 : Value} {w w1 w2 : World}
theorem NS.below (h:NS B R gb pb b0 sb a n c m L nd lt S sv v0 v1 v2 v3 w w1)(b:Below w1.heap.size w1 w2):NS B R gb pb b0 sb a n c m L nd lt S sv v0 v1 v2 v3 w w2:=
 ⟨h.G.below b,h.P.below b,h.Z.after b NLN,h.s.after b NLN,h.bel.trans (b.mono h.G.lt.1.1),h.far⟩
theorem NS.gk {d:Nat}{b:Value}(h:NS B R gb pb b0 sb a n c m L nd lt S sv v0 v1 v2 v3 w w1)(G:IQ B R gb a n c d L b lt w2)(K:Gk B R gb lt nd w1 b w2):NS B R gb pb b0 sb a n c d L b lt S sv v0 v1 v2 v3 w w2:=
 ⟨G,h.P.gk K h.G,K.row h.G h.Z (by decide) (by decide) (by decide) (by decide),K.row h.G h.s (by decide) (by decide) (by decide) (by decide),h.bel.trans K.low,h.far⟩
theorem NS.touch (h:NS B R gb pb b0 sb a n c m L nd lt S sv v0 v1 v2 v3 w w1)(t:Ak R (R+1) w1 w2)(b:CE w2 R a n c):NS B R gb pb b0 sb a n c m L nd lt S sv v0 v1 v2 v3 w w2:=
 h.gk (h.G.touch t b) (Gk.of_touch t h.G.lt.2.1.2 h.G.lt.1.2.2)
theorem NS.set {b d f g:Value}(h:NS B R gb pb b0 sb a n c m L nd lt S sv v0 v1 v2 v3 w w1)(j:Nat)(u:Value)(hu: #[v0,v1,v2,v3].setIfInBounds j u= #[b,d,f,g]):NS B R gb pb b0 sb a n c m L nd lt S sv b d f g w (w1.setCell ⟨sb,j,none⟩ u):=by
 have hs:∀ q,q≠sb→(w1.setCell ⟨sb,j,none⟩ u).heap[q]? =w1.heap[q]? :=fun q hq=>heap_setCell_other w1 ⟨sb,j,none⟩ q u hq;have i:Below B w1 (w1.setCell ⟨sb,j,none⟩ u):=(Below.refl B w1).setCell (p:=⟨sb,j,none⟩) h.far.2.1 u;refine ⟨h.G.others i 51 (fun q=>q=sb) (fun q hq=> .inl ⟨#[v0,v1,v2,v3],by rw[hq];exact h.s⟩) (by decide) (by decide) (by decide) (by decide) (by decide) (by decide) (fun q _ hq=>hs q hq),⟨⟨(hs pb (EQ h.P.row h.s (by decide))).trans h.P.row.out⟩,Ac h.P.st (fun q hq=>hs q (fun e=>h.far.1 (by rw[hq,e]))),h.P.good⟩,⟨(hs b0 (EQ h.Z h.s (by decide))).trans h.Z.out⟩,by have:=h.s.set j u;rw[hu] at this;exact this,h.bel.trans i,h.far⟩
theorem NS.cells (h:NS B R gb pb b0 sb a n c m L nd lt S sv v0 v1 v2 v3 w w1):(w1.cell? ⟨sb,0,none⟩=some v0∧w1.cell? ⟨sb,1,none⟩=some v1∧w1.cell? ⟨sb,2,none⟩=some v2∧w1.cell? ⟨sb,3,none⟩=some v3)∧(∀ j,w1.frozen? ⟨sb,j,none⟩=false)∧(w1.cell? ⟨gb,1,none⟩=some nd∧w1.cell? ⟨gb,2,none⟩=some lt∧∀ j,w1.frozen? ⟨gb,j,none⟩=false)∧(w1.cell? ⟨pb,0,none⟩=some (.slice none 0 0)∧w1.cell? ⟨pb,1,none⟩=some sv∧∀ j,w1.frozen? ⟨pb,j,none⟩=false):=by
 obtain ⟨N,b,d,f,C,e⟩:=h.G;exact ⟨⟨h.s.cell 0,h.s.cell 1,h.s.cell 2,h.s.cell 3⟩,fun j=>h.s.frozen j,⟨C.row.cell 1,C.row.cell 2,fun j=>C.row.frozen j⟩,h.P.row.cell 0,h.P.row.cell 1,fun j=>h.P.row.frozen j⟩
theorem NS.pushS {g i j:Int}{nm:ByteArray}{b:World}{g7 c7:Nat}(h:NS B R gb pb b0 sb a n c m L nd lt S sv v0 v1 v2 v3 w w1)(k:Obj)(u:nm.size≤1048576)(l:(w1.alloc k).grownBy b sv.ownBlock)(o:b.ownsRow B 51 4 (.slice (some ⟨g7,0,none⟩) (S.length+1) c7) (S.length+1) (Dm S ++ [.int .i64 g,.string nm,.int .i64 i,.int .i64 j])):
  IQ B R gb a n c m L nd lt (b.setCell ⟨pb,1,none⟩ (.slice (some ⟨g7,0,none⟩) (S.length+1) c7))∧Z6 (b.setCell ⟨pb,1,none⟩ (.slice (some ⟨g7,0,none⟩) (S.length+1) c7)) B pb (S ++ [⟨g,nm,i,j⟩]) (.slice (some ⟨g7,0,none⟩) (S.length+1) c7)∧Am (b.setCell ⟨pb,1,none⟩ (.slice (some ⟨g7,0,none⟩) (S.length+1) c7)) b0 #[.slice none 0 0,.slice none 0 0] 27∧Below B w (b.setCell ⟨pb,1,none⟩ (.slice (some ⟨g7,0,none⟩) (S.length+1) c7)):=by
 have v:=h.G.lt.1.1;have x:=(Below.refl B w1).alloc v k;have r:Below B w1 b:=x.grown l (by simp;omega) (fun q hq=>(h.P.st.lt q hq).1);have gk:=Ax l;have y:=h.G.others r 51 (fun q=>sv.ownBlock=some q) (fun q hq=> .inr ⟨_,_,_,_,_,hq,h.P.st⟩) (by decide) (by decide) (by decide) (by decide) (by decide) (by decide) (fun q h1 h2=>gk q h1 h2);have d:Am b pb #[.slice none 0 0,sv] 27:=⟨(gk pb h.P.row.lt (Ad h.P.row h.P.st (by decide))).trans h.P.row.out⟩
 have z:Am b b0 #[.slice none 0 0,.slice none 0 0] 27:=⟨(gk b0 h.Z.lt (Ad h.Z h.P.st (by decide))).trans h.Z.out⟩
 have f:∀ q,q≠pb→(b.setCell ⟨pb,1,none⟩ (.slice (some ⟨g7,0,none⟩) (S.length+1) c7)).heap[q]? =b.heap[q]? :=fun q hq=>heap_setCell_other b ⟨pb,1,none⟩ q _ hq;have t:Below B b (b.setCell ⟨pb,1,none⟩ (.slice (some ⟨g7,0,none⟩) (S.length+1) c7)):=(Below.refl B b).setCell (p:=⟨pb,1,none⟩) h.far.2.2.1 _;refine ⟨y.others t 27 (fun q=>q=pb) (fun q hq=> .inl ⟨#[.slice none 0 0,sv],by rw[hq];exact d⟩) (by decide) (by decide) (by decide) (by decide) (by decide) (by decide) (fun q _ hq=>f q hq),⟨d.set 1 _, ?_,fun s hs=>?_⟩,⟨(f b0 h.far.2.2.2).trans z.out⟩,(h.bel.trans r).trans t⟩
 ·rw[UG,zB];exact Ac o (fun q hq=>f q (fun e=>Ad d o (by decide) (by rw[hq,e])))
 ·rcases zH.1 hs with hs | hs
  ·exact h.P.good s hs
  ·rw[zJ.1 hs];exact u
theorem NS.pushL {d:World}{g7 c7:Nat}(h:NS B R gb pb b0 sb a n c m L nd lt S sv v0 v1 v2 v3 w w1)(f:Obj)(x:ByteArray × Int)(hx:x.1.size≤1000)(g:(w1.alloc f).grownBy d lt.ownBlock)(l:d.ownsRow B 134 2 (.slice (some ⟨g7,0,none⟩) (L.length+1) c7) (L.length+1) (Og L ++ [.string x.1,.int .i64 x.2])):
  NS B R gb pb b0 sb a n c m (L ++ [x]) nd (.slice (some ⟨g7,0,none⟩) (L.length+1) c7) S sv v0 v1 v2 v3 w (d.setCell ⟨gb,2,none⟩ (.slice (some ⟨g7,0,none⟩) (L.length+1) c7)):=by
 have j:=h.G.lt.1.1;have o:=h.G.lt.2.1.1;obtain ⟨N,u,v,y,C,e⟩:=h.G;have z:=(Below.refl B w1).alloc j f;have A:Below B w1 d:=z.grown g (by simp;omega) (fun q hq=>(C.lets.lt q hq).1);have gk:=Ax g;have k:∀ q,q≠gb→(d.setCell ⟨gb,2,none⟩ (.slice (some ⟨g7,0,none⟩) (L.length+1) c7)).heap[q]? =d.heap[q]? :=fun q hq=>heap_setCell_other d ⟨gb,2,none⟩ q _ hq;have i:∀ {b:Nat} {cs:Array Value} {t:TypeId},Am w1 b cs t→t≠131→t≠134→Am (d.setCell ⟨gb,2,none⟩ (.slice (some ⟨g7,0,none⟩) (L.length+1) c7)) b cs t:=fun r h1 h2=>⟨((k _ (EQ r C.row h1)).trans (gk _ r.lt (Ad r C.lets h2))).trans r.out⟩
 have E:Below B d (d.setCell ⟨gb,2,none⟩ (.slice (some ⟨g7,0,none⟩) (L.length+1) c7)):=(Below.refl B d).setCell (p:=⟨gb,2,none⟩) o _;exact ⟨⟨N,u,v,y,C.pushL f x hx j g l,e⟩,⟨i h.P.row (by decide) (by decide),Ac h.P.st (fun q hq=>(k q (fun e=>Ad C.row h.P.st (by decide) (by rw[hq,e]))).trans (gk q (h.P.st.lt q hq).2 (fun e=>Ap h.P.st C.lets (by decide) q hq e))),h.P.good⟩,i h.Z (by decide) (by decide),i h.s (by decide) (by decide),(h.bel.trans A).trans E,h.far⟩
end
def Sh (X:World) (pb b0:Nat) (nd V:Value):World:=((X.setCell ⟨pb,0,none⟩ nd).setCell ⟨b0,0,none⟩ nd).setCell ⟨b0,1,none⟩ V
theorem VQ {X w:World}{B R r d b:Nat}{a:Option Addr}{n c:Nat}{N:List Nd}{L:List (ByteArray × Int)}{nd lt f s u:Value}{i l:List Value}{x:Bool}{S:List St}(C:TE X B R r a n c N L nd lt i l x)(P:Z6 X B d S f)(Z:Am X b #[s,u] 27)(y:Below B w X)(hp:B≤d)(h0:B≤b):Am (Sh X d b nd f) b #[nd,f] 27∧Cj (Sh X d b nd f) B nd N i l∧(Sh X d b nd f).ownsRow B 51 4 f S.length (Dm S)∧Below B w (Sh X d b nd f):=by
 have z:∀ q,q≠d→q≠b→(Sh X d b nd f).heap[q]? =X.heap[q]? :=fun q h1 h2=>by
  unfold Sh;rw[heap_setCell_other _ _ q _ h2,heap_setCell_other _ _ q _ h2,heap_setCell_other _ _ q _ h1]
 have h:∀ {t size k:Nat} {v:Value} {A:List Value},X.ownsRow B t size v k A→27≠t→∀ q,v.ownBlock=some q→(Sh X d b nd f).heap[q]? =X.heap[q]? :=fun m o q hq=>z q (fun e=>Ad P.row m o (by rw[hq,e])) (fun e=>Ad Z m o (by rw[hq,e]));refine ⟨?_,C.nodes.upto (fun q hq=>h C.nodes.own (by decide) q hq) (fun j g q hq=>h (C.nodes.names j (by rw[← C.nodes.len];exact g) g) (by decide) q hq) (fun j g q hq=>h (C.nodes.kids j (by rw[← C.nodes.lenk];exact g) g) (by decide) q hq),Ac P.st (fun q hq=>h P.st (by decide) q hq),((y.setCell (p:=⟨d,0,none⟩) hp nd).setCell (p:=⟨b,0,none⟩) h0 nd).setCell (p:=⟨b,1,none⟩) h0 f⟩;unfold Sh;by_cases e:b=d
 ·subst e;have:=((Z.set 0 nd).set 0 nd).set 1 f;exact this
 ·have:=((Z.setFar (p:=⟨d,0,none⟩) e nd).set 0 nd).set 1 f;exact this
theorem Y8 {f:Func}{a:Tmp}(h:f.results= #[.cell a 27]){g:Array Value}{w:World}{b:Nat}{c d:Value}(i:g.getD a undef= .pointer (some ⟨b,0,none⟩))
  (R:Am w b #[c,d] 27):(results f g).run Tryz.prog w= .ok (.agg #[c,d]) w:=by
 rw[yA] at i;have j:w.cell? ⟨b,0,none⟩=some c:=R.cell 0;have g1:w.cell? ⟨b,1,none⟩=some d:=R.cell 1;simp[results,h,i,go_sem,j,g1]
end Go.Proofs.YtffkofkjpckmpaaGreatDoor

/-
  KTH, KTJ. Own work.
-/
import Derived.Test.YtcpdodmoheebaaaGreatDoorMXAN
import Derived.Test.YtcpdodmoheebaaaGreatDoorKTF
namespace Go.Proofs.YtcpdodmoheebaaaGreatDoor
open Go.RowKit
set_option linter.unusedVariables false
structure Le (w:World) (B pb:Nat) (S:List St) (sv:Value):Prop where
 row:Ao w pb #[.slice none 0 0,sv] 49
 st:w.ownsRow B 71 4 sv S.length (Ce S)
 good:∀ s∈S,s.name.size≤1048576
theorem Gk.row {B d f:Nat}{a:Option Addr}{n c m:Nat}{L:List (ByteArray × Int)}{nd lt i:Value}{w w':World}(K:Gk B d f lt nd w i w')(j:Db B d f a n c m L nd lt w){b:Nat}{g:Array Value}{t:TypeId}(h:Ao w b g t)(h1:t≠69)(h2:t≠44)(h3:t≠99)(h4:t≠75):Ao w' b g t:=by
 obtain ⟨N,l,o,q,C,e⟩:=j
 obtain ⟨p,k⟩:=C.rd
 exact ⟨(K.block b h.lt (CF h C.row h1) (CF h k.row h2) (Af h C.nodes.own h3) (Af h C.lets h4)).trans h.out⟩
theorem Gk.own {B f g:Nat}{a:Option Addr}{n c m:Nat}{L:List (ByteArray × Int)}{nd lt o:Value}{w w':World}(K:Gk B f g lt nd w o w')(q:Db B f g a n c m L nd lt w){i t size k:Nat}{j:Value}{l:List Value}(h:w.ownsRow i t size j k l)(h1: 69≠t)(h2: 44≠t)(h3:t≠99)(h4:t≠75):w'.ownsRow i t size j k l:=by
 obtain ⟨N,s,u,v,C,e⟩:=q
 obtain ⟨p,r⟩:=C.rd
 exact Ai h (fun d b=>K.block d (h.lt d b).2 (fun e=>Af C.row h h1 (by rw [b,e])) (fun e=>Af r.row h h2 (by rw [b,e])) (fun e=>AP h C.nodes.own h3 d b e) (fun e=>AP h C.lets h4 d b e))
theorem Le.gk {B b d f:Nat}{a:Option Addr}{n c m:Nat}{L:List (ByteArray × Int)}{nd lt i g:Value}{w w':World}{h:List St}(P:Le w B f h g)(K:Gk B b d lt nd w i w')(G:Db B b d a n c m L nd lt w):Le w' B f h g:=
 ⟨K.row G P.row (by decide) (by decide) (by decide) (by decide),K.own G P.st (by decide) (by decide) (by decide) (by decide),P.good⟩
theorem Le.below {B a:Nat}{b:Value}{w w':World}{c:List St}(P:Le w B a c b)(d:Below w.heap.size w w'):Le w' B a c b:=
 ⟨P.row.after d (Nat.le_refl _),Ai P.st (fun f g=>d.block f (P.st.lt f g).2),P.good⟩
theorem Db.others {B y z:Nat}{a:Option Addr}{n c m:Nat}{L:List (ByteArray × Int)}{nd lt:Value}{w w':World}(h:Db B y z a n c m L nd lt w)(H:Below B w w')(g:TypeId)(X:Nat→Prop)(E:∀ d,X d→(∃ A,Ao w d A g)∨∃ s size k l u,l.ownBlock=some d∧w.ownsRow s g size l k u)(h1:g≠69)(h2:g≠44)(h3:g≠99)(h4:g≠75)(h5:g≠9)(h6:g≠3)(o:∀ d,d < w.heap.size→¬ X d→w'.heap[d]? =w.heap[d]?):Db B y z a n c m L nd lt w':=by
 obtain ⟨N,I,J,K,C,e⟩:=h
 obtain ⟨p,q⟩:=C.rd
 have F:∀ {b:Nat} {A:Array Value} {t:TypeId},Ao w b A t→g≠t→¬ X b:=fun r v hx=>by
  rcases E _ hx with ⟨M,k⟩ | ⟨s,size,k,l,u,D,x⟩
  ·exact CF k r v rfl
  ·exact Af r x (Ne.symm v) D
 have no:∀ {s t size k:Nat} {l:Value} {u:List Value},w.ownsRow s t size l k u→g≠t→∀ d,l.ownBlock=some d→¬ X d:=fun x v d f hx=>by
  rcases E _ hx with ⟨M,k⟩ | ⟨s,size,k,l,u,D,O⟩
  ·exact Af k x v f
  ·exact AP O x v d D f
 refine ⟨N,I,J,K,⟨⟨(o z C.row.lt (F C.row h1)).trans C.row.out⟩,⟨p,⟨(o y q.row.lt (F q.row h2)).trans q.row.out⟩,q.le,q.small,fun j i=>?_⟩,C.nodes.upto (fun d f=>o d (C.nodes.lts.1 d f).2 (no C.nodes.own h3 d f)) (fun j i d f=>o d (C.nodes.lts.2.1 j i d f).2 (no (C.nodes.names j (by rw [← C.nodes.len];exact i) i) h5 d f)) (fun j i d f=>o d (C.nodes.lts.2.2 j i d f).2 (no (C.nodes.kids j (by rw [← C.nodes.lenk];exact i) i) h6 d f)),Ai C.lets (fun d f=>o d (C.lets.lt d f).2 (no C.lets h4 d f)),C.low,C.good⟩,e⟩
 obtain ⟨b,G,P,e1,e2,e3,e4,e5⟩:=q.cells j i
 exact ⟨b,G,P,e1,e2,(H.cell (p:=⟨b,G+j,none⟩) (show b < B from C.low.2 (by omega) _ e1)).trans e3,e4,e5⟩
theorem IC.pushL {m k:World}{B o i g7 c7:Nat}{a:Option Addr}{n c:Nat}{N:List Nd}{L:List (ByteArray × Int)}{nd lt:Value}{u v:List Value}{w:Bool}(C:IC m B o i a n c N L nd lt u v w)(z:Obj)(x:ByteArray × Int)(hx:x.1.size≤1000)(E:B≤m.heap.size)
  (q:(m.alloc z).grownBy k lt.ownBlock)(A:k.ownsRow B 75 2 (.slice (some ⟨g7,0,none⟩) (L.length+1) c7) (L.length+1) (EM L ++ [.string x.1,.int .i64 x.2])):
  IC (k.setCell ⟨i,2,none⟩ (.slice (some ⟨g7,0,none⟩) (L.length+1) c7)) B o i a n c N (L ++ [x]) nd (.slice (some ⟨g7,0,none⟩) (L.length+1) c7) u v w:=by
 have F:=(Below.refl m.heap.size m).alloc (Nat.le_refl _) z
 have G:lt.ownBlock≠some i:=Af C.row C.lets (by decide)
 have s:Ao k i #[.pointer (some ⟨o,0,none⟩),nd,lt,.bool w] 69:=⟨(Ar q i C.row.lt G).trans C.row.out⟩
 have t:∀ d,d≠i→(k.setCell ⟨i,2,none⟩ (.slice (some ⟨g7,0,none⟩) (L.length+1) c7)).heap[d]? =k.heap[d]? :=fun d f=>heap_setCell_other k ⟨i,2,none⟩ d _ f
 obtain ⟨p,l⟩:=C.rd
 have H:o≠i:=CF l.row C.row (by decide)
 have I:Below B m (k.setCell ⟨i,2,none⟩ (.slice (some ⟨g7,0,none⟩) (L.length+1) c7)):=((F.mono E).grown q (by simp;omega) (fun d f=>(C.lets.lt d f).1)).setCell (p:=⟨i,2,none⟩) C.low.1.1 _
 have r:Cr k B nd N u v:=C.nodes.upto (fun d f=>Ar q d (C.nodes.lts.1 d f).2 (fun e=>AP C.lets C.nodes.own (by decide) d e f)) (fun j g d f=>Ar q d (C.nodes.lts.2.1 j g d f).2 (fun e=>AP C.lets (C.nodes.names j (by rw [← C.nodes.len];exact g) g) (by decide) d e f)) (fun j g d f=>Ar q d (C.nodes.lts.2.2 j g d f).2 (fun e=>AP C.lets (C.nodes.kids j (by rw [← C.nodes.lenk];exact g) g) (by decide) d e f))
 refine ⟨s.set 2 _,⟨p,⟨((t o H).trans (Ar q o l.row.lt (Af l.row C.lets (by decide)))).trans l.row.out⟩,l.le,l.small,fun j g=>?_⟩,r.upto (fun d f=>t d (fun e=>Af s r.own (by decide) (by rw [f,e]))) (fun j g d f=>t d (fun e=>Af s (r.names j (by rw [← r.len];exact g) g) (by decide) (by rw [f,e]))) (fun j g d f=>t d (fun e=>Af s (r.kids j (by rw [← r.lenk];exact g) g) (by decide) (by rw [f,e]))),?_,C.low,⟨C.good.1,fun y hy=>?_⟩⟩
 ·obtain ⟨b,D,J,e1,e2,e3,e4,e5⟩:=l.cells j g
  exact ⟨b,D,J,e1,e2,(I.cell (p:=⟨b,D+j,none⟩) (show b < B from C.low.2 (by omega) _ e1)).trans e3,e4,e5⟩
 ·have:=Ai (w':=k.setCell ⟨i,2,none⟩ (.slice (some ⟨g7,0,none⟩) (L.length+1) c7)) A (fun d f=>t d (fun e=>Af s A (by decide) (by rw [f,e])))
  rw [JK,List.length_append]
  exact this
 ·rcases List.mem_append.1 hy with h | h
  ·exact C.good.2 y h
  ·rw [List.mem_singleton.1 h];exact hx
end Go.Proofs.YtcpdodmoheebaaaGreatDoor
namespace Go.Proofs.YtcpdodmoheebaaaGreatDoor
open Go.RowKit
set_option linter.unusedVariables false
theorem Br:(Tryz.prog.info? 71).map (fun a=>(a.zero,a.size,a.bytes))=some (some (.agg #[.int .i64 0,.string ByteArray.empty,.int .i64 0,.int .i64 0]),4,40):=by kernel_rfl
theorem E7:(Tryz.prog.info? 75).map (fun a=>(a.zero,a.size,a.bytes))=some (some (.agg #[.string ByteArray.empty,.int .i64 0]),2,24):=by kernel_rfl
theorem IL (L:List St)(s:St):Ce (L ++ [s])=Ce L ++ [.int .i64 s.kind,.string s.name,.int .i64 s.cond,.int .i64 s.grant]:=by simp [Ce]
structure E6 (B R gb pb b0 sb:Nat) (a:Option Addr) (n c m:Nat) (L:List (ByteArray × Int)) (nd lt:Value) (S:List St) (sv v0 v1 v2 v3:Value) (w w':World):Prop where
 G:Db B R gb a n c m L nd lt w'
 P:Le w' B pb S sv
 Z:Ao w' b0 #[.slice none 0 0,.slice none 0 0] 49
 s:Ao w' sb #[v0,v1,v2,v3] 71
 bel:Below B w w'
 far:sv.ownBlock≠some sb∧B≤sb∧B≤pb∧b0≠pb
section
variable {B R gb pb b0 sb : Nat} {a : Option Addr} {n c m : Nat} {L : List (ByteArray × Int)} {nd lt : Value} {S : List St} {sv v0 v1 v2 v3 : Value} {w w1 w2 : World}
theorem E6.below (h:E6 B R gb pb b0 sb a n c m L nd lt S sv v0 v1 v2 v3 w w1)(b:Below w1.heap.size w1 w2):E6 B R gb pb b0 sb a n c m L nd lt S sv v0 v1 v2 v3 w w2:=
 ⟨h.G.below b,h.P.below b,h.Z.after b (Nat.le_refl _),h.s.after b (Nat.le_refl _),h.bel.trans (b.mono h.G.lt.1.1),h.far⟩
theorem E6.gk {d:Nat}{b:Value}(h:E6 B R gb pb b0 sb a n c m L nd lt S sv v0 v1 v2 v3 w w1)(G:Db B R gb a n c d L b lt w2)(K:Gk B R gb lt nd w1 b w2):E6 B R gb pb b0 sb a n c d L b lt S sv v0 v1 v2 v3 w w2:=
 ⟨G,h.P.gk K h.G,K.row h.G h.Z (by decide) (by decide) (by decide) (by decide),K.row h.G h.s (by decide) (by decide) (by decide) (by decide),h.bel.trans K.low,h.far⟩
theorem E6.touch (h:E6 B R gb pb b0 sb a n c m L nd lt S sv v0 v1 v2 v3 w w1)(t:As R (R+1) w1 w2)(b:Ba w2 R a n c):E6 B R gb pb b0 sb a n c m L nd lt S sv v0 v1 v2 v3 w w2:=
 h.gk (h.G.touch t b) (Gk.of_touch t h.G.lt.2.1.2 h.G.lt.1.2.2)
theorem E6.set {f g i k:Value}(h:E6 B R gb pb b0 sb a n c m L nd lt S sv v0 v1 v2 v3 w w1)(j:Nat)(u:Value)(hu: #[v0,v1,v2,v3].setIfInBounds j u= #[f,g,i,k]):E6 B R gb pb b0 sb a n c m L nd lt S sv f g i k w (w1.setCell ⟨sb,j,none⟩ u):=by
 have hs:∀ b,b≠sb→(w1.setCell ⟨sb,j,none⟩ u).heap[b]? =w1.heap[b]? :=fun b d=>heap_setCell_other w1 ⟨sb,j,none⟩ b u d
 have l:Below B w1 (w1.setCell ⟨sb,j,none⟩ u):=(Below.refl B w1).setCell (p:=⟨sb,j,none⟩) h.far.2.1 u
 refine ⟨h.G.others l 71 (fun b=>b=sb) (fun b d=> .inl ⟨#[v0,v1,v2,v3],by rw [d];exact h.s⟩) (by decide) (by decide) (by decide) (by decide) (by decide) (by decide) (fun b _ d=>hs b d),⟨⟨(hs pb (CF h.P.row h.s (by decide))).trans h.P.row.out⟩,Ai h.P.st (fun b d=>hs b (fun e=>h.far.1 (by rw [d,e]))),h.P.good⟩,⟨(hs b0 (CF h.Z h.s (by decide))).trans h.Z.out⟩,by have:=h.s.set j u;rw [hu] at this;exact this,h.bel.trans l,h.far⟩
theorem E6.cells (h:E6 B R gb pb b0 sb a n c m L nd lt S sv v0 v1 v2 v3 w w1):(w1.cell? ⟨sb,0,none⟩=some v0∧w1.cell? ⟨sb,1,none⟩=some v1∧w1.cell? ⟨sb,2,none⟩=some v2∧w1.cell? ⟨sb,3,none⟩=some v3)∧(∀ j,w1.frozen? ⟨sb,j,none⟩=false)∧(w1.cell? ⟨gb,1,none⟩=some nd∧w1.cell? ⟨gb,2,none⟩=some lt∧∀ j,w1.frozen? ⟨gb,j,none⟩=false)∧(w1.cell? ⟨pb,0,none⟩=some (.slice none 0 0)∧w1.cell? ⟨pb,1,none⟩=some sv∧∀ j,w1.frozen? ⟨pb,j,none⟩=false):=by
 obtain ⟨N,b,d,f,C,e⟩:=h.G
 exact ⟨⟨h.s.cell 0,h.s.cell 1,h.s.cell 2,h.s.cell 3⟩,fun j=>h.s.frozen j,⟨C.row.cell 1,C.row.cell 2,fun j=>C.row.frozen j⟩,h.P.row.cell 0,h.P.row.cell 1,fun j=>h.P.row.frozen j⟩
theorem E6.pushS {j k l:Int}{nm:ByteArray}{d:World}{g7 c7:Nat}(h:E6 B R gb pb b0 sb a n c m L nd lt S sv v0 v1 v2 v3 w w1)(o:Obj)(v:nm.size≤1048576)(q:(w1.alloc o).grownBy d sv.ownBlock)(r:d.ownsRow B 71 4 (.slice (some ⟨g7,0,none⟩) (S.length+1) c7) (S.length+1) (Ce S ++ [.int .i64 j,.string nm,.int .i64 k,.int .i64 l])):
  Db B R gb a n c m L nd lt (d.setCell ⟨pb,1,none⟩ (.slice (some ⟨g7,0,none⟩) (S.length+1) c7))∧Le (d.setCell ⟨pb,1,none⟩ (.slice (some ⟨g7,0,none⟩) (S.length+1) c7)) B pb (S ++ [⟨j,nm,k,l⟩]) (.slice (some ⟨g7,0,none⟩) (S.length+1) c7)∧Ao (d.setCell ⟨pb,1,none⟩ (.slice (some ⟨g7,0,none⟩) (S.length+1) c7)) b0 #[.slice none 0 0,.slice none 0 0] 49∧Below B w (d.setCell ⟨pb,1,none⟩ (.slice (some ⟨g7,0,none⟩) (S.length+1) c7)):=by
 have x:=h.G.lt.1.1
 have y:=(Below.refl B w1).alloc x o
 have t:Below B w1 d:=y.grown q (by simp;omega) (fun b f=>(h.P.st.lt b f).1)
 have gk:=Ar q
 have z:=h.G.others t 71 (fun b=>sv.ownBlock=some b) (fun b f=> .inr ⟨_,_,_,_,_,f,h.P.st⟩) (by decide) (by decide) (by decide) (by decide) (by decide) (by decide) (fun b h1 h2=>gk b h1 h2)
 have g:Ao d pb #[.slice none 0 0,sv] 49:=⟨(gk pb h.P.row.lt (Af h.P.row h.P.st (by decide))).trans h.P.row.out⟩
 have A:Ao d b0 #[.slice none 0 0,.slice none 0 0] 49:=⟨(gk b0 h.Z.lt (Af h.Z h.P.st (by decide))).trans h.Z.out⟩
 have i:∀ b,b≠pb→(d.setCell ⟨pb,1,none⟩ (.slice (some ⟨g7,0,none⟩) (S.length+1) c7)).heap[b]? =d.heap[b]? :=fun b f=>heap_setCell_other d ⟨pb,1,none⟩ b _ f
 have u:Below B d (d.setCell ⟨pb,1,none⟩ (.slice (some ⟨g7,0,none⟩) (S.length+1) c7)):=(Below.refl B d).setCell (p:=⟨pb,1,none⟩) h.far.2.2.1 _
 refine ⟨z.others u 49 (fun b=>b=pb) (fun b f=> .inl ⟨#[.slice none 0 0,sv],by rw [f];exact g⟩) (by decide) (by decide) (by decide) (by decide) (by decide) (by decide) (fun b _ f=>i b f),⟨g.set 1 _,?_,fun s hs=>?_⟩,⟨(i b0 h.far.2.2.2).trans A.out⟩,(h.bel.trans t).trans u⟩
 ·rw [IL,List.length_append]
  exact Ai r (fun b f=>i b (fun e=>Af g r (by decide) (by rw [f,e])))
 ·rcases List.mem_append.1 hs with hs | hs
  ·exact h.P.good s hs
  ·rw [List.mem_singleton.1 hs];exact v
theorem E6.pushL {f:World}{g7 c7:Nat}(h:E6 B R gb pb b0 sb a n c m L nd lt S sv v0 v1 v2 v3 w w1)(i:Obj)(x:ByteArray × Int)(hx:x.1.size≤1000)(j:(w1.alloc i).grownBy f lt.ownBlock)(u:f.ownsRow B 75 2 (.slice (some ⟨g7,0,none⟩) (L.length+1) c7) (L.length+1) (EM L ++ [.string x.1,.int .i64 x.2])):
  E6 B R gb pb b0 sb a n c m (L ++ [x]) nd (.slice (some ⟨g7,0,none⟩) (L.length+1) c7) S sv v0 v1 v2 v3 w (f.setCell ⟨gb,2,none⟩ (.slice (some ⟨g7,0,none⟩) (L.length+1) c7)):=by
 have l:=h.G.lt.1.1
 have v:=h.G.lt.2.1.1
 obtain ⟨N,y,z,A,C,e⟩:=h.G
 have D:=(Below.refl B w1).alloc l i
 have E:Below B w1 f:=D.grown j (by simp;omega) (fun d g=>(C.lets.lt d g).1)
 have gk:=Ar j
 have o:∀ d,d≠gb→(f.setCell ⟨gb,2,none⟩ (.slice (some ⟨g7,0,none⟩) (L.length+1) c7)).heap[d]? =f.heap[d]? :=fun d g=>heap_setCell_other f ⟨gb,2,none⟩ d _ g
 have k:∀ {b:Nat} {q:Array Value} {t:TypeId},Ao w1 b q t→t≠69→t≠75→Ao (f.setCell ⟨gb,2,none⟩ (.slice (some ⟨g7,0,none⟩) (L.length+1) c7)) b q t:=fun r h1 h2=>⟨((o _ (CF r C.row h1)).trans (gk _ r.lt (Af r C.lets h2))).trans r.out⟩
 have F:Below B f (f.setCell ⟨gb,2,none⟩ (.slice (some ⟨g7,0,none⟩) (L.length+1) c7)):=(Below.refl B f).setCell (p:=⟨gb,2,none⟩) v _
 exact ⟨⟨N,y,z,A,C.pushL i x hx l j u,e⟩,⟨k h.P.row (by decide) (by decide),Ai h.P.st (fun d g=>(o d (fun e=>Af C.row h.P.st (by decide) (by rw [g,e]))).trans (gk d (h.P.st.lt d g).2 (fun e=>AP h.P.st C.lets (by decide) d g e))),h.P.good⟩,k h.Z (by decide) (by decide),k h.s (by decide) (by decide),(h.bel.trans E).trans F,h.far⟩
end
def GW (X:World) (pb b0:Nat) (nd V:Value):World:=((X.setCell ⟨pb,0,none⟩ nd).setCell ⟨b0,0,none⟩ nd).setCell ⟨b0,1,none⟩ V
theorem EP {X w:World}{B v x f d:Nat}{a:Option Addr}{n c:Nat}{N:List Nd}{L:List (ByteArray × Int)}{nd lt g y z:Value}{o q:List Value}{A:Bool}{m:List St}(C:IC X B v x a n c N L nd lt o q A)(P:Le X B f m g)(Z:Ao X d #[y,z] 49)(D:Below B w X)(E:B≤f)(h0:B≤d):Ao (GW X f d nd g) d #[nd,g] 49∧Cr (GW X f d nd g) B nd N o q∧(GW X f d nd g).ownsRow B 71 4 g m.length (Ce m)∧Below B w (GW X f d nd g):=by
 have F:∀ b,b≠f→b≠d→(GW X f d nd g).heap[b]? =X.heap[b]? :=fun b h1 h2=>by
  unfold GW
  rw [heap_setCell_other _ _ b _ h2,heap_setCell_other _ _ b _ h2,heap_setCell_other _ _ b _ h1]
 have l:∀ {t size k:Nat} {r:Value} {G:List Value},X.ownsRow B t size r k G→49≠t→∀ b,r.ownBlock=some b→(GW X f d nd g).heap[b]? =X.heap[b]? :=fun s u b h=>F b (fun e=>Af P.row s u (by rw [h,e])) (fun e=>Af Z s u (by rw [h,e]))
 refine ⟨?_,C.nodes.upto (fun b h=>l C.nodes.own (by decide) b h) (fun j i b h=>l (C.nodes.names j (by rw [← C.nodes.len];exact i) i) (by decide) b h) (fun j i b h=>l (C.nodes.kids j (by rw [← C.nodes.lenk];exact i) i) (by decide) b h),Ai P.st (fun b h=>l P.st (by decide) b h),((D.setCell (p:=⟨f,0,none⟩) E nd).setCell (p:=⟨d,0,none⟩) h0 nd).setCell (p:=⟨d,1,none⟩) h0 g⟩
 unfold GW
 by_cases e:d=f
 ·subst e
  have:=((Z.set 0 nd).set 0 nd).set 1 g
  exact this
 ·have:=((Z.setFar (p:=⟨f,0,none⟩) e nd).set 0 nd).set 1 g
  exact this
theorem Gu {f:Func}{a:Tmp}(h:f.results= #[.cell a 49]){g:Array Value}{w:World}{b:Nat}{c d:Value}(i:g.getD a undef= .pointer (some ⟨b,0,none⟩))
  (j:Ao w b #[c,d] 49):(results f g).run Tryz.prog w= .ok (.agg #[c,d]) w:=by
 rw [Array.getD_eq_getD_getElem?] at i
 have k:w.cell? ⟨b,0,none⟩=some c:=j.cell 0
 have l:w.cell? ⟨b,1,none⟩=some d:=j.cell 1
 simp [results,h,i,go_sem,k,l]
end Go.Proofs.YtcpdodmoheebaaaGreatDoor

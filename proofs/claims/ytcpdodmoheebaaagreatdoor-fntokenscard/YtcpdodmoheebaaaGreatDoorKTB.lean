/-
  Drawn policies: the policy that is being drawn, as it lies. Own work.
-/
import Derived.Test.YtcpdodmoheebaaaGreatDoorMXAJ
import Derived.Test.YtcpdodmoheebaaaGreatDoorMXAL
import Derived.Test.YtcpdodmoheebaaaGreatDoorMXAM
namespace Go.Proofs.YtcpdodmoheebaaaGreatDoor
open Go.RowKit
set_option linter.unusedVariables false
def My (x:Nd):Prop:=MA x∧x.text.size≤1048576∧x.num≤9223372036854775807
def EM (L:List (ByteArray × Int)):List Value:=L.flatMap fun x=> [.string x.1,.int .i64 x.2]
theorem JK (L:List (ByteArray × Int))(x:ByteArray × Int):EM (L ++ [x])=EM L ++ [.string x.1,.int .i64 x.2]:=by simp [EM]
theorem Jm:∀ (L:List (ByteArray × Int)) (j:Nat) (h:j < L.length),(EM L)[j * 2]? =some (.string L[j].1)∧(EM L)[j * 2+1]? =some (.int .i64 L[j].2)
 | x ::L,0,_=>⟨rfl,rfl⟩
 | x ::L,j+1,h=>by
  have a:=Jm L j (by simpa using h)
  have e1:(j+1) * 2=j * 2+2:=by omega
  rw [e1]
  exact a
structure IC (w:World) (B R gb:Nat) (a:Option Addr) (n c:Nat) (N:List Nd) (L:List (ByteArray × Int)) (nd lt:Value) (nv kv:List Value) (wild:Bool):Prop where
 row:Ao w gb #[.pointer (some ⟨R,0,none⟩),nd,lt,.bool wild] 69
 rd:Ba w R a n c
 nodes:Cr w B nd N nv kv
 lets:w.ownsRow B 75 2 lt L.length (EM L)
 low:(B≤gb∧B≤R)∧(0 < n→∀ q,a=some q→q.block < B)
 good:(∀ x∈N,My x)∧∀ x∈L,x.1.size≤1000
structure Gk (B R gb:Nat) (lt nd:Value) (w:World) (nd':Value) (w':World):Prop where
 low:Below B w w'
 block:∀ k,k < w.heap.size→k≠gb→k≠R→nd.ownBlock≠some k→lt.ownBlock≠some k→w'.heap[k]? =w.heap[k]?
 newN:∀ q,nd'.ownBlock=some q→nd.ownBlock=some q∨w.heap.size≤q
theorem Gk.trans {B b c:Nat}{lt nd d f:Value}{w g i:World}(h:Gk B b c lt nd w d g)(k:Gk B b c lt d g f i):Gk B b c lt nd w f i:=by
 refine ⟨h.low.trans k.low,fun a h1 h2 h3 h4 h5=>?_,fun a j=>?_⟩
 ·refine (k.block a (Nat.lt_of_lt_of_le h1 h.low.size) h2 h3 (fun e=>?_) h5).trans (h.block a h1 h2 h3 h4 h5)
  rcases h.newN a e with e | e
  ·exact h4 e
  ·omega
 ·rcases k.newN a j with e | e
  ·exact h.newN a e
  ·have:=h.low.size;exact .inr (by omega)
theorem Gk.of_below {B a b:Nat}{lt nd:Value}{w w':World}(h:Below w.heap.size w w')(c:B≤w.heap.size):Gk B a b lt nd w nd w':=
 ⟨h.mono c,fun k h1 _ _ _ _=>h.block k h1,fun f d=> .inl d⟩
theorem Gk.of_touch {B a b:Nat}{lt nd:Value}{w w':World}(h:As a (a+1) w w')(d:B≤a)(f:a < w.heap.size):Gk B a b lt nd w nd w':=
 ⟨⟨h.os,h.tape,h.output,h.size,fun k g=>h.block k (by omega) (.inl (by omega))⟩,fun k h1 _ h3 _ _=>h.block k h1 (by omega),fun i c=> .inl c⟩
theorem IC.below {w w':World}{B d f:Nat}{a:Option Addr}{n c:Nat}{N:List Nd}{L:List (ByteArray × Int)}{nd lt:Value}{g i:List Value}{j:Bool}(h:IC w B d f a n c N L nd lt g i j)(b:Below w.heap.size w w'):IC w' B d f a n c N L nd lt g i j:=
 ⟨h.row.after b (Nat.le_refl _),h.rd.after b h.rd.lt,h.nodes.blocks (fun k _ m=>b.block k m),Ai h.lets (fun l o=>b.block l (h.lets.lt l o).2),h.low,h.good⟩
theorem CF {w:World}{b c:Nat}{f g:Array Value}{t u:TypeId}(h:Ao w b f t)(k:Ao w c g u)(i:t≠u):b≠c:=fun e=>by
 have d:=h.out
 have a:=k.out
 rw [e] at d
 rw [d] at a
 injection a with a
 injection a with _ a
 exact i a
theorem IC.touch {w w':World}{B f l:Nat}{a:Option Addr}{n c:Nat}{N:List Nd}{L:List (ByteArray × Int)}{nd lt:Value}{o q:List Value}{r:Bool}(h:IC w B f l a n c N L nd lt o q r)(t:As f (f+1) w w')(v:Ba w' f a n c):IC w' B f l a n c N L nd lt o q r:=by
 obtain ⟨p,s⟩:=h.rd
 have i:∀ b,b < w.heap.size→b≠f→w'.heap[b]? =w.heap[b]? :=fun b h1 h2=>t.block b h1 (by omega)
 have k:∀ {e size m:Nat} {u:Value} {x:List Value},w.ownsRow B e size u m x→44≠e→∀ b,u.ownBlock=some b→b≠f:=fun y z b d e=>Af s.row y z (by rw [d,e])
 exact ⟨⟨(i l h.row.lt (CF h.row s.row (by decide))).trans h.row.out⟩,v,
  h.nodes.upto (fun b d=>i b (h.nodes.lts.1 b d).2 (k h.nodes.own (by decide) b d)) (fun j g b d=>i b (h.nodes.lts.2.1 j g b d).2 (k (h.nodes.names j (by rw [← h.nodes.len];exact g) g) (by decide) b d)) (fun j g b d=>i b (h.nodes.lts.2.2 j g b d).2 (k (h.nodes.kids j (by rw [← h.nodes.lenk];exact g) g) (by decide) b d)),
  Ai h.lets (fun b d=>i b (h.lets.lt b d).2 (k h.lets (by decide) b d)),h.low,h.good⟩
theorem IC.pushN {i l:World}{B o g g7 c7:Nat}{a:Option Addr}{n c:Nat}{N:List Nd}{L:List (ByteArray × Int)}{nd lt u k:Value}{v w:List Value}{E:Bool}{x:Nd}(C:IC i B o g a n c N L nd lt v w E)(A:Obj)(J:B≤i.heap.size)(hu:i.ownsRow B 9 1 u x.names.length (x.names.map Value.string))(F:i.ownsRow B 3 1 k x.kids.length (Bk x.kids))
  (K:∀ j,(m:j < v.length)→∀ d,v[j].ownBlock=some d→u.ownBlock≠some d)(M:∀ j,(m:j < w.length)→∀ d,w[j].ownBlock=some d→k.ownBlock≠some d)(hx:My x)
  (r:(i.alloc A).grownBy l nd.ownBlock)(O:l.ownsRow B 99 5 (.slice (some ⟨g7,0,none⟩) (N.length+1) c7) (N.length+1) (GT N v w ++FQ x u k))(P:nd.ownBlock=some g7∨g7=i.heap.size+1):
  IC (l.setCell ⟨g,1,none⟩ (.slice (some ⟨g7,0,none⟩) (N.length+1) c7)) B o g a n c (N ++ [x]) L (.slice (some ⟨g7,0,none⟩) (N.length+1) c7) lt (v ++ [u]) (w ++ [k]) E∧Gk B o g lt nd i (.slice (some ⟨g7,0,none⟩) (N.length+1) c7) (l.setCell ⟨g,1,none⟩ (.slice (some ⟨g7,0,none⟩) (N.length+1) c7)):=by
 have D:=(Below.refl i.heap.size i).alloc (Nat.le_refl _) A
 have Q:=C.below D
 have R:=Ai (w':=i.alloc A) hu (fun d f=>D.block d (hu.lt d f).2)
 have S:=Ai (w':=i.alloc A) F (fun d f=>D.block d (F.lt d f).2)
 have T:nd.ownBlock≠some g:=Af C.row C.nodes.own (by decide)
 have z:Ao l g #[.pointer (some ⟨o,0,none⟩),nd,lt,.bool E] 69:=⟨(Ar r g C.row.lt T).trans C.row.out⟩
 have s:=Q.nodes.snoc R S K M O r
 have G:l.ownsRow B 75 2 lt L.length (EM L):=Ai C.lets (fun d f=>Ar r d (C.lets.lt d f).2 (fun e=>AP C.lets C.nodes.own (by decide) d f e))
 have t:∀ d,d≠g→(l.setCell ⟨g,1,none⟩ (.slice (some ⟨g7,0,none⟩) (N.length+1) c7)).heap[d]? =l.heap[d]? :=fun d f=>heap_setCell_other l ⟨g,1,none⟩ d _ f
 obtain ⟨p,q⟩:=C.rd
 have U:o≠g:=CF q.row C.row (by decide)
 have H:Below B i (l.setCell ⟨g,1,none⟩ (.slice (some ⟨g7,0,none⟩) (N.length+1) c7)):=((D.mono J).grown r (by simp;omega) (fun d f=>(C.nodes.lts.1 d f).1)).setCell (p:=⟨g,1,none⟩) C.low.1.1 _
 refine ⟨⟨z.set 1 _,?_,s.upto (fun d f=>t d (fun e=>Af z s.own (by decide) (by rw [f,e]))) (fun j m d f=>t d (fun e=>Af z (s.names j (by rw [← s.len];exact m) m) (by decide) (by rw [f,e]))) (fun j m d f=>t d (fun e=>Af z (s.kids j (by rw [← s.lenk];exact m) m) (by decide) (by rw [f,e]))),Ai G (fun d f=>t d (fun e=>Af z G (by decide) (by rw [f,e]))),C.low,⟨fun y hy=>?_,C.good.2⟩⟩,⟨?_,fun d h1 h2 _ h3 _=>(t d h2).trans (Ar r d h1 h3),fun d f=>?_⟩⟩
 ·refine ⟨p,⟨((t o U).trans (Ar r o q.row.lt (Af q.row C.nodes.own (by decide)))).trans q.row.out⟩,q.le,q.small,fun j m=>?_⟩
  obtain ⟨b,I,V,e1,e2,e3,e4,e5⟩:=q.cells j m
  exact ⟨b,I,V,e1,e2,(H.cell (p:=⟨b,I+j,none⟩) (show b < B from C.low.2 (by omega) _ e1)).trans e3,e4,e5⟩
 ·rcases List.mem_append.1 hy with h | h
  ·exact C.good.1 y h
  ·rw [List.mem_singleton.1 h];exact hx
 ·exact H
 ·have e:g7=d:=by simpa [Value.ownBlock] using f
  subst e
  exact P.imp id (fun e=>by omega)
theorem Ko (n k:Nat)(h:k < n):n - (intOf (.int .i64 ((k:Int)+1))).toNat < n - (intOf (.int .i64 (k:Int))).toNat:=by
 simp [intOf]
 omega
end Go.Proofs.YtcpdodmoheebaaaGreatDoor

/-
  OWX, JT0, Own0. Own work.
-/
import Derived.Test.YtffkofkjpckmpaaGreatDoorMXAA
import Derived.Laws.AppendOwn
import Derived.Test.YtffkofkjpckmpaaGreatDoorMXAC
import Derived.Test.YtffkofkjpckmpaaGreatDoorMXAM
namespace Go.Proofs.YtffkofkjpckmpaaGreatDoor
open Go.RowKit
set_option linter.unusedVariables false
theorem Oh {w:World}{b:Nat}{e:TypeId}{size:Nat}{x:Option Addr}{n m c:Nat}{d:List Value}(h:w.ownsRow b e size (.slice x n c) n d)(hm:m≤n):w.ownsRow b e size (.slice x m c) m (d.take (m * size)):=by
 have hl:m * size≤n * size:=Nat.mul_le_mul_right _ hm;refine ⟨by rw[List.length_take,h.1];omega, ?_⟩;rcases h.2 with ⟨a,i⟩ | ⟨g,cap,f,a,h1,h2,h3,h4,h5,h6⟩
 ·cases a;exact .inl ⟨by rw[show m=0 by omega],by omega⟩
 ·cases a;refine .inr ⟨g,c,f,rfl,h1,h2,by omega,h4,h5, ?_⟩;rw[← h6,List.take_take]
  congr 1
  omega
theorem Cr {w w':World}{a:Nat}{e:TypeId}{size:Nat}{v:Value}{n B:Nat}{b:List Value}(h:w.ownsRow a e size v n b)(c:Below B w w')(d:w.heap.size≤B):w'.ownsRow a e size v n b:=by
 refine ⟨h.1, ?_⟩;rcases h.2 with f | ⟨g,cap,i,j,h1,h2,h3⟩
 ·exact .inl f
 ·exact .inr ⟨g,cap,i,j,h1,(c.block g (Nat.lt_of_lt_of_le (Array.getElem?_eq_some_iff.1 h2).1 d)).trans h2,h3⟩
theorem Af {w:World}{a e size n:Nat}{v:Value}{b:List Value}(h:w.ownsRow a e size v n b):∃ x c,v= .slice x n c∧(0 < n→∃ g,x=some ⟨g,0,none⟩∧a≤g∧∀ j u,b[j]? =some u→w.cell? ⟨g,j,none⟩=some u):=by
 rcases h.2 with ⟨rfl,rfl⟩ | ⟨g,cap,i,rfl,d,_⟩
 ·exact ⟨_,_,rfl,fun h=>absurd h (by omega)⟩
 ·refine ⟨_,_,rfl,fun _=>⟨g,rfl,d,fun j u hu=>?_⟩⟩;have:=h.cells (g:=g) rfl j u hu;have f:(⟨g,0,none⟩:Addr).add j=⟨g,j,none⟩:=by unfold Addr.add;split <;> simp_all
  rwa[f] at this
theorem Gz {w w':World}{a:Nat}{e:TypeId}{size n:Nat}{v:Value}{b:List Value}(h:w.ownsRow a e size v n b)(d:∀ q,v.ownBlock=some q→w'.heap[q]? =w.heap[q]?):w'.ownsRow a e size v n b:=by
 refine ⟨h.1, ?_⟩;rcases h.2 with h2 | ⟨g,cap,f,c,h3,i,h4⟩
 ·exact .inl h2
 ·exact .inr ⟨g,cap,f,c,h3,(d g (by rw[c];rfl)).trans i,h4⟩
theorem H8 {w:World}{a:Nat}{e:TypeId}{size n:Nat}{v:Value}{b:List Value}(h:w.ownsRow a e size v n b)(p:Addr)(u:Value)(hp:∀ q,v.ownBlock=some q→q≠p.block):(w.setCell p u).ownsRow a e size v n b:=
 Gz h (fun q hq=>heap_setCell_other w p q u (hp q hq))
theorem Ad {w:World}{B a n size:Nat}{e T:TypeId}{v:Value}{c:List Value}{cs:Array Value}(R:Am w a cs T)(h:w.ownsRow B e size v n c)(d:T≠e):v.ownBlock≠some a:=fun hq=>by
 rcases h.2 with ⟨b,_⟩ | ⟨g,cap,i,b,_,f,_⟩
 ·rw[b] at hq;cases hq
 ·rw[b] at hq;obtain rfl:g=a:=by simpa[Value.ownBlock] using hq
  have:=R.out.symm.trans f;simp at this;exact d this.2
structure Ak (lo hi:Nat) (w w':World):Prop where
 os:w'.os=w.os
 tape:w'.tape=w.tape
 output:w'.output=w.output
 size:w.heap.size≤w'.heap.size
 block:∀ k,k < w.heap.size→(k < lo∨hi≤k)→w'.heap[k]? =w.heap[k]?
theorem Ak.refl (lo hi:Nat)(w:World):Ak lo hi w w:=⟨rfl,rfl,rfl,NLN,fun _ _ _=>rfl⟩
theorem Ak.trans {lo hi:Nat}{a b c:World}(h:Ak lo hi a b)(k:Ak lo hi b c):Ak lo hi a c:=
 ⟨k.os.trans h.os,k.tape.trans h.tape,k.output.trans h.output,zL h.size k.size,fun i hi d=>(k.block i (zY hi h.size) d).trans (h.block i hi d)⟩
theorem Ak.of_below {lo hi B:Nat}{w w':World}(h:Below B w w')(a:w.heap.size≤B):Ak lo hi w w':=
 ⟨h.os,h.tape,h.output,h.size,fun k hk _=>h.block k (by omega)⟩
theorem Ak.setCell {lo hi:Nat}(w:World)(p:Addr)(u:Value)(h1:lo≤p.block)(h2:p.block < hi):Ak lo hi w (w.setCell p u):=
 ⟨rfl,rfl,rfl,by simp,fun k _ hk=>heap_setCell_other w p k u (by omega)⟩
theorem BT {B lo hi:Nat}{w a b:World}(h:Below B w a)(t:Ak lo hi a b)(c:B≤lo)(hs:B≤a.heap.size):Below B w b:=
 h.trans ⟨t.os,t.tape,t.output,t.size,fun k hk=>t.block k (by omega) (.inl (by omega))⟩
structure AdW (w:World) (lo hi:Nat) (a:Option Addr) (n c:Nat) (ss:List ByteArray):Prop where
 own:w.ownsRow lo 9 1 (.slice a n c) n (ss.map Value.string)
 lt:∀ x,a=some x→x.block < hi
 sizes:∀ j,j < n→(D0 ss j).size≤maxLen
 top:hi≤w.heap.size
theorem IW {w w':World}{lo n c:Nat}{a:Option Addr}{d:List Value}(h:w.ownsRow lo 9 1 (.slice a n c) n d)(f:∀ x,a=some x→w'.heap[x.block]? =w.heap[x.block]?):w'.ownsRow lo 9 1 (.slice a n c) n d:=by
 refine ⟨h.1, ?_⟩;rcases h.2 with h2 | ⟨g,cap,i,b,h3,j,h4⟩
 ·exact .inl h2
 ·refine .inr ⟨g,cap,i,b,h3, ?_,h4⟩;simp only[Value.slice.injEq] at b;rw[← j];exact f ⟨g,0,none⟩ b.1
theorem OG {w:World}{a base' e n:Nat}{v:Value}{b:List Value}(h:w.ownsRow a e 1 v n b)(c:base'≤a):w.ownsRow base' e 1 v n b:=by
 refine ⟨h.1, ?_⟩;rcases h.2 with h2 | ⟨g,cap,d,f,h3,h4⟩
 ·exact .inl h2
 ·exact .inr ⟨g,cap,d,f,zL c h3,h4⟩
end Go.Proofs.YtffkofkjpckmpaaGreatDoor

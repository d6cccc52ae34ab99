/-
  ONC, OND, ONE, ONP. Own work.
-/
import Derived.Test.YtcpdodmoheebaaaGreatDoorMXAI
import Derived.Test.YtcpdodmoheebaaaGreatDoorMXAH
namespace Go.Proofs.YtcpdodmoheebaaaGreatDoor
open Go.RowKit
set_option linter.unusedVariables false
theorem DI {w:World}{b n c:Nat}{a:Option Addr}{L:List Int}(h:w.ownsRow b 3 1 (.slice a n c) n (Bk L))(hl:L.length=n)(d:n≤1048576):D2 w a n c L:=by
 refine ⟨hl,d,fun j f=>?_⟩
 obtain ⟨x,i,e,hx⟩:=Av h
 cases e
 obtain ⟨g,rfl,k,hc⟩:=hx (by omega)
 refine ⟨g,0,rfl,(h.lt g rfl).2,?_⟩
 rw [Nat.zero_add]
 exact hc j _ (by rw [Bk,List.getElem?_map,List.getElem?_eq_getElem f];rfl)
def Ce (L:List St):List Value:=L.flatMap fun s=> [.int .i64 s.kind,.string s.name,.int .i64 s.cond,.int .i64 s.grant]
theorem Jr:∀ (L:List St) (j:Nat) (h:j < L.length),∀ r,r < 4→(Ce L)[j * 4+r]? =([Value.int .i64 L[j].kind,.string L[j].name,.int .i64 L[j].cond,.int .i64 L[j].grant]:List Value)[r]?
 | s ::L,0,_,r,hr=>by
  rw [Ce,List.flatMap_cons,Nat.zero_mul,Nat.zero_add,List.getElem?_append_left (by simp;omega)]
  rfl
 | s ::L,j+1,h,r,hr=>by
  have a:=Jr L j (by simpa using h) r hr
  rw [Ce,List.flatMap_cons,List.getElem?_append_right (by simp;omega)]
  have e:(j+1) * 4+r - ([Value.int .i64 s.kind,.string s.name,.int .i64 s.cond,.int .i64 s.grant]:List Value).length=j * 4+r:=by simp;omega
  rw [e]
  rw [Ce] at a
  rw [a]
  rfl
 | [],_,h,_,_=>absurd h (by simp)
structure EB (w:World) (lo hi:Nat) (x:Option Addr) (n cx:Nat) (y:Option Addr) (m cy:Nat) (z:Option Addr) (p cz:Nat) (N:List Nd) (nv kv:List Value) (L:List St) (T:List Int):Prop where
 nd:Cr w lo (.slice x n cx) N nv kv
 st:w.ownsRow lo 71 4 (.slice y m cy) m (Ce L)
 ty:w.ownsRow lo 3 1 (.slice z p cz) p (Bk T)
 apart:∀ q,(Value.slice z p cz).ownBlock=some q→∀ j,(hj:j < kv.length)→kv[j].ownBlock≠some q
 inN:MT (.slice x n cx) nv kv hi
 inS:∀ q,(Value.slice y m cy).ownBlock=some q→q < hi
 inT:∀ q,(Value.slice z p cz).ownBlock=some q→q < hi
 top:hi≤w.heap.size
 nn:N.length=n
 ns:L.length=m
 nt:T.length=p
def MF (N:List Nd) (L:List St) (T:List Int):Prop:=(N.length≤65535∧∀ x∈N,MA x∧x.text.size≤1048576∧x.names.length+x.kids.length≤65535)∧(L.length≤65535∧∀ s∈L,s.name.size≤1048576)∧T.length≤65535
theorem EB.touch {w w':World}{f g l u n i m k p o:Nat}{x y q:Option Addr}{N:List Nd}{r s:List Value}{L:List St}{v:List Int}(h:EB w f g x n i y m k q p o N r s L v)(t:As l u w w')(z:g≤l∨u≤f):EB w' f g x n i y m k q p o N r s L v:=by
 have c:∀ a,f≤a→a < g→w'.heap[a]? =w.heap[a]? :=fun a h1 h2=>t.block a (Nat.lt_of_lt_of_le h2 h.top) (by omega)
 exact ⟨h.nd.upto (fun a b=>c a (h.nd.lts.1 a b).1 (h.inN.1 a b)) (fun j d a b=>c a (h.nd.lts.2.1 j d a b).1 (h.inN.2.1 j d a b)) (fun j d a b=>c a (h.nd.lts.2.2 j d a b).1 (h.inN.2.2 j d a b)),Ai h.st (fun a b=>c a (h.st.lt a b).1 (h.inS a b)),Ai h.ty (fun a b=>c a (h.ty.lt a b).1 (h.inT a b)),h.apart,h.inN,h.inS,h.inT,Nat.le_trans h.top t.size,h.nn,h.ns,h.nt⟩
theorem EB.below {w w':World}{c a B n d m f p g:Nat}{x y i:Option Addr}{N:List Nd}{j o:List Value}{L:List St}{q:List Int}(h:EB w c a x n d y m f i p g N j o L q)(b:Below B w w')(r:a≤B):EB w' c a x n d y m f i p g N j o L q:=
 h.touch (l:=a) (u:=w.heap.size+a) ⟨b.os,b.tape,b.output,b.size,fun k s t=>b.block k (by omega)⟩ (.inl (Nat.le_refl _))
theorem Cr.nds {w:World}{D n c:Nat}{a:Option Addr}{N:List Nd}{f i:List Value}(h:Cr w D (.slice a n c) N f i)(s:N.length=n)(hs:n≤1048576)(t:∀ x∈N,MA x∧x.text.size≤1048576):Dx w a n c N:=by
 refine ⟨s,hs,fun x hx=>(t x hx).2,fun j b=>?_⟩
 have m:j < f.length:=by rw [h.len];exact b
 have o:j < i.length:=by rw [h.lenk];exact b
 have k:=Kt N f i j b m o
 have u:=k 0 (by decide)
 have v:=k 1 (by decide)
 have y:=k 2 (by decide)
 have p:=k 3 (by decide)
 have q:=k 4 (by decide)
 simp only [FQ,Nat.add_zero,List.getElem?_cons_zero,List.getElem?_cons_succ] at u v y p q
 obtain ⟨g,E⟩:∃ g,a=some ⟨g,0,none⟩:=by
  rcases h.own.2 with ⟨_,h0⟩ | ⟨g,cap,J,z,_⟩
  ·omega
  ·simp only [Value.slice.injEq] at z;exact ⟨g,z.1⟩
 subst E
 subst s
 have hl:=Jq N f i h.len h.lenk
 have l:∀ d,d < 5→w.cell? ⟨g,0+j * 5+d,none⟩=(GT N f i)[j * 5+d]? :=fun d r=>by
  rw [Nat.zero_add];exact h.own.cellAt (g:=g) (n:=N.length) (j * 5+d) (by omega)
 obtain ⟨an,F,hu⟩:=Cy (h.names j b m)
 obtain ⟨G,H,I⟩:=Cy (h.kids j b o)
 have A:=h.names j b m
 have B:=h.kids j b o
 rw [hu] at p A
 rw [I] at q B
 have C:=t _ (List.getElem_mem b)
 refine ⟨g,0,rfl,(h.own.lt g rfl).2,an,_,F,G,_,H,(l 0 (by omega)).trans u,(l 1 (by omega)).trans v,(l 2 (by omega)).trans y,(l 3 (by omega)).trans p,(l 4 (by omega)).trans q,Bd.of_owns A (fun d r=>?_),DI B rfl C.1.2.1⟩
 rw [BE _ d r]
 exact C.1.2.2 _ (List.getElem_mem r)
theorem Ez {w:World}{l n c:Nat}{a:Option Addr}{L:List St}(h:w.ownsRow l 71 4 (.slice a n c) n (Ce L))(hl:L.length=n)(m:n≤1048576)(o:∀ s∈L,s.name.size≤1048576):Ku w a n c L:=by
 refine ⟨hl,m,o,fun j p=>?_⟩
 have b:=Jr L j p
 have d:=b 0 (by decide)
 have f:=b 1 (by decide)
 have i:=b 2 (by decide)
 have k:=b 3 (by decide)
 simp only [Nat.add_zero,List.getElem?_cons_zero,List.getElem?_cons_succ] at d f i k
 obtain ⟨x,q,e,hx⟩:=Av h
 cases e
 obtain ⟨g,rfl,r,hc⟩:=hx (by omega)
 refine ⟨g,0,rfl,(h.lt g rfl).2,?_,?_,?_,?_⟩
 ·rw [Nat.zero_add];exact hc _ _ d
 ·rw [Nat.zero_add];exact hc _ _ f
 ·rw [Nat.zero_add];exact hc _ _ i
 ·rw [Nat.zero_add];exact hc _ _ k
theorem EB.mem {w:World}{i j n c m d p f:Nat}{x y g:Option Addr}{N:List Nd}{k l:List Value}{L:List St}{b:List Int}(h:EB w i j x n c y m d g p f N k l L b)(a:MF N L b):Dx w x n c N∧Ku w y m d L∧D2 w g p f b:=by
 have e1:=h.nn
 have e2:=h.ns
 have e3:=h.nt
 exact ⟨h.nd.nds e1 (by have:=a.1.1;omega) (fun x hx=>⟨(a.1.2 x hx).1,(a.1.2 x hx).2.1⟩),Ez h.st e2 (by have:=a.2.1.1;omega) a.2.1.2,DI h.ty e3 (by have:=a.2.2;omega)⟩
end Go.Proofs.YtcpdodmoheebaaaGreatDoor

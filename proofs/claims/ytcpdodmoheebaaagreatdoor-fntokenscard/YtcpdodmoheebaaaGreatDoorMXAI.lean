/-
  ONA, ONB. Own work.
-/
import Derived.Test.YtcpdodmoheebaaaGreatDoorMXAF
import Derived.Test.YtcpdodmoheebaaaGreatDoorMXAH
import Derived.Test.YtcpdodmoheebaaaGreatDoorMXAD
import Derived.Test.YtcpdodmoheebaaaGreatDoorMXAE
namespace Go.Proofs.YtcpdodmoheebaaaGreatDoor
open Go.RowKit
set_option linter.unusedVariables false
def FQ (x:Nd) (u k:Value):List Value:= [.int .i64 x.op,.int .i64 x.num,.string x.text,u,k]
def GT:List Nd→List Value→List Value→List Value
 | x ::N,u ::nv,k ::kv=>FQ x u k ++GT N nv kv
 | _,_,_=> []
theorem Jq:∀ (N:List Nd) (a b:List Value),a.length=N.length→b.length=N.length→(GT N a b).length=N.length * 5
 | [],_,_,_,_=>by simp [GT]
 | x ::N, [],_,h,_=>by simp at h
 | x ::N,_ ::_, [],_,h=>by simp at h
 | x ::N,u ::a,k ::b,h,h'=>by
  have:=Jq N a b (by simpa using h) (by simpa using h')
  simp only [GT,FQ,List.length_append,List.length_cons,List.length_nil,this];omega
theorem Hb:∀ (N:List Nd) (a b:List Value) (x:Nd) (u k:Value),a.length=N.length→b.length=N.length→GT (N ++ [x]) (a ++ [u]) (b ++ [k])=GT N a b ++FQ x u k
 | [], [], [],x,u,k,_,_=>by simp [GT]
 | [],_ ::_,_,x,u,k,h,_=>by simp at h
 | [], [],_ ::_,x,u,k,_,h=>by simp at h
 | y ::N, [],_,x,u,k,h,_=>by simp at h
 | y ::N,_ ::_, [],x,u,k,_,h=>by simp at h
 | y ::N,z ::a,t ::b,x,u,k,h,h'=>by
  have:=Hb N a b x u k (by simpa using h) (by simpa using h')
  simp only [List.cons_append,GT,this,List.append_assoc]
theorem Kt:∀ (N:List Nd) (a b:List Value) (j:Nat) (h:j < N.length) (c:j < a.length) (h2:j < b.length),∀ r,r < 5→(GT N a b)[j * 5+r]? =(FQ N[j] a[j] b[j])[r]?
 | x ::N,u ::a,k ::b,0,_,_,_,r,hr=>by
  rw [GT,Nat.zero_mul,Nat.zero_add,List.getElem?_append_left (by simp [FQ];omega)]
  rfl
 | x ::N,u ::a,k ::b,j+1,h,c,h2,r,hr=>by
  have d:=Kt N a b j (by simpa using h) (by simpa using c) (by simpa using h2) r hr
  rw [GT,List.getElem?_append_right (by simp [FQ];omega)]
  have e:(j+1) * 5+r - (FQ x u k).length=j * 5+r:=by simp [FQ];omega
  rw [e,d]
  rfl
 | [],_,_,_,h,_,_,_,_=>absurd h (by simp)
 | _ ::_, [],_,_,_,h,_,_,_=>absurd h (by simp)
 | _ ::_,_ ::_, [],_,_,_,h,_,_=>absurd h (by simp)
structure Cr (w:World) (lo:Nat) (v:Value) (N:List Nd) (nv kv:List Value):Prop where
 len:nv.length=N.length
 lenk:kv.length=N.length
 own:w.ownsRow lo 99 5 v N.length (GT N nv kv)
 names:∀ j,(h:j < N.length)→(h':j < nv.length)→w.ownsRow lo 9 1 nv[j] N[j].names.length (N[j].names.map Value.string)
 kids:∀ j,(h:j < N.length)→(h':j < kv.length)→w.ownsRow lo 3 1 kv[j] N[j].kids.length (Bk N[j].kids)
 apart:∀ i j,(hij:i < j)→(h:j < nv.length)→∀ q,(nv[i]'(by omega)).ownBlock=some q→nv[j].ownBlock≠some q
 apartk:∀ i j,(hij:i < j)→(h:j < kv.length)→∀ q,(kv[i]'(by omega)).ownBlock=some q→kv[j].ownBlock≠some q
theorem Cr.nil (w:World)(a:Nat):Cr w a (.slice none 0 0) [] [] []:=
 ⟨rfl,rfl,World.ownsRow_nil _ _ _ _,fun j h=>absurd h (by simp),fun j h=>absurd h (by simp),fun b j _ h=>absurd h (by simp),fun b j _ h=>absurd h (by simp)⟩
theorem Ai {w w':World}{c:Nat}{e:TypeId}{size n:Nat}{a:Value}{d:List Value}(h:w.ownsRow c e size a n d)(i:∀ b,a.ownBlock=some b→w'.heap[b]? =w.heap[b]?):w'.ownsRow c e size a n d:=by
 refine ⟨h.1,?_⟩
 rcases h.2 with h2 | ⟨g,cap,j,f,k,l,h4⟩
 ·exact .inl h2
 ·exact .inr ⟨g,cap,j,f,k,(i g (by rw [f];rfl)).trans l,h4⟩
theorem Cr.lts {w:World}{c:Nat}{g:Value}{N:List Nd}{d f:List Value}(h:Cr w c g N d f):(∀ a,g.ownBlock=some a→c≤a∧a < w.heap.size)∧(∀ j,(b:j < d.length)→∀ a,d[j].ownBlock=some a→c≤a∧a < w.heap.size)∧∀ j,(b:j < f.length)→∀ a,f[j].ownBlock=some a→c≤a∧a < w.heap.size:=
 ⟨h.own.lt,fun j b=>(h.names j (by rw [← h.len];exact b) b).lt,fun j b=>(h.kids j (by rw [← h.lenk];exact b) b).lt⟩
theorem Cr.upto {w w':World}{i:Nat}{g:Value}{N:List Nd}{d f:List Value}(h:Cr w i g N d f)(h1:∀ a,g.ownBlock=some a→w'.heap[a]? =w.heap[a]?)(h2:∀ j,(b:j < d.length)→∀ a,d[j].ownBlock=some a→w'.heap[a]? =w.heap[a]?)(h3:∀ j,(b:j < f.length)→∀ a,f[j].ownBlock=some a→w'.heap[a]? =w.heap[a]?):Cr w' i g N d f:=
 ⟨h.len,h.lenk,Ai h.own h1,fun j b c=>Ai (h.names j b c) (h2 j c),fun j b c=>Ai (h.kids j b c) (h3 j c),h.apart,h.apartk⟩
theorem Cr.blocks {w w':World}{d:Nat}{g:Value}{N:List Nd}{i l:List Value}(h:Cr w d g N i l)(f:∀ k,d≤k→k < w.heap.size→w'.heap[k]? =w.heap[k]?):Cr w' d g N i l:=
 h.upto (fun a b=>f a (h.lts.1 a b).1 (h.lts.1 a b).2) (fun j c a b=>f a (h.lts.2.1 j c a b).1 (h.lts.2.1 j c a b).2) (fun j c a b=>f a (h.lts.2.2 j c a b).1 (h.lts.2.2 j c a b).2)
theorem AP {w:World}{B l n m size o:Nat}{e e':TypeId}{j k:Value}{p q:List Value}(h:w.ownsRow B e size j n p)(r:w.ownsRow l e' o k m q)(s:e≠e'):∀ b,j.ownBlock=some b→k.ownBlock≠some b:=fun b c d=>by
 rcases h.2 with ⟨f,_⟩ | ⟨g,cap,v,f,_,t,_⟩
 ·rw [f] at c;cases c
 rcases r.2 with ⟨i,_⟩ | ⟨u,x,y,i,_,a,_⟩
 ·rw [i] at d;cases d
 rw [f] at c
 rw [i] at d
 obtain rfl:g=b:=by simpa [Value.ownBlock] using c
 obtain rfl:u=g:=by simpa [Value.ownBlock] using d
 rw [t] at a
 injection a with a
 injection a with _ a
 exact s a
def MT (v:Value) (nv kv:List Value) (hi:Nat):Prop:=(∀ q,v.ownBlock=some q→q < hi)∧(∀ j,(hj:j < nv.length)→∀ q,nv[j].ownBlock=some q→q < hi)∧∀ j,(hj:j < kv.length)→∀ q,kv[j].ownBlock=some q→q < hi
def MA (x:Nd):Prop:=x.names.length≤1048576∧x.kids.length≤1048576∧∀ s∈x.names,s.size≤maxLen
end Go.Proofs.YtcpdodmoheebaaaGreatDoor

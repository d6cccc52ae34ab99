/-
  NUA, NUB, NUD. Own work.
-/
import Derived.Test.YtcpdodmoheebaaaGreatDoorMXAF
import Derived.Test.YtcpdodmoheebaaaGreatDoorJU
import Derived.Test.YtcpdodmoheebaaaGreatDoorMXAI
import Derived.Test.YtcpdodmoheebaaaGreatDoorMXAE
import Derived.Deep.AppendLies
import Derived.Deep.RegionLaw
namespace Go.Proofs.YtcpdodmoheebaaaGreatDoor
open Go.RowKit
set_option linter.unusedVariables false
theorem Mq {w:World}{b:Nat}{c d f g h:Value}{t:TypeId}(a:Ao w b #[c,d,f,g,h] t):w.cell? ⟨b,0,none⟩=some c∧w.cell? ⟨b,1,none⟩=some d∧w.cell? ⟨b,2,none⟩=some f∧w.cell? ⟨b,3,none⟩=some g∧w.cell? ⟨b,4,none⟩=some h:=⟨a.cell 0,a.cell 1,a.cell 2,a.cell 3,a.cell 4⟩
theorem Cr.snoc {o p:World}{g:Nat}{v w u k:Value}{N:List Nd}{c d:List Value}{x:Nd}(h:Cr o g v N c d)
  (hu:o.ownsRow g 9 1 u x.names.length (x.names.map Value.string))(C:o.ownsRow g 3 1 k x.kids.length (Bk x.kids))(D:∀ j,(i:j < c.length)→∀ a,c[j].ownBlock=some a→u.ownBlock≠some a)(E:∀ j,(i:j < d.length)→∀ a,d[j].ownBlock=some a→k.ownBlock≠some a)
  (F:p.ownsRow g 99 5 w (N.length+1) (GT N c d ++FQ x u k))(z:o.grownBy p v.ownBlock):Cr p g w (N ++ [x]) (c ++ [u]) (d ++ [k]):=by
 have hl:=h.len
 have t:=h.lenk
 have A:∀ {n:Nat} {y:Value} {q:List Value},o.ownsRow g 9 1 y n q→p.ownsRow g 9 1 y n q:=fun l=>Ai l (fun a b=>z.block a (l.lt a b).2 (fun e=>AP l h.own (by decide) a b e.symm))
 have B:∀ {n:Nat} {y:Value} {q:List Value},o.ownsRow g 3 1 y n q→p.ownsRow g 3 1 y n q:=fun l=>Ai l (fun a b=>z.block a (l.lt a b).2 (fun e=>AP l h.own (by decide) a b e.symm))
 refine ⟨by simp [hl],by simp [t],by rw [List.length_append,List.length_singleton,Hb _ _ _ _ _ _ hl t];exact F,fun j i r=>?_,fun j i r=>?_,fun s j m i a b=>?_,fun s j m i a b=>?_⟩
 ·by_cases f:j < c.length
  ·have a1:(c ++ [u])[j]=c[j]:=List.getElem_append_left f
   have a2:(N ++ [x])[j]=N[j]'(by omega):=List.getElem_append_left (by omega)
   rw [a1,a2]
   exact A (h.names j (by omega) f)
  ·have e:j=c.length:=by simp at r;omega
   subst e
   have a1:(c ++ [u])[c.length]'r=u:=by simp
   have a2:(N ++ [x])[c.length]'i=x:=by simp [hl]
   rw [a1,a2]
   exact A hu
 ·by_cases f:j < d.length
  ·have a1:(d ++ [k])[j]=d[j]:=List.getElem_append_left f
   have a2:(N ++ [x])[j]=N[j]'(by omega):=List.getElem_append_left (by omega)
   rw [a1,a2]
   exact B (h.kids j (by omega) f)
  ·have e:j=d.length:=by simp at r;omega
   subst e
   have a1:(d ++ [k])[d.length]'r=k:=by simp
   have a2:(N ++ [x])[d.length]'i=x:=by simp [t]
   rw [a1,a2]
   exact B C
 ·by_cases f:j < c.length
  ·rw [List.getElem_append_left f]
   rw [List.getElem_append_left (by omega)] at b
   exact h.apart s j m f a b
  ·have e:j=c.length:=by simp at i;omega
   subst e
   rw [List.getElem_append_left m] at b
   simp
   exact D s m a b
 ·by_cases f:j < d.length
  ·rw [List.getElem_append_left f]
   rw [List.getElem_append_left (by omega)] at b
   exact h.apartk s j m f a b
  ·have e:j=d.length:=by simp at i;omega
   subst e
   rw [List.getElem_append_left m] at b
   simp
   exact E s m a b
structure Nk (B nb:Nat) (nd pl:Value) (w:World) (nd' pl':Value) (w':World):Prop where
 low:Below B w w'
 block:∀ k,k < w.heap.size→k≠nb→nd.ownBlock≠some k→pl.ownBlock≠some k→w'.heap[k]? =w.heap[k]?
 newN:∀ q,nd'.ownBlock=some q→nd.ownBlock=some q∨w.heap.size≤q
 newP:∀ q,pl'.ownBlock=some q→pl.ownBlock=some q∨w.heap.size≤q
theorem Nk.refl (B b:Nat)(nd a:Value)(w:World):Nk B b nd a w nd a w:=⟨Below.refl _ _,fun _ _ _ _ _=>rfl,fun c h=> .inl h,fun c h=> .inl h⟩
theorem Nk.trans {B b:Nat}{nd d f g i j:Value}{w l m:World}(h:Nk B b nd d w f g l)(k:Nk B b f g l i j m):Nk B b nd d w i j m:=by
 have n:=h.low.size
 refine ⟨h.low.trans k.low,fun a h1 h2 h3 h4=>?_,fun a c=>?_,fun a c=>?_⟩
 ·refine (k.block a (Nat.lt_of_lt_of_le h1 n) h2 (fun e=>?_) (fun e=>?_)).trans (h.block a h1 h2 h3 h4)
  ·rcases h.newN a e with e | e
   ·exact h3 e
   ·omega
  ·rcases h.newP a e with e | e
   ·exact h4 e
   ·omega
 ·rcases k.newN a c with e | e
  ·exact h.newN a e
  ·exact .inr (by omega)
 ·rcases k.newP a c with e | e
  ·exact h.newP a e
  ·exact .inr (by omega)
theorem Ar {b c:World}{d:Obj}{row:Option Nat}(f:(b.alloc d).grownBy c row):∀ a,a < b.heap.size→row≠some a→c.heap[a]? =b.heap[a]? :=fun a h1 h2=>(f.block a (by simp;omega) (fun e=>h2 e.symm)).trans (Below.heap_alloc b d a h1)
end Go.Proofs.YtcpdodmoheebaaaGreatDoor

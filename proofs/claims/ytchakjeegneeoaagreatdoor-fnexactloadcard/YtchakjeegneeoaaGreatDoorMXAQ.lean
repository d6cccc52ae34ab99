/-
  JX, JY, JZ, JP. Own work.
-/
import Derived.Test.YtchakjeegneeoaaGreatDoorMXAP
import Derived.Test.YtchakjeegneeoaaGreatDoorMXAN
import Derived.MapKept
import Derived.Maps.Own
import Derived.Maps.OwnOps
import Derived.Deep.RegionLaw
namespace Go.Proofs.YtchakjeegneeoaaGreatDoor
open Go.RowKit
set_option linter.unusedVariables false
theorem Ck.other {B a:Nat}{ts f:List Int}{g lv b:Value}{w c:World}{o:Obj}{row:Option Nat}(h:Ck B a ts f g lv b w)(i:(w.alloc o).grownBy c row)(h1:row≠some a)(h2:∀ q,lv.ownBlock=some q→row≠some q)(h3:∀ q,b.ownBlock=some q→row≠some q):Ck B a ts f g lv b c:=by
 have j:(w.alloc o).heap.size=w.heap.size+1:=by simp
 have d:∀ k,k < w.heap.size→row≠some k→c.heap[k]? =w.heap[k]? :=fun k hk l=>(i.block k (by rw[j];omega) (fun e=>l e.symm)).trans (Below.heap_alloc w o k hk);exact ⟨⟨(d a h.row.lt h1).trans h.row.out⟩,At h.lets (fun q hq=>d q (h.lets.lt q hq).2 (h2 q hq)),At h.types (fun q hq=>d q (h.types.lt q hq).2 (h3 q hq)),h.low,h.apart⟩
theorem Kt.other {B a:Nat}{b c:Value}{w w2 d:World}{o:Obj}{row:Option Nat}(K:Kt B a b w c w2)(f:(w2.alloc o).grownBy d row)(hB:B≤w.heap.size)(g:∀ q,row=some q→w.heap.size≤q):Kt B a b w c d:=by
 have h:(w2.alloc o).heap.size=w2.heap.size+1:=by simp
 have i:=K.low.size;refine ⟨(K.low.alloc (zD hB i) o).grown f (by rw[h];omega) (fun q hq=>zD hB (g q hq)),fun k h1 h2 h3=>?_,K.new⟩;refine (f.block k (by rw[h];omega) (fun e=>?_)).trans ((Below.heap_alloc w2 o k (by omega)).trans (K.keep k h1 h2 h3));have:=g k e.symm;omega
def Adv (o:Option Int):Prop:=∀ a,o=some a→1≤a∧a≤4
theorem Zf (op a:Int):Adv (nz (Ct op [a])):=fun t h=>by
 obtain ⟨h1,h2⟩:=Rw h;rw[Ct] at h1
 repeat' split at h1
 all_goals omega
theorem Zg (op a b:Int):Adv (nz (Ct op [a,b])):=fun t h=>by
 obtain ⟨h1,h2⟩:=Rw h;rw[Ct] at h1;clear h
 repeat' split at h1
 all_goals
  subst h1
  first
   |decide
   |exact absurd rfl h2
theorem Zh (a b c:Int)(d: 1≤b∧b≤4):Adv (nz (Ct 27 [a,b,c])):=fun t h=>by
 obtain ⟨h1,h2⟩:=Rw h;rw[Ct] at h1
 repeat' split at h1
 all_goals omega
theorem VN (w:World):BT w none 0 0 []:=⟨rfl,by decide,fun j h=>absurd h (by simp)⟩
def BU:List ByteArray:= [⟨#[99,108,105,101,110,116]⟩,⟨#[117,115,101,114]⟩,⟨#[108,101,118,101,108]⟩,⟨#[110,111,119]⟩,⟨#[97,115,107,101,100]⟩,⟨#[97,103,114,101,101,100]⟩]
theorem Zl (w:World)(o:Obj):(w.alloc o).heap[w.heap.size]? =some o:=by
 show (w.heap.push o)[w.heap.size]? =some o;exact Array.getElem?_push_size
theorem Zn:∀ k,k < 6→Zm.extract (k * 2) (k * 2+2)= #[.string (BU.getD k ⟨#[]⟩),.int .i64 (Dk k)]
 | 0,_=>rfl
 | 1,_=>rfl
 | 2,_=>rfl
 | 3,_=>rfl
 | 4,_=>rfl
 | 5,_=>rfl
 |n+6,h=>absurd h (by omega)
end Go.Proofs.YtchakjeegneeoaaGreatDoor

/-
  LawsE, Own0, Ints0, Tab0, StepC. Own work.
-/
import Derived.Test.YtcpdodmoheebaaaGreatDoorMXAB
import Derived.Test.YtcpdodmoheebaaaGreatDoorMXAC
import Derived.Deep.Draws
import Derived.Deep.RegionHeld3
namespace Go.Proofs.YtcpdodmoheebaaaGreatDoor
open Go.RowKit
structure As (lo hi:Nat) (w w':World):Prop where
 os:w'.os=w.os
 tape:w'.tape=w.tape
 output:w'.output=w.output
 size:w.heap.size≤w'.heap.size
 block:∀ k,k < w.heap.size→(k < lo∨hi≤k)→w'.heap[k]? =w.heap[k]?
theorem As.refl (a b:Nat)(w:World):As a b w w:=⟨rfl,rfl,rfl,Nat.le_refl _,fun _ _ _=>rfl⟩
theorem As.trans {f d:Nat}{a b c:World}(h:As f d a b)(k:As f d b c):As f d a c:=
 ⟨k.os.trans h.os,k.tape.trans h.tape,k.output.trans h.output,Nat.le_trans h.size k.size,fun g d i=>(k.block g (Nat.lt_of_lt_of_le d h.size) i).trans (h.block g d i)⟩
theorem As.of_below {a b B:Nat}{w w':World}(h:Below B w w')(c:w.heap.size≤B):As a b w w':=
 ⟨h.os,h.tape,h.output,h.size,fun k d _=>h.block k (by omega)⟩
theorem As.setCell {a b:Nat}(w:World)(p:Addr)(u:Value)(h1:a≤p.block)(h2:p.block < b):As a b w (w.setCell p u):=
 ⟨rfl,rfl,rfl,by simp,fun k _ c=>heap_setCell_other w p k u (by omega)⟩
theorem Bb {B b d:Nat}{w a c:World}(h:Below B w a)(t:As b d a c)(f:B≤b)(hs:B≤a.heap.size):Below B w c:=
 h.trans ⟨t.os,t.tape,t.output,t.size,fun k g=>t.block k (by omega) (.inl (by omega))⟩
structure FS (w:World) (lo hi:Nat) (a:Option Addr) (n c:Nat) (ss:List ByteArray):Prop where
 own:w.ownsRow lo 9 1 (.slice a n c) n (ss.map Value.string)
 lt:∀ x,a=some x→x.block < hi
 sizes:∀ j,j < n→(CK ss j).size≤maxLen
 top:hi≤w.heap.size
theorem FS.strs {w:World}{d f n c:Nat}{a:Option Addr}{b:List ByteArray}(h:FS w d f a n c b):Bd w a n c b:=Bd.of_owns h.own h.sizes
theorem FS.of {w:World}{d n c:Nat}{a:Option Addr}{b:List ByteArray}(h:w.ownsRow d 9 1 (.slice a n c) n (b.map Value.string))(hs:∀ j,j < n→(CK b j).size≤maxLen):FS w d w.heap.size a n c b:=
 ⟨h,fun x hx=>by subst hx;exact (h.lt _ rfl).2,hs,Nat.le_refl _⟩
theorem BM {w w':World}{d n c:Nat}{a:Option Addr}{f:List Value}(h:w.ownsRow d 9 1 (.slice a n c) n f)(i:∀ x,a=some x→w'.heap[x.block]? =w.heap[x.block]?):w'.ownsRow d 9 1 (.slice a n c) n f:=by
 refine ⟨h.1,?_⟩
 rcases h.2 with h2 | ⟨g,cap,j,b,h3,k,h4⟩
 ·exact .inl h2
 ·refine .inr ⟨g,cap,j,b,h3,?_,h4⟩
  simp only [Value.slice.injEq] at b
  rw [← k]
  exact i ⟨g,0,none⟩ b.1
theorem FS.below {w w':World}{d b n c B:Nat}{a:Option Addr}{f:List ByteArray}(h:FS w d b a n c f)(g:Below B w w')(i:b≤B):FS w' d b a n c f:=
 ⟨BM h.own (fun x hx=>g.block _ (by have:=h.lt x hx;omega)),h.lt,h.sizes,Nat.le_trans h.top g.size⟩
theorem FS.touch {w w':World}{b d n c f g:Nat}{a:Option Addr}{i:List ByteArray}(h:FS w b d a n c i)(t:As f g w w')(j:d≤f∨g≤b):FS w' b d a n c i:=
 ⟨BM h.own (fun x hx=>t.block _ (by have:=h.lt x hx;have:=h.top;omega) (by
  have h1:=h.lt x hx
  have h2:b≤x.block:=by subst hx;exact (h.own.lt _ rfl).1
  omega)),h.lt,h.sizes,Nat.le_trans h.top t.size⟩
theorem Bd.touch {w w':World}{d k n c B:Nat}{a:Option Addr}{f:List ByteArray}(h:Bd w a n c f)(t:As d k w w')(l:∀ x,a=some x→x.block < B)(p:B≤d):Bd w' a n c f:=
 ⟨h.len,h.cap,h.small,h.sizes,fun j m=>by
  obtain ⟨b,o,g,i,hc⟩:=h.cells j m
  refine ⟨b,o,g,Nat.lt_of_lt_of_le i t.size,?_⟩
  rw [← hc]
  exact World.cell?_of_block (t.block b i (.inl (by have:=l _ g;simp at this;omega)))⟩
theorem D0 {w:World}{a b e n:Nat}{c:Value}{d:List Value}(h:w.ownsRow a e 1 c n d)(f:b≤a):w.ownsRow b e 1 c n d:=by
 refine ⟨h.1,?_⟩
 rcases h.2 with h2 | ⟨g,cap,i,j,h3,h4⟩
 ·exact .inl h2
 ·exact .inr ⟨g,cap,i,j,Nat.le_trans f h3,h4⟩
set_option linter.unusedVariables false
structure D2 (w:World) (a:Option Addr) (n c:Nat) (L:List Int):Prop where
 len:L.length=n
 small:n≤1048576
 cells:∀ j,(h:j < L.length)→∃ b off,a=some ⟨b,off,none⟩∧b < w.heap.size∧w.cell? ⟨b,off+j,none⟩=some (.int .i64 L[j])
theorem D2.below {w w':World}{B:Nat}{a:Option Addr}{n c:Nat}{L:List Int}(h:D2 w a n c L)(d:Below B w w')(l:w.heap.size≤B):D2 w' a n c L:=
 ⟨h.len,h.small,fun j g=>by
  obtain ⟨b,f,i,hl,k⟩:=h.cells j g
  exact ⟨b,f,i,Nat.lt_of_lt_of_le hl d.size,(d.cell (p:=⟨b,f+j,none⟩) (by show b < B;omega)).trans k⟩⟩
theorem IK {P:Program}{i:Array Oper}{b:Oper}{a:Act}{w:World}{K:Act→World→Prop}{l:Exit→Act→World→Prop}{m:Prop}(n:b.guard=none)(f:FuncId)(d:Func)(o:P.funcs[f]? =some d)(p:(d.name== "runtime.NumGoroutine")=false)(j:d.body.isNone=false)(x:Operand)(q:Array TypeId)
  (r:b.op= .call { callee:= .value (.func f),args:=#[x],argTypes:=q })(g:Value)(hx:a.eval x=g)
  (k:Value→World→Prop)(hc:Calls P f #[g] w fun e w'=>∃ c,e= .returned c∧k c w')(h:∀ c w',k c w'→K (a.put b.dst c) w'):
  if Region.wanted b (yielded i a.tmps)=true then Oper.wp P b a w K l else m:=by
 have s:Region.wanted b (yielded i a.tmps)=true:=by simp [Region.wanted,n]
 rw [if_pos s]
 unfold Oper.wp
 have t:(execOp a.eval b).run P w= .ok (.enter f #[g]) w:=by
  subst hx
  have h1:d.name≠ "runtime.NumGoroutine" :=by simpa using p
  have h2:(callFunc f #[a.eval x]).run P w= .ok (.enter f #[a.eval x]) w:=by
   have h3:d.body≠none:=fun e=>by rw [e] at j;cases j
   simp [callFunc,o,h1,h3]
  simpa [execOp,r,resolve,invoke,Act.eval,Result.andThen,go_sem] using h2
 rw [t,Oper.upon_enter]
 refine hc.mono ?_
 rintro e w' ⟨c,rfl,u⟩
 exact h c w' u
end Go.Proofs.YtcpdodmoheebaaaGreatDoor

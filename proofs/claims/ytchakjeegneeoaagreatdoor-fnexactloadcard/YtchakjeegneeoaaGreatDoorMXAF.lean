/-
  CMem, StepC, STI. Own work.
-/
import Derived.Test.YtchakjeegneeoaaGreatDoorRows
import Derived.WalkKit
import Derived.WalkSpells
import Derived.WalkLawsBesides
import Derived.Deep.RegionHeld3
namespace Go.Proofs.YtchakjeegneeoaaGreatDoor
open Go.RowKit
theorem AcG {W a:World}(c:Below W.heap.size W a):(∀ b o,b < W.heap.size→a.cell? ⟨b,o,none⟩=W.cell? ⟨b,o,none⟩)∧(∀ b o,b < W.heap.size→a.frozen? ⟨b,o,none⟩=W.frozen? ⟨b,o,none⟩):=
 ⟨fun b o h=>c.cell (p:=⟨b,o,none⟩) h,fun b o h=>c.frozen (p:=⟨b,o,none⟩) h⟩
structure Al (w:World) (b:Nat) (cs:Array Value) (t:TypeId):Prop where
 out:w.heap[b]? =some (.cells cs t (0,0))
theorem Al.lt {w:World}{b:Nat}{cs:Array Value}{t:TypeId}(h:Al w b cs t):b < w.heap.size:=(Array.getElem?_eq_some_iff.1 h.out).1
theorem Al.below {w w':World}{B b:Nat}{cs:Array Value}{t:TypeId}(h:Al w b cs t)(a:Below B w w')(hB:b < B):Al w' b cs t:=⟨(a.block b hB).trans h.out⟩
theorem Al.after {w w':World}{B b:Nat}{cs:Array Value}{t:TypeId}(h:Al w b cs t)(a:Below B w w')(hB:w.heap.size≤B):Al w' b cs t:=h.below a (Nat.lt_of_lt_of_le h.lt hB)
theorem Al.alloc {w:World}{b:Nat}{cs:Array Value}{t:TypeId}(h:Al w b cs t)(o:Obj):Al (w.alloc o) b cs t:=⟨(Below.heap_alloc w o b h.lt).trans h.out⟩
theorem Al.new (w:World)(cs:Array Value)(t:TypeId):Al (w.alloc (.cells cs t)) w.heap.size cs t:=⟨heap_alloc_new w _⟩
theorem Al.set {w:World}{b:Nat}{cs:Array Value}{t:TypeId}(h:Al w b cs t)(j:Nat)(u:Value):Al (w.setCell ⟨b,j,none⟩ u) b (cs.setIfInBounds j u) t:=⟨heap_setCell_same w b j cs t u h.out⟩
theorem Al.setFar {w:World}{b:Nat}{cs:Array Value}{t:TypeId}(h:Al w b cs t){p:Addr}(hp:b≠p.block)(u:Value):Al (w.setCell p u) b cs t:=⟨(heap_setCell_other w p b u hp).trans h.out⟩
theorem Al.cell {w:World}{b:Nat}{cs:Array Value}{t:TypeId}(h:Al w b cs t)(j:Nat):w.cell? ⟨b,j,none⟩=cs[j]? :=by
 have:=cell_of_row w b j cs t (0,0) h.out;simpa using this
theorem Al.frozen {w:World}{b:Nat}{cs:Array Value}{t:TypeId}(h:Al w b cs t)(j:Nat):w.frozen? ⟨b,j,none⟩=false:=frozen_of_row w b j cs t h.out
def CH (W:World) (b:Nat) (v0 v1 v2 v3:Value):World:=(((W.setCell ⟨b,0,none⟩ v0).setCell ⟨b,1,none⟩ v1).setCell ⟨b,2,none⟩ v2).setCell ⟨b,3,none⟩ v3
theorem Jr (W:World)(b k:Nat)(a c d f:Value)(h:k≠b):(CH W b a c d f).heap[k]? =W.heap[k]? :=by
 unfold CH;rw[heap_setCell_other _ _ _ _ h,heap_setCell_other _ _ _ _ h,heap_setCell_other _ _ _ _ h,heap_setCell_other _ _ _ _ h]
theorem AD {W:World}{b:Nat}{g i j k:Value}{t:TypeId}(h:Al W b #[g,i,j,k] t)(a c d f:Value):Al (CH W b a c d f) b #[a,c,d,f] t:=by
 have e:((((#[g,i,j,k].setIfInBounds 0 a).setIfInBounds 1 c).setIfInBounds 2 d).setIfInBounds 3 f)= #[a,c,d,f]:=rfl;have:=(((h.set 0 a).set 1 c).set 2 d).set 3 f;rw[e] at this;exact this
theorem Ao {B:Nat}{w W:World}{b:Nat}(h:Below B w W)(a:B≤b)(c d f g:Value):Below B w (CH W b c d f g):=
 (((h.setCell (p:=⟨b,0,none⟩) a c).setCell (p:=⟨b,1,none⟩) a d).setCell (p:=⟨b,2,none⟩) a f).setCell (p:=⟨b,3,none⟩) a g
set_option linter.unusedVariables false
theorem Fz {P:Program}{d:Array Oper}{o:Oper}{a:Act}{w:World}{K:Act→World→Prop}{Q:Exit→Act→World→Prop}{E:Prop}(i:o.guard=none)(f:FuncId)(b:Func)(hf:P.funcs[f]? =some b)(j:(b.name== "runtime.NumGoroutine")=false)(g:b.body.isNone=false)(x:Operand)(k:Array TypeId)
  (l:o.op= .call { callee:= .value (.func f),args:=#[x],argTypes:=k })(c:Value)(hx:a.eval x=c)
  (R:Value→World→Prop)(hc:Calls P f #[c] w fun e w'=>∃ v,e= .returned v∧R v w')(h:∀ v w',R v w'→K (a.put o.dst v) w'):
  if Region.wanted o (yielded d a.tmps)=true then Oper.wp P o a w K Q else E:=by
 have m:Region.wanted o (yielded d a.tmps)=true:=by simp[Region.wanted,i]
 rw[if_pos m];unfold Oper.wp;have n:(execOp a.eval o).run P w= .ok (.enter f #[c]) w:=by
  subst hx;have h1:b.name≠ "runtime.NumGoroutine" :=by simpa using j
  have h2:(callFunc f #[a.eval x]).run P w= .ok (.enter f #[a.eval x]) w:=by
   have h3:b.body≠none:=fun e=>by rw[e] at g;cases g
   simp[callFunc,hf,h1,h3]
  simpa[execOp,l,resolve,invoke,Act.eval,Result.andThen,go_sem] using h2
 rw[n,Oper.upon_enter];refine hc.mono ?_;rintro e w' ⟨v,rfl,p⟩;exact h v w' p
theorem BO {P:Program}{g:Array Oper}{o:Oper}{a:Act}{w:World}{K:Act→World→Prop}{Q:Exit→Act→World→Prop}{E:Prop}(j:o.guard=none)(f:FuncId)(b:Func)(hf:P.funcs[f]? =some b)(k:(b.name== "runtime.NumGoroutine")=false)(i:b.body.isNone=false)(x y:Operand)(l:Array TypeId)
  (m:o.op= .call { callee:= .value (.func f),args:=#[x,y],argTypes:=l })(c d:Value)(hx:a.eval x=c)(hy:a.eval y=d)
  (R:Value→World→Prop)(hc:Calls P f #[c,d] w fun e w'=>∃ v,e= .returned v∧R v w')(h:∀ v w',R v w'→K (a.put o.dst v) w'):
  if Region.wanted o (yielded g a.tmps)=true then Oper.wp P o a w K Q else E:=by
 have n:Region.wanted o (yielded g a.tmps)=true:=by simp[Region.wanted,j]
 rw[if_pos n];unfold Oper.wp;have p:(execOp a.eval o).run P w= .ok (.enter f #[c,d]) w:=by
  subst hx hy;have h1:b.name≠ "runtime.NumGoroutine" :=by simpa using k
  have h2:(callFunc f #[a.eval x,a.eval y]).run P w= .ok (.enter f #[a.eval x,a.eval y]) w:=by
   have h3:b.body≠none:=fun e=>by rw[e] at i;cases i
   simp[callFunc,hf,h1,h3]
  simpa[execOp,m,resolve,invoke,Act.eval,Result.andThen,go_sem] using h2
 rw[p,Oper.upon_enter];refine hc.mono ?_;rintro e w' ⟨v,rfl,q⟩;exact h v w' q
structure Ae1 (p:Prop):Prop where
 out:p
theorem Adq {P Q:Prop}(h:Ae1 P→Q)(p:P):Q:=h ⟨p⟩
theorem Yx {P:Program}{d:Array Oper}{o:Oper}{a:Act}{w:World}{K:Act→World→Prop}{Q:Exit→Act→World→Prop}{E:Prop}(i:o.guard=none)(x:Operand)(name:String)(j:Array TypeId)(k:o.op= .call { callee:= .invoke x name,args:=#[],argTypes:=j })(T:TypeId)(u:Value)(hx:a.eval x= .iface T u)
  (F:Nat)(l:P.types.size+Made.depth=F)(f:FuncId)(b:Value)(m:∀ w,(method F T u name).run P w= .ok (f,b) w)(c:Func)(hf:P.funcs[f]? =some c)(n:(c.name== "runtime.NumGoroutine")=false)(g:c.body.isNone=false)
  (R:Value→World→Prop)(hc:Calls P f #[b] w fun e w'=>∃ v,e= .returned v∧R v w')(h:∀ v w',R v w'→K (a.put o.dst v) w'):
  if Region.wanted o (yielded d a.tmps)=true then Oper.wp P o a w K Q else E:=by
 have p:Region.wanted o (yielded d a.tmps)=true:=by simp[Region.wanted,i]
 rw[if_pos p];unfold Oper.wp;have q:(execOp a.eval o).run P w= .ok (.enter f #[b]) w:=by
  have h1:c.name≠ "runtime.NumGoroutine" :=by simpa using n
  have h2:(callFunc f #[b]).run P w= .ok (.enter f #[b]) w:=by
   have h3:c.body≠none:=fun e=>by rw[e] at g;cases g
   simp[callFunc,hf,h1,h3]
  have h4:(callMethod (.iface T u) name #[]).run P w= .ok (.enter f #[b]) w:=by
   subst l;have:(method (P.types.size+100) T u name).run P w= .ok (f,b) w:=m w;simpa[callMethod,Result.andThen,go_sem,this] using h2
  generalize a.eval=s at hx ⊢;simp only[execOp,k,resolve,invoke,Sem.run_bind,Sem.run_pure,Result.andThen_ok,List.map_toArray,List.map_nil,hx];exact h4
 rw[q,Oper.upon_enter];refine hc.mono ?_;rintro e w' ⟨v,rfl,r⟩;exact h v w' r
end Go.Proofs.YtchakjeegneeoaaGreatDoor

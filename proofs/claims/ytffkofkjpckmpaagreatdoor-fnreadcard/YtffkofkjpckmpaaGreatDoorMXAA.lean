/-
  CMem, StepC, STI. Own work.
-/
import Derived.Test.YtffkofkjpckmpaaGreatDoorRows
import Derived.WalkKit
import Derived.WalkSpells
import Derived.WalkLawsBesides
import Derived.Deep.RegionHeld3
namespace Go.Proofs.YtffkofkjpckmpaaGreatDoor
open Go.RowKit
structure Am (w:World) (b:Nat) (cs:Array Value) (t:TypeId):Prop where
 out:w.heap[b]? =some (.cells cs t (0,0))
theorem Am.lt {w:World}{b:Nat}{cs:Array Value}{t:TypeId}(h:Am w b cs t):b < w.heap.size:=(Array.getElem?_eq_some_iff.1 h.out).1
theorem Am.below {w w':World}{B b:Nat}{cs:Array Value}{t:TypeId}(h:Am w b cs t)(a:Below B w w')(c:b < B):Am w' b cs t:=⟨(a.block b c).trans h.out⟩
theorem Am.after {w w':World}{B b:Nat}{cs:Array Value}{t:TypeId}(h:Am w b cs t)(a:Below B w w')(c:w.heap.size≤B):Am w' b cs t:=h.below a (Nat.lt_of_lt_of_le h.lt c)
theorem Am.alloc {w:World}{b:Nat}{cs:Array Value}{t:TypeId}(h:Am w b cs t)(a:Obj):Am (w.alloc a) b cs t:=⟨(Below.heap_alloc w a b h.lt).trans h.out⟩
theorem Am.new (w:World)(cs:Array Value)(t:TypeId):Am (w.alloc (.cells cs t)) w.heap.size cs t:=⟨heap_alloc_new w _⟩
theorem Am.set {w:World}{b:Nat}{cs:Array Value}{t:TypeId}(h:Am w b cs t)(j:Nat)(u:Value):Am (w.setCell ⟨b,j,none⟩ u) b (cs.setIfInBounds j u) t:=⟨heap_setCell_same w b j cs t u h.out⟩
theorem Am.setFar {w:World}{b:Nat}{cs:Array Value}{t:TypeId}(h:Am w b cs t){p:Addr}(hp:b≠p.block)(u:Value):Am (w.setCell p u) b cs t:=⟨(heap_setCell_other w p b u hp).trans h.out⟩
theorem Am.cell {w:World}{b:Nat}{cs:Array Value}{t:TypeId}(h:Am w b cs t)(j:Nat):w.cell? ⟨b,j,none⟩=cs[j]? :=by
 have:=cell_of_row w b j cs t (0,0) h.out;simpa using this
theorem Am.frozen {w:World}{b:Nat}{cs:Array Value}{t:TypeId}(h:Am w b cs t)(j:Nat):w.frozen? ⟨b,j,none⟩=false:=frozen_of_row w b j cs t h.out
def CC (W:World) (b:Nat) (v0 v1 v2 v3:Value):World:=(((W.setCell ⟨b,0,none⟩ v0).setCell ⟨b,1,none⟩ v1).setCell ⟨b,2,none⟩ v2).setCell ⟨b,3,none⟩ v3
theorem I8 (a:World)(b k:Nat)(c d f g:Value)(h:k≠b):(CC a b c d f g).heap[k]? =a.heap[k]? :=by
 unfold CC;rw[heap_setCell_other _ _ _ _ h,heap_setCell_other _ _ _ _ h,heap_setCell_other _ _ _ _ h,heap_setCell_other _ _ _ _ h]
theorem AI {g:World}{b:Nat}{i j k l:Value}{t:TypeId}(h:Am g b #[i,j,k,l] t)(a c d f:Value):Am (CC g b a c d f) b #[a,c,d,f] t:=by
 have e:((((#[i,j,k,l].setIfInBounds 0 a).setIfInBounds 1 c).setIfInBounds 2 d).setIfInBounds 3 f)= #[a,c,d,f]:=rfl;have:=(((h.set 0 a).set 1 c).set 2 d).set 3 f;rw[e] at this;exact this
theorem Ao {B:Nat}{w c:World}{b:Nat}(h:Below B w c)(a:B≤b)(d f g i:Value):Below B w (CC c b d f g i):=
 (((h.setCell (p:=⟨b,0,none⟩) a d).setCell (p:=⟨b,1,none⟩) a f).setCell (p:=⟨b,2,none⟩) a g).setCell (p:=⟨b,3,none⟩) a i
set_option linter.unusedVariables false
theorem Jd {P:Program}{g:Array Oper}{b:Oper}{a:Act}{w:World}{K:Act→World→Prop}{j:Exit→Act→World→Prop}{k:Prop}(l:b.guard=none)(f:FuncId)(c:Func)(hf:P.funcs[f]? =some c)(m:(c.name== "runtime.NumGoroutine")=false)(i:c.body.isNone=false)(x:Operand)(n:Array TypeId)
  (o:b.op= .call { callee:= .value (.func f),args:=#[x],argTypes:=n })(d:Value)(hx:a.eval x=d)
  (R:Value→World→Prop)(hc:Calls P f #[d] w fun e w'=>∃ v,e= .returned v∧R v w')(h:∀ v w',R v w'→K (a.put b.dst v) w'):
  if Region.wanted b (yielded g a.tmps)=true then Oper.wp P b a w K j else k:=by
 have p:Region.wanted b (yielded g a.tmps)=true:=by simp[Region.wanted,l]
 rw[if_pos p];unfold Oper.wp;have q:(execOp a.eval b).run P w= .ok (.enter f #[d]) w:=by
  subst hx;have h1:c.name≠ "runtime.NumGoroutine" :=by simpa using m
  have h2:(callFunc f #[a.eval x]).run P w= .ok (.enter f #[a.eval x]) w:=by
   have h3:c.body≠none:=fun e=>by rw[e] at i;cases i
   simp[callFunc,hf,h1,h3]
  simpa[execOp,o,resolve,invoke,Act.eval,Result.andThen,go_sem] using h2
 rw[q,Oper.upon_enter];refine hc.mono ?_;rintro e w' ⟨v,rfl,r⟩;exact h v w' r
theorem Lv {P:Program}{i:Array Oper}{b:Oper}{a:Act}{w:World}{K:Act→World→Prop}{k:Exit→Act→World→Prop}{l:Prop}(m:b.guard=none)(f:FuncId)(c:Func)(hf:P.funcs[f]? =some c)(n:(c.name== "runtime.NumGoroutine")=false)(j:c.body.isNone=false)(x y:Operand)(o:Array TypeId)
  (p:b.op= .call { callee:= .value (.func f),args:=#[x,y],argTypes:=o })(d g:Value)(hx:a.eval x=d)(hy:a.eval y=g)
  (R:Value→World→Prop)(hc:Calls P f #[d,g] w fun e w'=>∃ v,e= .returned v∧R v w')(h:∀ v w',R v w'→K (a.put b.dst v) w'):
  if Region.wanted b (yielded i a.tmps)=true then Oper.wp P b a w K k else l:=by
 have q:Region.wanted b (yielded i a.tmps)=true:=by simp[Region.wanted,m]
 rw[if_pos q];unfold Oper.wp;have r:(execOp a.eval b).run P w= .ok (.enter f #[d,g]) w:=by
  subst hx hy;have h1:c.name≠ "runtime.NumGoroutine" :=by simpa using n
  have h2:(callFunc f #[a.eval x,a.eval y]).run P w= .ok (.enter f #[a.eval x,a.eval y]) w:=by
   have h3:c.body≠none:=fun e=>by rw[e] at j;cases j
   simp[callFunc,hf,h1,h3]
  simpa[execOp,p,resolve,invoke,Act.eval,Result.andThen,go_sem] using h2
 rw[r,Oper.upon_enter];refine hc.mono ?_;rintro e w' ⟨v,rfl,s⟩;exact h v w' s
structure Adz (p:Prop):Prop where
 out:p
theorem Ut {P a:Prop}(h:Adz P→a)(p:P):a:=h ⟨p⟩
theorem Iy {P:Program}{g:Array Oper}{b:Oper}{a:Act}{w:World}{K:Act→World→Prop}{j:Exit→Act→World→Prop}{k:Prop}(l:b.guard=none)(x:Operand)(name:String)(m:Array TypeId)(n:b.op= .call { callee:= .invoke x name,args:=#[],argTypes:=m })(T:TypeId)(u:Value)(hx:a.eval x= .iface T u)
  (F:Nat)(o:P.types.size+Made.depth=F)(f:FuncId)(c:Value)(hm:∀ w,(method F T u name).run P w= .ok (f,c) w)(d:Func)(hf:P.funcs[f]? =some d)(p:(d.name== "runtime.NumGoroutine")=false)(i:d.body.isNone=false)
  (R:Value→World→Prop)(hc:Calls P f #[c] w fun e w'=>∃ v,e= .returned v∧R v w')(h:∀ v w',R v w'→K (a.put b.dst v) w'):
  if Region.wanted b (yielded g a.tmps)=true then Oper.wp P b a w K j else k:=by
 have q:Region.wanted b (yielded g a.tmps)=true:=by simp[Region.wanted,l]
 rw[if_pos q];unfold Oper.wp;have r:(execOp a.eval b).run P w= .ok (.enter f #[c]) w:=by
  have h1:d.name≠ "runtime.NumGoroutine" :=by simpa using p
  have h2:(callFunc f #[c]).run P w= .ok (.enter f #[c]) w:=by
   have h3:d.body≠none:=fun e=>by rw[e] at i;cases i
   simp[callFunc,hf,h1,h3]
  have h4:(callMethod (.iface T u) name #[]).run P w= .ok (.enter f #[c]) w:=by
   subst o;have:(method (P.types.size+100) T u name).run P w= .ok (f,c) w:=hm w;simpa[callMethod,Result.andThen,go_sem,this] using h2
  generalize a.eval=t at hx ⊢;simp only[execOp,n,resolve,invoke,Sem.run_bind,Sem.run_pure,Result.andThen_ok,List.map_toArray,List.map_nil,hx];exact h4
 rw[r,Oper.upon_enter];refine hc.mono ?_;rintro e w' ⟨v,rfl,s⟩;exact h v w' s
end Go.Proofs.YtffkofkjpckmpaaGreatDoor

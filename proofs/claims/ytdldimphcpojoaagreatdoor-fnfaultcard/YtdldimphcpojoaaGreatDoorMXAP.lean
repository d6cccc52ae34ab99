/-
  StepC, Is. Own work.
-/
import Derived.Test.YtdldimphcpojoaaGreatDoorMXAA
import Derived.Deep.RegionHeld3
import Derived.Test.YtdldimphcpojoaaGreatDoorRows
import Derived.WalkKit
import Derived.LaidEql
import Derived.Stop.Asserts
import Derived.RowKitTokens
namespace Go.Proofs.YtdldimphcpojoaaGreatDoor
open Go.RowKit
set_option linter.unusedVariables false
theorem GR {P:Program}{g:Array Oper}{b:Oper}{a:Act}{w:World}{K:Act→World→Prop}{j:Exit→Act→World→Prop}{k:Prop}(l:b.guard=none)(f:FuncId)(c:Func)(m:P.funcs[f]? =some c)(n:(c.name== "runtime.NumGoroutine")=false)(i:c.body.isNone=false)(x:Operand)(o:Array TypeId)
  (p:b.op= .call { callee:= .value (.func f),args:=#[x],argTypes:=o })(d:Value)(hx:a.eval x=d)
  (R:Value→World→Prop)(hc:Calls P f #[d] w fun e w'=>∃ v,e= .returned v∧R v w')(h:∀ v w',R v w'→K (a.put b.dst v) w'):
  if Region.wanted b (yielded g a.tmps)=true then Oper.wp P b a w K j else k:=by
 have q:Region.wanted b (yielded g a.tmps)=true:=by simp[Region.wanted,l]
 rw[if_pos q];unfold Oper.wp;have r:(execOp a.eval b).run P w= .ok (.enter f #[d]) w:=by
  subst hx;have h1:c.name≠ "runtime.NumGoroutine" :=by simpa using n
  have h2:(callFunc f #[a.eval x]).run P w= .ok (.enter f #[a.eval x]) w:=by
   have h3:c.body≠none:=fun e=>by rw[e] at i;cases i
   simp[callFunc,m,h1,h3]
  simpa[execOp,p,resolve,invoke,Act.eval,Result.andThen,go_sem] using h2
 rw[r,Oper.upon_enter];refine hc.mono ?_;rintro e w' ⟨v,rfl,s⟩;exact h v w' s
theorem JJ {P:Program}{i:Array Oper}{b:Oper}{a:Act}{w:World}{K:Act→World→Prop}{k:Exit→Act→World→Prop}{l:Prop}(m:b.guard=none)(f:FuncId)(c:Func)(n:P.funcs[f]? =some c)(o:(c.name== "runtime.NumGoroutine")=false)(j:c.body.isNone=false)(x y:Operand)(p:Array TypeId)
  (q:b.op= .call { callee:= .value (.func f),args:=#[x,y],argTypes:=p })(d g:Value)(hx:a.eval x=d)(hy:a.eval y=g)
  (R:Value→World→Prop)(hc:Calls P f #[d,g] w fun e w'=>∃ v,e= .returned v∧R v w')(h:∀ v w',R v w'→K (a.put b.dst v) w'):
  if Region.wanted b (yielded i a.tmps)=true then Oper.wp P b a w K k else l:=by
 have r:Region.wanted b (yielded i a.tmps)=true:=by simp[Region.wanted,m]
 rw[if_pos r];unfold Oper.wp;have s:(execOp a.eval b).run P w= .ok (.enter f #[d,g]) w:=by
  subst hx hy;have h1:c.name≠ "runtime.NumGoroutine" :=by simpa using o
  have h2:(callFunc f #[a.eval x,a.eval y]).run P w= .ok (.enter f #[a.eval x,a.eval y]) w:=by
   have h3:c.body≠none:=fun e=>by rw[e] at j;cases j
   simp[callFunc,n,h1,h3]
  simpa[execOp,q,resolve,invoke,Act.eval,Result.andThen,go_sem] using h2
 rw[s,Oper.upon_enter];refine hc.mono ?_;rintro e w' ⟨v,rfl,t⟩;exact h v w' t
end Go.Proofs.YtdldimphcpojoaaGreatDoor
namespace Go.Proofs.YtdldimphcpojoaaGreatDoor
open Go.RowKit Go.Extern.Stop Go.Stop Go.Extern
theorem OT (v:Value)(w:World):(Extern.ReflectliteType.typeOf #[.iface 225 v]).run Tryz.prog w= .ok (.iface 155 (.agg #[.pointer (some ⟨17,225,none⟩)])) w:=by kernel_rfl
def Vr:TypeId→Sem Value:=fun t=>do Go.Extern.Rtype.noPackHeld "Comparable" t;pure (.bool (← typeInfo t).comparable)
theorem Iu (w:World):((Extern.ReflectliteType.method Vr) #[.agg #[.pointer (some ⟨17,225,none⟩)]]).run Tryz.prog w= .ok (.bool true) w:=by kernel_rfl
theorem EI (v:Value)(w:World):(Go.method 394 155 v "Comparable").run Tryz.prog w= .ok (203,v) w:=by kernel_rfl
theorem Vs:(Tryz.prog.info? 225).map (·.comparable)=some true:=by kernel_rfl
theorem Vt:(Tryz.prog.info? 227).map (·.size)=some 1:=by kernel_rfl
theorem Yu (v:Value)(a:TypeId)(w:World):(Instr.typeAssert (.iface 225 v) a 199 true).run Tryz.prog w= .ok (.tuple #[.nilIface,.bool false]) w:=run_typeAssert_lacksB Tryz.underlying199 (by kernel_rfl) (by kernel_rfl) v a w
theorem TI (v:Value)(a:TypeId)(w:World):(Instr.typeAssert (.iface 225 v) a 163 true).run Tryz.prog w= .ok (.tuple #[.nilIface,.bool false]) w:=run_typeAssert_lacksB Tryz.underlying163 (by kernel_rfl) (by kernel_rfl) v a w
theorem QQ (v:Value)(a:TypeId)(w:World):(Instr.typeAssert (.iface 225 v) a 164 true).run Tryz.prog w= .ok (.tuple #[.nilIface,.bool false]) w:=run_typeAssert_lacksB Tryz.underlying164 (by kernel_rfl) (by kernel_rfl) v a w
theorem Gn (a:Addr)(w:World):
  Calls Tryz.prog 69 #[.iface 225 (.pointer (some a)),.iface 225 (.pointer (some a))] w fun e w'=>e= .returned (.bool true)∧w'=w:=by
 obtain ⟨i,hi,b⟩:=Option.map_eq_some_iff.1 Vs;obtain ⟨j,c,d⟩:=Option.map_eq_some_iff.1 Vt;have h8:=@run_callFunc_extern Tryz.prog 90 _ Extern.ReflectliteType.typeOf Tryz.func90 (by kernel_rfl) (by kernel_rfl) (by kernel_rfl) (by kernel_rfl);have f:=@run_callFunc_extern Tryz.prog 203 _ (Extern.ReflectliteType.method Vr) Tryz.func203 (by kernel_rfl) (by kernel_rfl) (by kernel_rfl) (by kernel_rfl);have g:=OT;have h:=Iu;have k:=EI;have l:=run_eql_iface_ptr_same (P:=Tryz.prog) w a Tryz.underlying53 Tryz.underlying225 hi b c;go_enter Tryz.func69,Tryz.ntmps69
 go_wp2
 refine wp_loop_rounds 1 ?_;rw[rounds_succ];go_wp2
 go_ret
 exact ⟨rfl,rfl⟩
theorem Vu (a b:Addr)(c d:Array Value)(f g:TypeId)(w:World)(h:a≠b)(k:w.heap[a.block]? =some (.cells c f (0,0)))(l:w.heap[b.block]? =some (.cells d g (0,0))):
  Calls Tryz.prog 69 #[.iface 225 (.pointer (some a)),.iface 225 (.pointer (some b))] w fun e w'=>e= .returned (.bool false)∧w'=w:=by
 obtain ⟨i,hi,m⟩:=Option.map_eq_some_iff.1 Vs;obtain ⟨j,n,o⟩:=Option.map_eq_some_iff.1 Vt;have h8:=@run_callFunc_extern Tryz.prog 90 _ Extern.ReflectliteType.typeOf Tryz.func90 (by kernel_rfl) (by kernel_rfl) (by kernel_rfl) (by kernel_rfl);have p:=@run_callFunc_extern Tryz.prog 203 _ (Extern.ReflectliteType.method Vr) Tryz.func203 (by kernel_rfl) (by kernel_rfl) (by kernel_rfl) (by kernel_rfl);have q:=OT;have r:=Iu;have s:=EI;have t:=Yu;have u:=TI;have v:=QQ;have x:=run_eql_iface_ptr_other (P:=Tryz.prog) w Tryz.underlying53 Tryz.underlying225 hi m n (by rw[o];decide) h k l;go_enter Tryz.func69,Tryz.ntmps69
 go_wp2
 refine wp_loop_rounds 1 ?_;rw[rounds_succ];go_wp2
 go_ret
 exact ⟨rfl,rfl⟩
end Go.Proofs.YtdldimphcpojoaaGreatDoor

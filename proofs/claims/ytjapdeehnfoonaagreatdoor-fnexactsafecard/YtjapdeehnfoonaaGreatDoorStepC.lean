/-
  A call as one step of a region that draws its order. Own work.
-/
import Derived.Test.YtjapdeehnfoonaaGreatDoorMWB
import Derived.Deep.RegionHeld3
namespace Go.Proofs.YtjapdeehnfoonaaGreatDoor
open Go.RowKit
set_option linter.unusedVariables false

/-- a call, as one step of a region that draws its order -/
theorem step_callR {P : Program} {ops : Array Oper} {o : Oper} {a : Act} {w : World} {K : Act → World → Prop} {Q : Exit → Act → World → Prop} {E : Prop} (hgd : o.guard = none) (f : FuncId) (fn : Func) (hf : P.funcs[f]? = some fn) (hname : (fn.name == "runtime.NumGoroutine") = false) (hb : fn.body.isNone = false) (x : Operand) (tys : Array TypeId)
    (ho : o.op = .call { callee := .value (.func f), args := #[x], argTypes := tys }) (v0 : Value) (hx : a.eval x = v0)
    (R : Value → World → Prop) (hc : Calls P f #[v0] w fun e w' => ∃ v, e = .returned v ∧ R v w') (h : ∀ v w', R v w' → K (a.put o.dst v) w') :
    if Region.wanted o (yielded ops a.tmps) = true then Oper.wp P o a w K Q else E := by
  have hw : Region.wanted o (yielded ops a.tmps) = true := by simp [Region.wanted, hgd]
  rw [if_pos hw]
  unfold Oper.wp
  have hrun : (execOp a.eval o).run P w = .ok (.enter f #[v0]) w := by
    subst hx
    have h1 : fn.name ≠ "runtime.NumGoroutine" := by simpa using hname
    have h2 : (callFunc f #[a.eval x]).run P w = .ok (.enter f #[a.eval x]) w := by
      have h3 : fn.body ≠ none := fun e => by rw [e] at hb; cases hb
      simp [callFunc, hf, h1, h3]
    simpa [execOp, ho, resolve, invoke, Act.eval, Result.andThen, go_sem] using h2
  rw [hrun, Oper.upon_enter]
  refine hc.mono ?_
  rintro e w' ⟨v, rfl, hr⟩
  exact h v w' hr

theorem retOf {P : Program} {f : FuncId} {args : Array Value} {w : World} {A : Ending → World → Prop} (h : Calls P f args w A) (hr : ∀ e w', A e w' → ∃ v, e = .returned v) : Calls P f args w fun e w' => ∃ v, e = .returned v ∧ A (.returned v) w' :=
  h.mono fun e w' ha => by
    obtain ⟨v, rfl⟩ := hr e w' ha
    exact ⟨v, rfl, ha⟩

theorem ending_inj {v u : Value} (h : Ending.returned v = .returned u) : v = u := by cases h; rfl

/-- a call with two arguments, as one step of a region that draws its order -/
theorem step_callR2 {P : Program} {ops : Array Oper} {o : Oper} {a : Act} {w : World} {K : Act → World → Prop} {Q : Exit → Act → World → Prop} {E : Prop} (hgd : o.guard = none) (f : FuncId) (fn : Func) (hf : P.funcs[f]? = some fn) (hname : (fn.name == "runtime.NumGoroutine") = false) (hb : fn.body.isNone = false) (x y : Operand) (tys : Array TypeId)
    (ho : o.op = .call { callee := .value (.func f), args := #[x, y], argTypes := tys }) (v0 v1 : Value) (hx : a.eval x = v0) (hy : a.eval y = v1)
    (R : Value → World → Prop) (hc : Calls P f #[v0, v1] w fun e w' => ∃ v, e = .returned v ∧ R v w') (h : ∀ v w', R v w' → K (a.put o.dst v) w') :
    if Region.wanted o (yielded ops a.tmps) = true then Oper.wp P o a w K Q else E := by
  have hw : Region.wanted o (yielded ops a.tmps) = true := by simp [Region.wanted, hgd]
  rw [if_pos hw]
  unfold Oper.wp
  have hrun : (execOp a.eval o).run P w = .ok (.enter f #[v0, v1]) w := by
    subst hx hy
    have h1 : fn.name ≠ "runtime.NumGoroutine" := by simpa using hname
    have h2 : (callFunc f #[a.eval x, a.eval y]).run P w = .ok (.enter f #[a.eval x, a.eval y]) w := by
      have h3 : fn.body ≠ none := fun e => by rw [e] at hb; cases hb
      simp [callFunc, hf, h1, h3]
    simpa [execOp, ho, resolve, invoke, Act.eval, Result.andThen, go_sem] using h2
  rw [hrun, Oper.upon_enter]
  refine hc.mono ?_
  rintro e w' ⟨v, rfl, hr⟩
  exact h v w' hr

end Go.Proofs.YtjapdeehnfoonaaGreatDoor

/-
  FnExactValidRequest: the row. Own work.
-/
import Derived.Test.YtemekdkeggibaaaVR3
import Derived.Test.YtemekdkeggibaaaOpen
import Derived.WalkKit
import Derived.ProofKit
import Derived.OpenShut
import Derived.ShutString
import Derived.ChangeOld
import Derived.Below
namespace Go.Proofs.Ytemekdkeggibaaa.fnExactValidRequest
open Go.ChangeShapes Go.WideShapes Go.ChangeAt Go.RowKit
open Go.ChangeMaps (open_string shut_string)
set_option linter.unusedVariables false

theorem own : ownKnob Try.prog.godebug = none := by kernel_rfl
theorem laidOut : laidOutB Try.prog = true := by kernel_rfl
theorem cells9 : Try.prog.cellsOf 9 = 1 := by kernel_rfl
theorem cells2 : Try.prog.cellsOf 2 = 1 := by kernel_rfl
theorem cells23 : Try.prog.cellsOf 23 = 1 := by kernel_rfl
theorem cells29 : Try.prog.cellsOf 29 = 6 := by kernel_rfl

theorem array6 {α : Type} {cs : Array α} (h : cs.size = 6) : ∃ c0 c1 c2 c3 c4 c5, cs = #[c0, c1, c2, c3, c4, c5] := by
  obtain ⟨l⟩ := cs
  match l, h with
  | [c0, c1, c2, c3, c4, c5], _ => exact ⟨c0, c1, c2, c3, c4, c5, rfl⟩

theorem open_req {H : Type} {enc : TypeId × Value → H} {w : World} {held : Bool} {r : Reach} {b0 : Nat} {v : Value} {d : DataW H} {p : List MemPlace}
    (hv : Value.okWide Try.prog w r b0 29 v) (h : DataW.Trod enc Try.prog w 0 (fun _ => true) held 29 v d p) :
    ∃ (cl us : ByteArray) (lv nw : Int) (a1 : Option Addr) (n1 c1 : Nat) (s1 : List ByteArray) (a2 : Option Addr) (n2 c2 : Nat) (s2 : List ByteArray),
      v = .agg #[.string cl, .string us, .int .i64 lv, .int .i64 nw, .slice a1 n1 c1, .slice a2 n2 c2] ∧ cl.size ≤ maxLen ∧ us.size ≤ maxLen ∧ Strs w a1 n1 c1 s1 ∧ Strs w a2 n2 c2 s2 := by
  obtain ⟨cs, rfl, hsz⟩ := okWide_struct Try.underlying29 hv
  obtain ⟨x0, x1, x2, x3, x4, x5, rfl⟩ := array6 (hsz.trans cells29)
  obtain ⟨fuel, hf⟩ := h
  obtain ⟨xs, n, _, _, _, hlen, hx⟩ := DataW.trod_struct Try.underlying29 hf
  have get : ∀ i, i < 6 → ∃ y, xs[i]? = some y := fun i hi => ⟨xs[i]'(by simp at hlen; omega), List.getElem?_eq_getElem _⟩
  obtain ⟨y0, e0⟩ := get 0 (by omega)
  obtain ⟨y1, e1⟩ := get 1 (by omega)
  obtain ⟨y2, e2⟩ := get 2 (by omega)
  obtain ⟨y3, e3⟩ := get 3 (by omega)
  obtain ⟨y4, e4⟩ := get 4 (by omega)
  obtain ⟨y5, e5⟩ := get 5 (by omega)
  have f0 : DataW.trod enc Try.prog w 0 (fun _ => true) held n 9 [x0] = some y0 := by
    have := (hx 0 _ rfl).trans e0
    simpa [Value.cells, cells9] using this
  have f1 : DataW.trod enc Try.prog w 0 (fun _ => true) held n 9 [x1] = some y1 := by
    have := (hx 1 _ rfl).trans e1
    simpa [Value.cells, cells9] using this
  have f2 : DataW.trod enc Try.prog w 0 (fun _ => true) held n 2 [x2] = some y2 := by
    have := (hx 2 _ rfl).trans e2
    simpa [Value.cells, cells2] using this
  have f3 : DataW.trod enc Try.prog w 0 (fun _ => true) held n 2 [x3] = some y3 := by
    have := (hx 3 _ rfl).trans e3
    simpa [Value.cells, cells2] using this
  have f4 : DataW.trod enc Try.prog w 0 (fun _ => true) held n 23 [x4] = some y4 := by
    have := (hx 4 _ rfl).trans e4
    simpa [Value.cells, cells23] using this
  have f5 : DataW.trod enc Try.prog w 0 (fun _ => true) held n 23 [x5] = some y5 := by
    have := (hx 5 _ rfl).trans e5
    simpa [Value.cells, cells23] using this
  obtain ⟨cl, k0, _, hcl⟩ := DataW.trod_string Try.underlying9 f0
  obtain ⟨us, k1, _, hus⟩ := DataW.trod_string Try.underlying9 f1
  obtain ⟨lv, k2, _, _⟩ := DataW.trod_int Try.underlying2 f2
  obtain ⟨nw, k3, _, _⟩ := DataW.trod_int Try.underlying2 f3
  simp only [List.cons.injEq, and_true] at k0 k1 k2 k3
  subst k0 k1 k2 k3
  have form : ∀ {x y}, DataW.trod enc Try.prog w 0 (fun _ => true) held n 23 [x] = some y → ∃ a l c, x = .slice a l c := fun {x y} hh => by
    rcases open_strings Try.underlying23 Try.underlying9 cells9 hh with ⟨hcs, _⟩ | ⟨_, _, _, _, hcs, _⟩
    · simp only [List.cons.injEq, and_true] at hcs; exact ⟨_, _, _, hcs⟩
    · simp only [List.cons.injEq, and_true] at hcs; exact ⟨_, _, _, hcs⟩
  obtain ⟨a1, n1, c1, rfl⟩ := form f4
  obtain ⟨a2, n2, c2, rfl⟩ := form f5
  obtain ⟨s1, t1⟩ := Strs.of_trod Try.underlying23 Try.underlying9 cells9 f4
  obtain ⟨s2, t2⟩ := Strs.of_trod Try.underlying23 Try.underlying9 cells9 f5
  exact ⟨cl, us, lv, nw, a1, n1, c1, s1, a2, n2, c2, s2, rfl, hcl, hus, t1, t2⟩

set_option maxRecDepth 100000 in
theorem lifted (os : Os) (started : os.Started) (H : Type) (enc : TypeId × Value → H) :
    ReturnsInHanded {} Try.checked os 5 .any (Rows.fnExactValidRequestSpec.pre6 enc Try.prog Try.f5 Rows.fnExactValidRequestRow.domain false) (Rows.fnExactValidRequestSpec.post enc Try.prog Try.f5 false true false false) := by
  refine returnsInHanded_of_change (C := Try.checked) own started (by kernel_rfl) Try.func5
    (ChangeSpec.witness6 (enc := enc) (C := Try.checked) false ⟨#[], #[.agg #[.string ByteArray.empty, .string ByteArray.empty, .int .i64 0, .int .i64 0, .slice none 0 0, .slice none 0 0]], []⟩ 8 (by kernel_rfl) (by kernel_rfl) (by kernel_rfl) (by kernel_rfl)) ?_
  intro W base args ds gs before hval0 hW hcnd _
  have hval : ∀ (j : Nat) t v, Try.f5.params[j]? = some t → args[j]? = some v → Value.okWide Try.prog W .any base t v := hval0
  have hW' := hW
  obtain ⟨p, q, hA0, hV, rfl, hfz, hnd⟩ := hW
  have hA : DataW.TrodAll enc Try.prog W 0 (fun _ => true) true Try.f5.params.toList args.toList ds p := hA0
  rw [Try.params5] at hA hval
  obtain ⟨v0, vs0, d0, ds0, p0, q0, hargs, rfl, rfl, h0, r0⟩ := trodAll_cons hA
  obtain ⟨rfl, rfl, rfl⟩ := trodAll_nil r0
  obtain rfl : args = #[v0] := by cases args; simp_all
  obtain ⟨rfl, rfl⟩ := trodVars_none hV
  have k0 := h0
  have lt0 : ∀ x ∈ p0, x.block < W.heap.size := by obtain ⟨m, hm⟩ := k0; exact DataW.trod_lt m _ _ _ hm
  obtain ⟨cl, us, lv, nw, a1, n1, c1, s1, a2, n2, c2, s2, rfl, hcl, hus, t1, t2⟩ := open_req (hval 0 29 v0 rfl rfl) h0
  clear hA0 hval0
  refine (fnExactValidRequest_walk cl us lv nw a1 n1 c1 s1 a2 n2 c2 s2 W hcl hus t1 t2).mono fun e W' ⟨he, bel⟩ => ?_
  subst he
  exact ⟨_, rfl, _, _, _, [], _, [], hW', trodAll_mk1 (shut_bool Try.underlying4 _), (trodAll_cons_mk (Below.trod laidOut (by kernel_rfl) (of_decide_eq_true (by kernel_rfl)) k0 bel lt0) trodAll_mk0), rfl, bel.frame _, fun h => by cases h⟩

theorem over : Rows.fnExactValidRequestRow.holds Try.pinned (OpenSpec.ofChange Rows.fnExactValidRequestSpec) :=
  OpenClaim.holds_of_wide 5 Try.f5 rfl rfl rfl rfl rfl rfl rfl ⟨rfl, rfl, rfl, rfl, rfl⟩ rfl rfl rfl rfl rfl (by kernel_rfl) Try.func5 (by kernel_rfl)
    (of_decide_eq_true (by kernel_rfl)) (by unfold Func.isWrapper; first | (rw [if_pos (by decide +kernel)]; kernel_rfl) | (rw [if_neg (by decide +kernel)]; exact ⟨rfl, rfl⟩))
    (fun os started H enc _ => lifted os started H enc)

end Go.Proofs.Ytemekdkeggibaaa.fnExactValidRequest

namespace Go.Proofs.Ytemekdkeggibaaa
theorem fnExactValidRequest_holds : Rows.FnExactValidRequestSaid := fnExactValidRequest.over
end Go.Proofs.Ytemekdkeggibaaa

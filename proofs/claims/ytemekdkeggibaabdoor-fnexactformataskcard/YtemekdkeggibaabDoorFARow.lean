/-
  FnExactFormatAsk: the row, and its card. Own work.
-/
import Derived.Test.YtemekdkeggibaabDoorFE
import Derived.Test.YtemekdkeggibaabDoorOpen
import Derived.Test.YtemekdkeggibaabDoorTie
import Derived.Test.YtemekdkeggibaabDoorCards
import Derived.WalkKit
import Derived.ProofKit
import Derived.OpenShut
import Derived.LaidMore
import Derived.Stop.LaidErr
import Derived.Stop.Joined
import Derived.SevenTiedAt
import Derived.ChangeOld
import Derived.Below
namespace Go.Proofs.YtemekdkeggibaabDoor.fnExactFormatAskDone
open Go.ChangeShapes Go.WideShapes Go.ChangeAt Go.RowKit
set_option linter.unusedVariables false
set_option maxRecDepth 100000

theorem own : ownKnob Tryd.prog.godebug = none := by kernel_rfl
theorem laidOut : laidOutB Tryd.prog = true := by kernel_rfl
theorem cells9 : Tryd.prog.cellsOf 9 = 1 := by kernel_rfl
theorem cells2 : Tryd.prog.cellsOf 2 = 1 := by kernel_rfl
theorem cells23 : Tryd.prog.cellsOf 22 = 1 := by kernel_rfl
theorem cellsAsk : Tryd.prog.cellsOf 29 = 4 := by kernel_rfl

abbrev laid3 : List (String × DataW Unit) := [("math/bits.deBruijn32tab", Rows.laid_math_bits_deBruijn32tab), ("math/bits.deBruijn64tab", Rows.laid_math_bits_deBruijn64tab), ("internal/strconv.uint64pow10", Rows.laid_internal_strconv_uint64pow10)]

theorem door_met (os : Os) (args : Array Value) : laidMetH Tryd.prog laid3 ((World.doorLaid Tryd.prog 100 os).forCall (fun _ _ => 0) ⟨#[], args, []⟩).memory :=
  laidMetH_of_parts3 (fuel := 8) (laidMet_of_run' 8 (by kernel_rfl) (by kernel_rfl)) (by kernel_rfl) (by kernel_rfl)

theorem tPow : (Tryd.prog.globals[4]?).map (·.type) = some 88 := by kernel_rfl

theorem pow_of_laid {W : World} (h : laidMetH Tryd.prog laid3 W) : Pow W := by
  rw [MakeChecks.laidMetH_plain _ _ _ (by kernel_rfl)] at h
  exact Lib.tabIs_of_head (rest := []) gPow tPow Tryd.underlying88 Tryd.underlying69 (by kernel_rfl) (by kernel_rfl) h.tail.tail

theorem array4 {α : Type} {cs : Array α} (h : cs.size = 4) : ∃ c0 c1 c2 c3, cs = #[c0, c1, c2, c3] := by
  obtain ⟨l⟩ := cs
  match l, h with
  | [c0, c1, c2, c3], _ => exact ⟨c0, c1, c2, c3, rfl⟩

theorem open_ask {H : Type} {enc : TypeId × Value → H} {w : World} {held : Bool} {r : Reach} {b0 : Nat} {v : Value} {d : DataW H} {p : List MemPlace}
    (hv : Value.okWide Tryd.prog w r b0 29 v) (h : DataW.Trod enc Tryd.prog w 0 (fun _ => true) held 29 v d p) :
    ∃ (cl us : ByteArray) (lv : Int) (a1 : Option Addr) (n1 c1 : Nat) (s1 : List ByteArray),
      v = .agg #[.string cl, .string us, .int .i64 lv, .slice a1 n1 c1] ∧ cl.size ≤ maxLen ∧ us.size ≤ maxLen ∧ Strs w a1 n1 c1 s1 := by
  obtain ⟨cs, rfl, hsz⟩ := okWide_struct Tryd.underlying29 hv
  obtain ⟨x0, x1, x2, x3, rfl⟩ := array4 (hsz.trans cellsAsk)
  obtain ⟨fuel, hf⟩ := h
  obtain ⟨xs, n, _, _, _, hlen, hx⟩ := DataW.trod_struct Tryd.underlying29 hf
  have get : ∀ i, i < 4 → ∃ y, xs[i]? = some y := fun i hi => ⟨xs[i]'(by simp at hlen; omega), List.getElem?_eq_getElem _⟩
  obtain ⟨y0, e0⟩ := get 0 (by omega)
  obtain ⟨y1, e1⟩ := get 1 (by omega)
  obtain ⟨y2, e2⟩ := get 2 (by omega)
  obtain ⟨y3, e3⟩ := get 3 (by omega)
  have f0 : DataW.trod enc Tryd.prog w 0 (fun _ => true) held n 9 [x0] = some y0 := by
    have := (hx 0 _ rfl).trans e0
    simpa [Value.cells, cells9] using this
  have f1 : DataW.trod enc Tryd.prog w 0 (fun _ => true) held n 9 [x1] = some y1 := by
    have := (hx 1 _ rfl).trans e1
    simpa [Value.cells, cells9] using this
  have f2 : DataW.trod enc Tryd.prog w 0 (fun _ => true) held n 2 [x2] = some y2 := by
    have := (hx 2 _ rfl).trans e2
    simpa [Value.cells, cells2] using this
  have f3 : DataW.trod enc Tryd.prog w 0 (fun _ => true) held n 22 [x3] = some y3 := by
    have := (hx 3 _ rfl).trans e3
    simpa [Value.cells, cells23] using this
  obtain ⟨cl, k0, _, hcl⟩ := DataW.trod_string Tryd.underlying9 f0
  obtain ⟨us, k1, _, hus⟩ := DataW.trod_string Tryd.underlying9 f1
  obtain ⟨lv, k2, _, _⟩ := DataW.trod_int Tryd.underlying2 f2
  simp only [List.cons.injEq, and_true] at k0 k1 k2
  subst k0 k1 k2
  have form : ∀ {x y}, DataW.trod enc Tryd.prog w 0 (fun _ => true) held n 22 [x] = some y → ∃ a l c, x = .slice a l c := fun {x y} hh => by
    rcases open_strings Tryd.underlying22 Tryd.underlying9 cells9 hh with ⟨hcs, _⟩ | ⟨_, _, _, _, hcs, _⟩
    · simp only [List.cons.injEq, and_true] at hcs; exact ⟨_, _, _, hcs⟩
    · simp only [List.cons.injEq, and_true] at hcs; exact ⟨_, _, _, hcs⟩
  obtain ⟨a1, n1, c1, rfl⟩ := form f3
  obtain ⟨s1, t1⟩ := Strs.of_trod Tryd.underlying22 Tryd.underlying9 cells9 f3
  exact ⟨cl, us, lv, a1, n1, c1, s1, rfl, hcl, hus, t1⟩

theorem lifted (os : Os) (started : os.Started) (H : Type) (enc : TypeId × Value → H) :
    ReturnsInHanded {} Tryd.checked os 4 .any (fun w args => (Rows.fnExactFormatAskSpec.pre enc Tryd.prog Tryd.f4 [] false w args ∧ laidMetH Tryd.prog laid3 w) ∧ sizedMet enc Tryd.prog Tryd.f4 (OpenSpec.ofChange Rows.fnExactFormatAskSpec) false w args)
      (Rows.fnExactFormatAskSpec.post enc Tryd.prog Tryd.f4 false true false false) := by
  refine returnsInHanded_of_change_and (C := Tryd.checked) (X := fun w _ => laidMetH Tryd.prog laid3 w) (fun _ _ _ hh h => h.of_heap hh) own started (by kernel_rfl) Tryd.func4
    (ChangeSpec.witness_shaped (enc := enc) (C := Tryd.checked) (os := os) (X := fun w _ => laidMetH Tryd.prog laid3 w) false (World.doorLaid Tryd.prog 100 os) #[.agg #[.string ByteArray.empty, .string ByteArray.empty, .int .i64 0, .slice none 0 0]] 8 rfl (World.shaped_of_RefB (by kernel_rfl) (by kernel_rfl)) (by kernel_rfl) (by kernel_rfl) (by kernel_rfl) (door_met os _)) ?_
  intro W base args ds gs before hval0 hW _ _ hL _
  have hval : ∀ (j : Nat) t v, Tryd.f4.params[j]? = some t → args[j]? = some v → Value.okWide Tryd.prog W .any base t v := hval0
  have hW' := hW
  obtain ⟨p, q, hA0, hV0, rfl, hfz, hnd⟩ := hW
  have hA : DataW.TrodAll enc Tryd.prog W 0 (fun _ => true) true Tryd.f4.params.toList args.toList ds p := hA0
  rw [Tryd.params4] at hA hval
  obtain ⟨v0, vs0, d0, ds0, p0, q0, hargs, rfl, rfl, h0, r0⟩ := trodAll_cons hA
  obtain ⟨rfl, rfl, rfl⟩ := trodAll_nil r0
  obtain rfl : args = #[v0] := by cases args; simp_all
  obtain ⟨rfl, rfl⟩ := trodVars_none hV0
  have k0 := h0
  have lt0 : ∀ x ∈ p0, x.block < W.heap.size := by obtain ⟨m, hm⟩ := k0; exact DataW.trod_lt m _ _ _ hm
  obtain ⟨cl, us, lv, a1, n1, c1, s1, rfl, hcl, hus, t1⟩ := open_ask (hval 0 29 v0 rfl rfl) h0
  clear hA0 hval0
  refine (fnExactFormatAsk_walk cl us lv a1 n1 c1 s1 W hcl hus t1 (pow_of_laid hL)).mono fun e W' ⟨he, bel⟩ => ?_
  subst he
  exact ⟨_, rfl, _, _, _, [], _, [], hW', trodAll_mk1 (shut_bool Tryd.underlying4 _), (trodAll_cons_mk (Below.trod laidOut (by kernel_rfl) (of_decide_eq_true (by kernel_rfl)) k0 bel lt0) trodAll_mk0), rfl, bel.frame _, fun h => by cases h⟩

theorem over : Rows.FnExactFormatAskSaid :=
  OpenClaim.holds_of_wide 4 Tryd.f4 rfl rfl rfl rfl rfl rfl rfl ⟨rfl, rfl, rfl, rfl, rfl⟩ rfl rfl rfl rfl rfl (by kernel_rfl) Tryd.func4 (by kernel_rfl)
    (of_decide_eq_true (by kernel_rfl)) (by unfold Func.isWrapper; first | (rw [if_pos (by decide +kernel)]; kernel_rfl) | (rw [if_neg (by decide +kernel)]; exact ⟨rfl, rfl⟩))
    (fun os started H enc _ => lifted os started H enc)

theorem card : Rows.FnExactFormatAskCardSaid :=
  Claim7.holds_tied_plain_at .later [] [.data, .data, .data] true (true, "b1c93322ec340c1a87d473acb2f0f0f3895c79a1bf131b074f4411b64793eb5e") true
    over (fun _ h => by cases h) (by kernel_rfl) (fun _ h => by cases h) fnExactFormatAsk_row_tie rfl ⟨rfl, rfl⟩ (by kernel_rfl) rfl
    (fun f fn hf hfn => by
      obtain rfl : f = 4 := Option.some.inj ((show Tryd.prog.funcNamed "loop.example/s01308/laws.FnExactFormatAsk" = some 4 by kernel_rfl).symm.trans hf) |>.symm
      obtain rfl : fn = Tryd.f4 := (Option.some.inj (Tryd.func4.symm.trans hfn)).symm
      exact ⟨by kernel_rfl, fun j t ht => by
        rw [Tryd.params4] at ht
        have hm : t ∈ [29] := by simpa using Array.mem_of_getElem? ht
        have hall : ([29].all fun u => !Tryd.prog.wantsStandIn u) = true := by kernel_rfl
        exact (show Tryd.prog.wantsStandIn t = false by simpa using List.all_eq_true.1 hall t hm)⟩)
    (by kernel_rfl)

end Go.Proofs.YtemekdkeggibaabDoor.fnExactFormatAskDone

namespace Go.Proofs.YtemekdkeggibaabDoor
theorem fnExactFormatAsk_holds : Rows.FnExactFormatAskCardSaid := fnExactFormatAskDone.card
end Go.Proofs.YtemekdkeggibaabDoor

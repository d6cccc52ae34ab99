/-
  FnExactPrint: the row, and its card. Own work.
-/
import Derived.Test.YtbdplgelkgngmaaGreatDoorQU
import Derived.Test.YtbdplgelkgngmaaGreatDoorQV
import Derived.Test.YtbdplgelkgngmaaGreatDoorTie
import Derived.Test.YtbdplgelkgngmaaGreatDoorCards
import Derived.WalkKit
import Derived.ProofKit
import Derived.OpenShut
import Derived.OpenVars
import Derived.LaidMore
import Derived.Stop.LaidErr
import Derived.Stop.Joined
import Derived.SevenTiedAt
import Derived.ChangeOld
import Derived.Below
namespace Go.Proofs.YtbdplgelkgngmaaGreatDoor.fnExactPrintDone
open Go.ChangeShapes Go.WideShapes Go.ChangeAt Go.RowKit
set_option linter.unusedVariables false
set_option maxRecDepth 100000

theorem own : ownKnob Tryz.prog.godebug = none := by kernel_rfl
theorem laidOut : laidOutB Tryz.prog = true := by kernel_rfl

abbrev laid4 : List (String × DataW Unit) := [("math/bits.deBruijn32tab", Rows.laid_math_bits_deBruijn32tab), ("math/bits.deBruijn64tab", Rows.laid_math_bits_deBruijn64tab), ("internal/strconv.uint64pow10", Rows.laid_internal_strconv_uint64pow10), ("loop.example/s01308/impl.binaryOperators", Rows.laid_loop_example_s01308_impl_binaryOperators)]

theorem door_met (os : Os) (args : Array Value) : laidMetH Tryz.prog laid4 ((World.doorLaid Tryz.prog 45 os).forCall (fun _ _ => 0) ⟨#[], args, []⟩).memory :=
  laidMetH_of_parts3 (fuel := 8) (laidMet_of_run' 8 (by kernel_rfl) (by kernel_rfl)) (by kernel_rfl) (by kernel_rfl)

theorem tPow : (Tryz.prog.globals[1]?).map (·.type) = some 153 := by kernel_rfl

theorem pow_of_laid {W : World} (h : laidMetH Tryz.prog laid4 W) : Pow W := by
  rw [MakeChecks.laidMetH_plain _ _ _ (by kernel_rfl)] at h
  exact Lib.tabIs_of_head gPow tPow Tryz.underlying153 Tryz.underlying147 (by kernel_rfl) (by kernel_rfl) h.tail.tail

theorem gBin : Tryz.prog.globalNamed "loop.example/s01308/impl.binaryOperators" = some 0 := by kernel_rfl
theorem tBin : (Tryz.prog.globals[0]?).map (·.type) = some 145 := by kernel_rfl
theorem cellsOp : Tryz.prog.cellsOf 140 = 3 := by kernel_rfl
theorem cellsTab : Tryz.prog.cellsOf 145 = 48 := by kernel_rfl

/-- an operator's cells, by its datum -/
theorem opr_cells {H : Type} {enc : TypeId × Value → H} {w : World} {spare : Nat → Bool} {held : Bool} {fuel : Nat} {l : List Value} {x y : Int} {s : List UInt8} {p : List MemPlace}
    (h : DataW.trod enc Tryz.prog w 0 spare held fuel 140 l = some (.agg [.lit (.int .i64 x), .lit (.int .i64 y), .lit (.string s)], p)) : l = [.int .i64 x, .int .i64 y, .string ⟨s.toArray⟩] := by
  obtain ⟨xs, n, _, hd, hcl, hlen, hx⟩ := DataW.trod_struct Tryz.underlying140 h
  rw [cellsOp] at hcl
  match l, hcl with
  | [c0, c1, c2], _ =>
    have get : ∀ i, i < 3 → ∃ y, xs[i]? = some y := fun i hi => ⟨xs[i]'(by simp at hlen; omega), List.getElem?_eq_getElem _⟩
    obtain ⟨y0, e0⟩ := get 0 (by omega)
    obtain ⟨y1, e1⟩ := get 1 (by omega)
    obtain ⟨y2, e2⟩ := get 2 (by omega)
    have f0 : DataW.trod enc Tryz.prog w 0 spare held n 3 [c0] = some y0 := by
      have := (hx 0 _ rfl).trans e0
      simpa [cellsInt] using this
    have f1 : DataW.trod enc Tryz.prog w 0 spare held n 3 [c1] = some y1 := by
      have := (hx 1 _ rfl).trans e1
      simpa [cellsInt] using this
    have f2 : DataW.trod enc Tryz.prog w 0 spare held n 9 [c2] = some y2 := by
      have := (hx 2 _ rfl).trans e2
      simpa [cellsStr] using this
    obtain ⟨a0, k0, r0, _⟩ := DataW.trod_int Tryz.underlying3 f0
    obtain ⟨a1, k1, r1, _⟩ := DataW.trod_int Tryz.underlying3 f1
    obtain ⟨a2, k2, r2, _⟩ := DataW.trod_string Tryz.underlying9 f2
    have hm : xs.map (·.1) = [.lit (.int .i64 x), .lit (.int .i64 y), .lit (.string s)] := by
      have := congrArg Prod.fst hd
      simpa using this.symm
    have g0 : (xs.map (·.1))[0]? = some y0.1 := by rw [List.getElem?_map, e0]; rfl
    have g1 : (xs.map (·.1))[1]? = some y1.1 := by rw [List.getElem?_map, e1]; rfl
    have g2 : (xs.map (·.1))[2]? = some y2.1 := by rw [List.getElem?_map, e2]; rfl
    rw [hm] at g0 g1 g2
    rw [r0] at g0
    rw [r1] at g1
    rw [r2] at g2
    simp only [List.cons.injEq, and_true] at k0 k1 k2
    simp at g0 g1 g2
    subst g0 g1
    rw [k0, k1, k2, g2]

theorem datum_at : ∀ i, i < 16 → ∃ R : List (DataW Unit), Rows.laid_loop_example_s01308_impl_binaryOperators = .agg R ∧ R[i]? = some (.agg [.lit (.int .i64 (opr i).op), .lit (.int .i64 (opr i).lv), .lit (.string (opr i).text.data.toList)])
  | 0, _ | 1, _ | 2, _ | 3, _ | 4, _ | 5, _ | 6, _ | 7, _ | 8, _ | 9, _ | 10, _ | 11, _ | 12, _ | 13, _ | 14, _ | 15, _ => ⟨_, rfl, rfl⟩
  | n + 16, h => absurd h (by omega)

theorem tab_of_laid {W : World} (h : laidMetH Tryz.prog laid4 W) : TabOK W := by
  rw [MakeChecks.laidMetH_plain _ _ _ (by kernel_rfl)] at h
  obtain ⟨ps, ⟨g', t', cs, fuel, p, q, hg', ht', hvar, hd, _, _⟩, _⟩ := h.tail.tail.tail
  obtain rfl := Option.some.inj (gBin.symm.trans hg')
  obtain rfl := Option.some.inj (tBin.symm.trans ht')
  obtain ⟨xs, m, _, hx, hcl, hlen, hel⟩ := DataW.trod_array Tryz.underlying145 hd
  rw [cellsTab] at hcl
  rw [cellsOp] at hel
  have hrow : ∀ i, i < 16 → (cs.toList.drop (i * 3)).take 3 = [.int .i64 (opr i).op, .int .i64 (opr i).lv, .string (opr i).text] := fun i hi => by
    obtain ⟨R, hR, hRi⟩ := datum_at i hi
    have hm : xs.map (·.1) = R := by
      have := congrArg Prod.fst hx
      rw [hR] at this
      simpa using this.symm
    obtain ⟨y, hy⟩ : ∃ y, xs[i]? = some y := ⟨xs[i]'(by omega), List.getElem?_eq_getElem _⟩
    have h1 := (hel i hi).trans hy
    have h2 : (xs.map (·.1))[i]? = some y.1 := by rw [List.getElem?_map, hy]; rfl
    rw [hm, hRi] at h2
    have h3 : y = (.agg [.lit (.int .i64 (opr i).op), .lit (.int .i64 (opr i).lv), .lit (.string (opr i).text.data.toList)], y.2) := Prod.ext (Option.some.inj h2).symm rfl
    rw [h3] at h1
    have := opr_cells h1
    rw [this]
  have hall : ∀ k : Nat, cs[k]? = binV[k]? := fun k => by
    by_cases hk : k < 48
    · have hi : k / 3 < 16 := by omega
      have e1 := hrow (k / 3) hi
      have e2 := binV_row (k / 3) hi
      have a1 : ((cs.toList.drop (k / 3 * 3)).take 3)[k % 3]? = cs[k]? := by
        rw [List.getElem?_take, if_pos (by omega), List.getElem?_drop, show k / 3 * 3 + k % 3 = k by omega, Array.getElem?_toList]
      have a2 : (binV.extract (k / 3 * 3) (k / 3 * 3 + 3))[k % 3]? = binV[k]? := by
        have hb : binV.size = 48 := rfl
        rw [Array.getElem?_extract, if_pos (by rw [hb]; omega), show k / 3 * 3 + k % 3 = k by omega]
      rw [← a1, ← a2, e1, e2]
      simp
    · have hb : binV.size = 48 := rfl
      rw [Array.getElem?_eq_none (by rw [← Array.length_toList, hcl]; omega), Array.getElem?_eq_none (by rw [hb]; omega)]
  have hheap : ∃ t fr, W.heap[0]? = some (.cells cs t fr) := by
    simp only [World.var?, gBin, Option.bind_some] at hvar
    split at hvar
    · rename_i c t fr hb
      simp only [Option.some.injEq] at hvar
      subst hvar
      exact ⟨t, fr, hb⟩
    · cases hvar
  obtain ⟨t, fr, hb⟩ := hheap
  exact ⟨(Array.getElem?_eq_some_iff.1 hb).1, fun k => (cell_of_row W _ k cs t fr hb).trans (hall k)⟩

theorem lifted (os : Os) (started : os.Started) (H : Type) (enc : TypeId × Value → H) :
    ReturnsInHanded {} Tryz.checked os 3 .any (fun w args => (Rows.fnExactPrintSpec.pre enc Tryz.prog Tryz.f3 [] false w args ∧ laidMetH Tryz.prog laid4 w) ∧ sizedMet enc Tryz.prog Tryz.f3 (OpenSpec.ofChange Rows.fnExactPrintSpec) false w args)
      (Rows.fnExactPrintSpec.post enc Tryz.prog Tryz.f3 false true false false) := by
  refine returnsInHanded_of_change_and (C := Tryz.checked) (X := fun w _ => laidMetH Tryz.prog laid4 w) (fun _ _ _ hh h => h.of_heap hh) own started (by kernel_rfl) Tryz.func3
    (ChangeSpec.witness_shaped (enc := enc) (C := Tryz.checked) (os := os) (X := fun w _ => laidMetH Tryz.prog laid4 w) false (World.doorLaid Tryz.prog 45 os) #[.agg #[.slice none 0 0, .slice none 0 0]] 8 rfl (World.shaped_of_RefB (by kernel_rfl) (by kernel_rfl)) (by kernel_rfl) (by kernel_rfl) (by kernel_rfl) (door_met os _)) ?_
  intro W base args ds gs before hval0 hW _ _ hL _
  have hval : ∀ (j : Nat) t v, Tryz.f3.params[j]? = some t → args[j]? = some v → Value.okWide Tryz.prog W .any base t v := hval0
  have hW' := hW
  obtain ⟨p, q, hA0, hV0, rfl, hfz, hnd⟩ := hW
  have hA : DataW.TrodAll enc Tryz.prog W 0 (fun _ => true) true Tryz.f3.params.toList args.toList ds p := hA0
  have hV : DataW.TrodVars enc Tryz.prog W (fun _ => true) ["loop.example/s01308/impl.binaryOperators"] gs q := hV0
  rw [Tryz.params3] at hA hval
  obtain ⟨v0, vs0, d0, ds0, p0, q0, hargs, rfl, rfl, h0, r0⟩ := trodAll_cons hA
  obtain ⟨rfl, rfl, rfl⟩ := trodAll_nil r0
  obtain rfl : args = #[v0] := by cases args; simp_all
  have k0 := h0
  have lt0 : ∀ x ∈ p0, x.block < W.heap.size := by obtain ⟨m, hm⟩ := k0; exact DataW.trod_lt m _ _ _ hm
  obtain ⟨a, b, n, c, m, d, N, L, rfl, hN, hLs, hnum⟩ := open_pol (hval 0 25 v0 rfl rfl) h0
  obtain ⟨g, t, cs, fuel, dv, pv, rfl, _⟩ := trodVars_one hV
  clear hA0 hV0 hval0
  refine (fnExactPrint_walk a b n c m d N L W hN hLs (tab_of_laid hL) (pow_of_laid hL) hnum).mono fun e W' ⟨he, bel⟩ => ?_
  subst he
  exact ⟨_, rfl, _, _, _, [], _, _, hW', trodAll_mk1 (shut_bool Tryz.underlying4 _), (trodAll_cons_mk (Below.trod laidOut (by kernel_rfl) (of_decide_eq_true (by kernel_rfl)) k0 bel lt0) trodAll_mk0), Below.trodVars laidOut bel (by kernel_rfl) hV, bel.frame _, fun h => by cases h⟩

theorem over : Rows.FnExactPrintSaid :=
  OpenClaim.holds_of_wide 3 Tryz.f3 rfl rfl rfl rfl rfl rfl rfl ⟨rfl, rfl, rfl, rfl, rfl⟩ rfl rfl rfl rfl rfl (by kernel_rfl) Tryz.func3 (by kernel_rfl)
    (of_decide_eq_true (by kernel_rfl)) (by unfold Func.isWrapper; first | (rw [if_pos (by decide +kernel)]; kernel_rfl) | (rw [if_neg (by decide +kernel)]; exact ⟨rfl, rfl⟩))
    (fun os started H enc _ => lifted os started H enc)

theorem card : Rows.FnExactPrintCardSaid :=
  Claim7.holds_tied_plain_at .later [] [.data, .data, .data, .data] true (true, "60584dceb6b66123daf9c6bf16ab0e85eb4de62513796c74d09f3678dddf2732") true
    over (fun _ h => by cases h) (by kernel_rfl) (fun _ h => by cases h) fnExactPrint_row_tie rfl ⟨rfl, rfl⟩ (by kernel_rfl) rfl
    (fun f fn hf hfn => by
      obtain rfl : f = 3 := Option.some.inj ((show Tryz.prog.funcNamed "loop.example/s01308/laws.FnExactPrint" = some 3 by kernel_rfl).symm.trans hf) |>.symm
      obtain rfl : fn = Tryz.f3 := (Option.some.inj (Tryz.func3.symm.trans hfn)).symm
      exact ⟨by kernel_rfl, fun j t ht => by
        rw [Tryz.params3] at ht
        have hm : t ∈ [25] := by simpa using Array.mem_of_getElem? ht
        have hall : ([25].all fun u => !Tryz.prog.wantsStandIn u) = true := by kernel_rfl
        exact (show Tryz.prog.wantsStandIn t = false by simpa using List.all_eq_true.1 hall t hm)⟩)
    (by kernel_rfl)

end Go.Proofs.YtbdplgelkgngmaaGreatDoor.fnExactPrintDone

namespace Go.Proofs.YtbdplgelkgngmaaGreatDoor
theorem fnExactPrint_holds : Rows.FnExactPrintCardSaid := fnExactPrintDone.card
end Go.Proofs.YtbdplgelkgngmaaGreatDoor

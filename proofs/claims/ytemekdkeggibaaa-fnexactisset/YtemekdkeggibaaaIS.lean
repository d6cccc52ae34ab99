/-
  FnExactIsSet. Own work.
-/
import Derived.Test.YtemekdkeggibaaaSlices
import Derived.Test.YtemekdkeggibaaaLaws
import Derived.Test.YtemekdkeggibaaaOpen
import Derived.WalkKit
import Derived.ProofKit
import Derived.OpenShut
import Derived.ShutString
import Derived.ChangeOld
import Derived.Below
namespace Go.Proofs.Ytemekdkeggibaaa.fnExactIsSet
open Go.ChangeShapes Go.WideShapes Go.ChangeAt Go.RowKit
open Go.ChangeMaps (open_string shut_string)
set_option linter.unusedVariables false

theorem own : ownKnob Try.prog.godebug = none := by kernel_rfl
theorem laidOut : laidOutB Try.prog = true := by kernel_rfl

set_option maxHeartbeats 800000 in
theorem walk (a : Option Addr) (n c : Nat) (ss : List ByteArray) (w : World) (h : Strs w a n c ss) :
    Calls Try.prog 4 #[.slice a n c] w fun e w' => e = .returned (.bool true) ∧ Below w.heap.size w w' := by
  go_enter Try.func4, Try.ntmps4
  go_wp2_with fail
  refine (szStringS_any _ _ _ _ _ _ h (by omega) (by omega)).mono ?_
  rintro e w' ⟨⟨r, rfl, hr⟩, rfl⟩
  by_cases h0 : r < 0
  · go_wp2_with fail
    go_ret
    exact ⟨rfl, Below.refl _ _⟩
  · have hn : n ≤ 1048576 := by rcases hr with hr | ⟨_, hr⟩ <;> omega
    have h0' : 0 ≤ r := by omega
    clear hr h0
    go_wp2_with fail
    refine (toStringS_any _ _ _ _ _ h hn).mono ?_
    rintro e w1 ⟨rfl, hb1, ho1⟩
    have s1 := Strs.of_owns ho1 h.sizes
    have h1 := h.below hb1 (Nat.le_refl _)
    go_wp2_with fail
    refine (sIsSet_any _ _ _ _ _ s1).mono ?_
    rintro e w' ⟨rfl, rfl⟩
    go_wp2_with fail
    refine (toStringS_any _ _ _ _ _ h1 hn).mono ?_
    rintro e w2 ⟨rfl, hb2, ho2⟩
    have s2 := Strs.of_owns ho2 h.sizes
    have h2 := h1.below hb2 (Nat.le_refl _)
    go_wp2_with fail
    refine (iIsSet_any _ _ _ _ _ s2).mono ?_
    rintro e w3 ⟨rfl, hb3⟩
    have h3 := h2.below hb3 (Nat.le_refl _)
    have s3 := s2.below hb3 (Nat.le_refl _)
    go_wp2_with fail
    refine (toStringS_any _ _ _ _ _ h3 hn).mono ?_
    rintro e w4 ⟨rfl, hb4, ho4⟩
    have s4 := Strs.of_owns ho4 h.sizes
    have s3' := s3.below hb4 (Nat.le_refl _)
    go_wp2_with fail
    refine (eqStringS_same _ _ _ _ _ _ _ s3' s4).mono ?_
    rintro e w5 ⟨rfl, hb5⟩
    go_wp2_with fail
    go_ret
    have z1 := hb1.size
    have z2 := hb2.size
    have z3 := hb3.size
    have z4 := hb4.size
    exact ⟨rfl, (((hb1.trans (hb2.mono z1)).trans (hb3.mono (by omega))).trans (hb4.mono (by omega))).trans (hb5.mono (by omega))⟩

set_option maxRecDepth 100000 in
theorem lifted (os : Os) (started : os.Started) (H : Type) (enc : TypeId × Value → H) :
    ReturnsInHanded {} Try.checked os 4 .any (Rows.fnExactIsSetSpec.pre6 enc Try.prog Try.f4 Rows.fnExactIsSetRow.domain false) (Rows.fnExactIsSetSpec.post enc Try.prog Try.f4 false true false false) := by
  refine returnsInHanded_of_change (C := Try.checked) own started (by kernel_rfl) Try.func4
    (ChangeSpec.witness6 (enc := enc) (C := Try.checked) false ⟨#[], #[.slice none 0 0], []⟩ 8 (by kernel_rfl) (by kernel_rfl) (by kernel_rfl) (by kernel_rfl)) ?_
  intro W base args ds gs before hval0 hW hcnd _
  have hval : ∀ (j : Nat) t v, Try.f4.params[j]? = some t → args[j]? = some v → Value.okWide Try.prog W .any base t v := hval0
  have hW' := hW
  obtain ⟨p, q, hA0, hV, rfl, hfz, hnd⟩ := hW
  have hA : DataW.TrodAll enc Try.prog W 0 (fun _ => true) true Try.f4.params.toList args.toList ds p := hA0
  rw [Try.params4] at hA hval
  obtain ⟨v0, vs0, d0, ds0, p0, q0, hargs, rfl, rfl, h0, r0⟩ := trodAll_cons hA
  obtain ⟨rfl, rfl, rfl⟩ := trodAll_nil r0
  obtain rfl : args = #[v0] := by cases args; simp_all
  obtain ⟨rfl, rfl⟩ := trodVars_none hV
  obtain ⟨a0, len0, cap0, rfl⟩ := okWide_slice Try.underlying23 (hval 0 23 v0 rfl rfl)
  have k0 := h0
  have lt0 : ∀ x ∈ p0, x.block < W.heap.size := by obtain ⟨m, hm⟩ := k0; exact DataW.trod_lt m _ _ _ hm
  obtain ⟨ss, w0⟩ : ∃ ss, Strs W a0 len0 cap0 ss := by
    obtain ⟨fuel, hf⟩ := h0
    exact Strs.of_trod Try.underlying23 Try.underlying9 (by kernel_rfl) hf
  clear hA0 hval0
  refine (walk a0 len0 cap0 ss W w0).mono fun e W' ⟨he, bel⟩ => ?_
  subst he
  exact ⟨_, rfl, _, _, _, [], _, [], hW', trodAll_mk1 (shut_bool Try.underlying4 _), (trodAll_cons_mk (Below.trod laidOut (by kernel_rfl) (of_decide_eq_true (by kernel_rfl)) k0 bel lt0) trodAll_mk0), rfl, bel.frame _, fun h => by cases h⟩

theorem over : Rows.fnExactIsSetRow.holds Try.pinned (OpenSpec.ofChange Rows.fnExactIsSetSpec) :=
  OpenClaim.holds_of_wide 4 Try.f4 rfl rfl rfl rfl rfl rfl rfl ⟨rfl, rfl, rfl, rfl, rfl⟩ rfl rfl rfl rfl rfl (by kernel_rfl) Try.func4 (by kernel_rfl)
    (of_decide_eq_true (by kernel_rfl)) (by unfold Func.isWrapper; first | (rw [if_pos (by decide +kernel)]; kernel_rfl) | (rw [if_neg (by decide +kernel)]; exact ⟨rfl, rfl⟩))
    (fun os started H enc _ => lifted os started H enc)

end Go.Proofs.Ytemekdkeggibaaa.fnExactIsSet

namespace Go.Proofs.Ytemekdkeggibaaa
theorem fnExactIsSet_holds : Rows.FnExactIsSetSaid := fnExactIsSet.over
end Go.Proofs.Ytemekdkeggibaaa

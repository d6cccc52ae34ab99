/-
  Parse, the law: what is answered, as the law holds it. Own work.
-/
import Derived.Test.YtcehablmloleaaaGreatDoorMXAJ
import Derived.Test.YtcehablmloleaaaGreatDoorMXAQ
import Derived.Test.YtcehablmloleaaaGreatDoorMXAW
namespace Go.Proofs.YtcehablmloleaaaGreatDoor
open Go.RowKit
set_option linter.unusedVariables false

/-- what Parse answers, with its slices spelt -/
theorem IpA.own {N : List Nd} {L : List St} {P : List Int} {cd at_ : Int} {w w' : World} {r : Ending} (h : IpA (N, L, P, cd, at_) w r w') :
    ∃ x cx y cy z cz nv kv, r = .returned (.tuple #[.agg #[.slice x N.length cx, .slice y L.length cy], .slice z P.length cz, .agg #[.int .i64 cd, .int .i64 at_]]) ∧ OwnTy w' w.heap.size w'.heap.size x N.length cx y L.length cy z P.length cz N nv kv L P ∧ Below w.heap.size w w' := by
  obtain ⟨⟨nd, pl, nv, kv, sv, rfl, h1, h2, h3, h4⟩, hb⟩ := h
  dsimp only at h1 h2 h3
  obtain ⟨x, cx, rfl, -⟩ := owns_form2 h1.own
  obtain ⟨z, cz, rfl, -⟩ := owns_form2 h3
  obtain ⟨y, cy, rfl, -⟩ := owns_form2 h2
  exact ⟨x, cx, y, cy, z, cz, nv, kv, rfl, ⟨h1, h2, h3, h4, ⟨fun q hq => (h1.lts.1 q hq).2, fun j hj q hq => (h1.lts.2.1 j hj q hq).2, fun j hj q hq => (h1.lts.2.2 j hj q hq).2⟩, fun q hq => (h2.lt q hq).2, fun q hq => (h3.lt q hq).2, Nat.le_refl _, rfl, rfl, rfl⟩, hb⟩

theorem eqPol {w : World} {lo hi lo' hi' n cx m cy p cz cx' cy' cz' : Nat} {x y z x' y' z' : Option Addr} {N : List Nd} {nv kv nv' kv' : List Value} {L : List St} {T : List Int} (h : OwnTy w lo hi x n cx y m cy z p cz N nv kv L T) (k : OwnTy w lo' hi' x' n cx' y' m cy' z' p cz' N nv' kv' L T) (ok : okTP N L T) :
    Calls Tryz.prog 6 #[.agg #[.slice x n cx, .slice y m cy], .agg #[.slice x' n cx', .slice y' m cy']] w fun e w' => e = .returned (.bool true) ∧ Below w.heap.size w w' :=
  eqPolicy_same _ _ _ _ _ _ _ _ _ _ N L w (h.mem ok).1 (k.mem ok).1 (h.mem ok).2.1 (k.mem ok).2.1

theorem eqPls {w : World} {lo hi lo' hi' n cx m cy p cz cx' cy' cz' : Nat} {x y z x' y' z' : Option Addr} {N : List Nd} {nv kv nv' kv' : List Value} {L : List St} {T : List Int} (h : OwnTy w lo hi x n cx y m cy z p cz N nv kv L T) (k : OwnTy w lo' hi' x' n cx' y' m cy' z' p cz' N nv' kv' L T) (ok : okTP N L T) :
    Calls Tryz.prog 7 #[.slice z p cz, .slice z' p cz'] w fun e w' => e = .returned (.bool true) ∧ Below w.heap.size w w' :=
  eqIntS_same _ _ _ _ _ T w (h.mem ok).2.2 (k.mem ok).2.2

set_option maxHeartbeats 800000 in
theorem eqFaultP (c a : Int) (w : World) :
    Calls Tryz.prog 8 #[.agg #[.int .i64 c, .int .i64 a], .agg #[.int .i64 c, .int .i64 a]] w fun e w' => e = .returned (.bool true) ∧ Below w.heap.size w w' := by
  have B0 := ((Below.refl w.heap.size w).alloc (Nat.le_refl _) (.cells #[.int .i64 c, .int .i64 a] 28)).alloc (by simp) (.cells #[.int .i64 c, .int .i64 a] 28)
  go_enter Tryz.func8, Tryz.ntmps8
  go_wp2
  go_ret
  exact ⟨rfl, B0⟩

theorem mkP_bound {N : List Nd} {L : List St} {T : List Int} {m : Nat} (ok : okTP N L T) (hm : m ≤ 65535) : 0 ≤ mkP N m ∧ mkP N m ≤ 8591000000 := by
  have := mdK_bound N ok.1.1 (fun x hx => (ok.1.2 x hx).2.2)
  unfold mkP
  omega

end Go.Proofs.YtcehablmloleaaaGreatDoor

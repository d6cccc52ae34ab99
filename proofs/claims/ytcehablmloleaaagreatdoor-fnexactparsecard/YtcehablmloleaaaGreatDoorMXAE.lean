/-
  Own, OWS, JT, CLN, StepC, STI. Own work.
-/
import Derived.Test.YtcehablmloleaaaGreatDoorMXAD
import Derived.Test.YtcehablmloleaaaGreatDoorMXAB
import Derived.Lib.SmallJoins
import Derived.Deep.RegionHeld3
namespace Go.Proofs.YtcehablmloleaaaGreatDoor
open Go.RowKit

set_option maxHeartbeats 1600000 in
theorem heldStringS_any (a : Option Addr) (n c : Nat) (k : Nat) (w : World) (h : Strs w a n c (marks k n)) (hk : k + n ≤ 35184372088832) :
    Calls Tryz.prog 45 #[.slice a n c, .int .i64 k] w fun e w' => e = .returned (.int .i64 ((k : Int) + n)) ∧ Below w.heap.size w w' := by
  go_enter Tryz.func45, Tryz.ntmps45
  go_wp2
  go_loopw [1, 5] (fun q i wr => ∃ j : Nat, j ≤ n ∧ i = .int .i64 j ∧ q = .int .i64 ((k : Int) + j) ∧ Below w.heap.size w wr) (fun _ i _ => n - (intOf i).toNat)
  case atStart => exact ⟨0, Nat.zero_le _, rfl, by go_num, Below.refl _ _⟩
  case round =>
    obtain ⟨j, hj, rfl, rfl, hb⟩ := hrel
    by_cases hlt : j < n
    · obtain ⟨b, off, ha, hbl, hc⟩ := (h.below hb (Nat.le_refl _)).cells j hlt
      rw [marks_nth k n j hlt] at hc
      subst ha
      have ilt : (j : Int) < (n : Int) := by omega
      go_wp2_with fail
      go_region_held3 (fun w' => w'.cell? ⟨b, off + j, none⟩ = some (.string (markS (k + j)))) (go_keep)
        ((go_at_call 43; refine (markText_int _ _ (by omega) (by omega)).mono ?_; rintro e w1 ⟨rfl, hb1⟩; rw [show ((k : Int) + (j : Int)).toNat = k + j from by omega]; have hq := (hb1.cell (p := ⟨b, off + j, none⟩) hbl).trans hc))
      go_wp2
      go_roundw
      case rel => exact ⟨j + 1, by omega, by go_num, by go_num, hb.drew.trans (hb1.mono hb.size)⟩
      case measure => simp [intOf]; omega
    · have e : j = n := by omega
      subst e
      go_wp2
      go_ret
      exact ⟨rfl, hb⟩

theorem heldStringS_int (a : Option Addr) (n c : Nat) (x : Int) (w : World) (h : Strs w a n c (marks x.toNat n)) (h0 : 0 ≤ x) (hk : x + n ≤ 35184372088832) :
    Calls Tryz.prog 45 #[.slice a n c, .int .i64 x] w fun e w' => e = .returned (.int .i64 (x + n)) ∧ Below w.heap.size w w' := by
  obtain ⟨k, rfl⟩ := Int.eq_ofNat_of_zero_le h0
  rw [Int.toNat_natCast] at h
  exact heldStringS_any a n c k w h (by omega)

end Go.Proofs.YtcehablmloleaaaGreatDoor

namespace Go.Proofs.YtcehablmloleaaaGreatDoor
open Go.RowKit
set_option linter.unusedVariables false

theorem Touch.wide {l h lo hi : Nat} {w w' : World} (t : Touch l h w w') (hd : (l = 0 ∧ h = 0) ∨ (lo ≤ l ∧ h ≤ hi)) : Touch lo hi w w' :=
  ⟨t.os, t.tape, t.output, t.size, fun k hk hd' => t.block k hk (by omega)⟩

/-- a slice of names of the call's own: what marking it may touch -/
theorem ownS_of {w : World} {lo hi m c : Nat} {a : Option Addr} {ss : List ByteArray} (h : w.ownsRow lo 9 1 (.slice a m c) m (ss.map Value.string)) (hs : ∀ s ∈ ss, s.size ≤ maxLen) (hl : ss.length = m) (hb : ∀ q, (Value.slice a m c).ownBlock = some q → q < hi) (hh : hi ≤ w.heap.size) :
    ∃ l u, OwnS w l u a m c ss ∧ ((l = 0 ∧ u = 0) ∨ (lo ≤ l ∧ u ≤ hi ∧ l < u)) ∧ (∀ q, (Value.slice a m c).ownBlock ≠ some q → q < l ∨ u ≤ q) := by
  have hsz : ∀ j, j < m → (nth ss j).size ≤ maxLen := fun j hj => by
    rw [nth_eq _ j (by omega)]; exact hs _ (List.getElem_mem _)
  rcases h.2 with ⟨hv, h0⟩ | ⟨g, cap, cur, hv, hlo, hg, h4⟩
  · simp only [Value.slice.injEq] at hv
    obtain ⟨rfl, rfl, rfl⟩ := hv
    exact ⟨0, 0, ⟨⟨h.1, .inl ⟨rfl, h0⟩⟩, (fun x hx => by cases hx), hsz, Nat.zero_le _⟩, .inl ⟨rfl, rfl⟩, fun q _ => .inr (Nat.zero_le _)⟩
  · have hv' := hv
    simp only [Value.slice.injEq] at hv'
    obtain ⟨rfl, -, rfl⟩ := hv'
    have hgh : g < hi := hb g rfl
    refine ⟨g, g + 1, ⟨⟨h.1, .inr ⟨g, _, cur, rfl, Nat.le_refl _, hg, h4⟩⟩, (fun x hx => by cases hx; exact Nat.lt_succ_self _), hsz, by omega⟩, .inr ⟨hlo, hgh, Nat.lt_succ_self _⟩, fun q hq => ?_⟩
    have : g ≠ q := fun e => hq (by rw [← e]; rfl)
    omega

end Go.Proofs.YtcehablmloleaaaGreatDoor

namespace Go.Proofs.YtcehablmloleaaaGreatDoor
open Go.RowKit
set_option linter.unusedVariables false

/-- the kids of a tree -/
def Ex.kids : Ex → List Ex
  | .un _ _ k => [k]
  | .bin _ _ l r => [l, r]
  | .ite _ c t e => [c, t, e]
  | _ => []

end Go.Proofs.YtcehablmloleaaaGreatDoor

namespace Go.Proofs.YtcehablmloleaaaGreatDoor
open Go.RowKit
set_option linter.unusedVariables false

set_option maxHeartbeats 2000000 in
set_option maxRecDepth 100000 in
theorem cloneC_any (a : Option Addr) (n c : Nat) (ss : List ByteArray) (w : World) (h : Strs w a n c ss) (hl : ss.length ≤ 1048576) :
    Calls Tryz.prog 99 #[.slice a n c] w fun e w' => (∃ x cx, e = .returned (.slice x ss.length cx) ∧ w'.ownsRow w.heap.size 9 1 (.slice x ss.length cx) ss.length (ss.map Value.string)) ∧ Below w.heap.size w w' := by
  obtain ⟨si, hsi, sz0, sz1, sz2⟩ := info_parts infoS
  have hn := h.len
  cases a with
  | none =>
    have h0 : n = 0 := by
      rcases Nat.eq_zero_or_pos n with q | q
      · exact q
      · obtain ⟨b, off, e, _⟩ := h.cells 0 q; cases e
    subst h0
    obtain rfl : ss = [] := List.eq_nil_of_length_eq_zero hn.symm
    clear h hl hn
    have q24 : ∀ (w : World) (a : Option Addr) (n c n' c' : Nat), (binOp .eql 47 (.slice a n c) (.slice none n' c')).run Tryz.prog w = .ok (.bool a.isNone) w := fun w a n c n' c' => Lib.run_eql_slice_nil w _ _ a n c n' c' Tryz.underlying47
    go_enter Tryz.func99, Tryz.ntmps99
    go_wp2_with fail
    go_ret
    exact ⟨⟨none, 0, rfl, World.ownsRow_nil _ _ _ _⟩, Below.refl _ _⟩
  | some ad =>
    have q24 : ∀ (w : World) (a : Option Addr) (n c n' c' : Nat), (binOp .eql 47 (.slice a n c) (.slice none n' c')).run Tryz.prog w = .ok (.bool a.isNone) w := fun w a n c n' c' => Lib.run_eql_slice_nil w _ _ a n c n' c' Tryz.underlying47
    have u24 : ∀ w, Sem.run Tryz.prog (underlying 47) w = .ok (TypeDesc.slice 9) w := run_underlying Tryz.underlying47
    have HS := hide h
    have HN := hide hn
    have hsm : n ≤ 1048576 := by omega
    clear h hn
    go_enter Tryz.func99, Tryz.ntmps99
    go_wp2_with (at_builtin; refine wpList_append_own _ rfl _ _ 47 rfl w.heap.size 9 si (.string ByteArray.empty) 1 16 Tryz.underlying47 hsi sz0 sz1 sz2 rfl (by decide) _ _ _ rfl (World.ownsRow_made w #[] 0 (Nat.le_refl _) (Nat.zero_le _) rfl) ad n c (ss.map Value.string) rfl ?qc1 ?qc2 ?qc3 ?qc4 ?qc5 ?qc6 ?_)
    case qc1 => rw [List.length_map, unhide HN]; omega
    case qc2 =>
      intro j u hj
      have hjn : j < n := by
        have := (List.getElem?_eq_some_iff.1 hj).1
        rw [List.length_map] at this
        rw [unhide HN]; exact this
      obtain ⟨b, off, e, hb, hc⟩ := (unhide HS).cells j hjn
      cases e
      rw [Addr.add_lit]
      refine Lib.cell?_alloc_some _ ?_
      rw [hc, ← hj, List.getElem?_map, List.getElem?_eq_getElem (by rw [← unhide HN]; exact hjn), nth_eq _ _ (by rw [← unhide HN]; exact hjn)]
      rfl
    case qc3 => intro u hu; obtain ⟨x, _, rfl⟩ := List.mem_map.1 hu; rfl
    case qc4 => unfold maxLen; omega
    case qc5 => omega
    case qc6 => simp
    intro v' w1 hown hgrow hnil
    have B1 := ((Below.refl _ w).alloc (Nat.le_refl _) (.cells #[] 9)).grown hgrow (by simp) (by intro k hk; simp [Value.ownBlock] at hk; omega)
    have hown2 : w1.ownsRow w.heap.size 9 1 v' n (ss.map Value.string) := by simpa using hown
    obtain ⟨x, cx, rfl, _⟩ := owns_form2 hown2
    clear hown hnil hgrow
    go_wp2_with fail
    go_ret
    have e := unhide HN
    subst e
    exact ⟨⟨x, cx, rfl, hown2⟩, B1⟩

theorem own_lowC {w : World} {base base' : Nat} {e : TypeId} {size : Nat} {v : Value} {n : Nat} {xs : List Value} (h : w.ownsRow base e size v n xs) (hb : base' ≤ base) : w.ownsRow base' e size v n xs := by
  refine ⟨h.1, ?_⟩
  rcases h.2 with h2 | ⟨g, cap, cur, hv, h3, h4⟩
  · exact .inl h2
  · exact .inr ⟨g, cap, cur, hv, Nat.le_trans hb h3, h4⟩

end Go.Proofs.YtcehablmloleaaaGreatDoor

namespace Go.Proofs.YtcehablmloleaaaGreatDoor
open Go.RowKit
set_option linter.unusedVariables false

/-- a call, as one step of a region that draws its order -/
theorem step_callR {P : Program} {ops : Array Oper} {o : Oper} {a : Act} {w : World} {K : Act → World → Prop} {Q : Exit → Act → World → Prop} {E : Prop} (hgd : o.guard = none) (f : FuncId) (fn : Func) (hf : P.funcs[f]? = some fn) (hname : (fn.name == "runtime.NumGoroutine") = false) (hb : fn.body.isNone = false) (x : Operand) (tys : Array TypeId)
    (ho : o.op = .call { callee := .value (.func f), args := #[x], argTypes := tys }) (v0 : Value) (hx : a.eval x = v0)
    (R : Value → World → Prop) (hc : Calls P f #[v0] w fun e w' => ∃ v, e = .returned v ∧ R v w') (h : ∀ v w', R v w' → K (a.put o.dst v) w') :
    if Region.wanted o (yielded ops a.tmps) = true then Oper.wp P o a w K Q else E := by
  have hw : Region.wanted o (yielded ops a.tmps) = true := by simp [Region.wanted, hgd]
  rw [if_pos hw]
  unfold Oper.wp
  have hrun : (execOp a.eval o).run P w = .ok (.enter f #[v0]) w := by
    subst hx
    have h1 : fn.name ≠ "runtime.NumGoroutine" := by simpa using hname
    have h2 : (callFunc f #[a.eval x]).run P w = .ok (.enter f #[a.eval x]) w := by
      have h3 : fn.body ≠ none := fun e => by rw [e] at hb; cases hb
      simp [callFunc, hf, h1, h3]
    simpa [execOp, ho, resolve, invoke, Act.eval, Result.andThen, go_sem] using h2
  rw [hrun, Oper.upon_enter]
  refine hc.mono ?_
  rintro e w' ⟨v, rfl, hr⟩
  exact h v w' hr

/-- a call with two arguments, as one step of a region that draws its order -/
theorem step_callR2 {P : Program} {ops : Array Oper} {o : Oper} {a : Act} {w : World} {K : Act → World → Prop} {Q : Exit → Act → World → Prop} {E : Prop} (hgd : o.guard = none) (f : FuncId) (fn : Func) (hf : P.funcs[f]? = some fn) (hname : (fn.name == "runtime.NumGoroutine") = false) (hb : fn.body.isNone = false) (x y : Operand) (tys : Array TypeId)
    (ho : o.op = .call { callee := .value (.func f), args := #[x, y], argTypes := tys }) (v0 v1 : Value) (hx : a.eval x = v0) (hy : a.eval y = v1)
    (R : Value → World → Prop) (hc : Calls P f #[v0, v1] w fun e w' => ∃ v, e = .returned v ∧ R v w') (h : ∀ v w', R v w' → K (a.put o.dst v) w') :
    if Region.wanted o (yielded ops a.tmps) = true then Oper.wp P o a w K Q else E := by
  have hw : Region.wanted o (yielded ops a.tmps) = true := by simp [Region.wanted, hgd]
  rw [if_pos hw]
  unfold Oper.wp
  have hrun : (execOp a.eval o).run P w = .ok (.enter f #[v0, v1]) w := by
    subst hx hy
    have h1 : fn.name ≠ "runtime.NumGoroutine" := by simpa using hname
    have h2 : (callFunc f #[a.eval x, a.eval y]).run P w = .ok (.enter f #[a.eval x, a.eval y]) w := by
      have h3 : fn.body ≠ none := fun e => by rw [e] at hb; cases hb
      simp [callFunc, hf, h1, h3]
    simpa [execOp, ho, resolve, invoke, Act.eval, Result.andThen, go_sem] using h2
  rw [hrun, Oper.upon_enter]
  refine hc.mono ?_
  rintro e w' ⟨v, rfl, hr⟩
  exact h v w' hr

end Go.Proofs.YtcehablmloleaaaGreatDoor

namespace Go.Proofs.YtcehablmloleaaaGreatDoor
open Go.RowKit
set_option linter.unusedVariables false

/-- a statement that is to be found -/
structure BoxC (p : Prop) : Prop where
  out : p

/-- what several ways come to is proved once -/
theorem cutC {P Q : Prop} (h : BoxC P → Q) (p : P) : Q := h ⟨p⟩

theorem step_invR {P : Program} {ops : Array Oper} {o : Oper} {a : Act} {w : World} {K : Act → World → Prop} {Q : Exit → Act → World → Prop} {E : Prop} (hgd : o.guard = none) (x : Operand) (name : String) (tys : Array TypeId) (ho : o.op = .call { callee := .invoke x name, args := #[], argTypes := tys }) (T : TypeId) (u : Value) (hx : a.eval x = .iface T u)
    (F : Nat) (hF : P.types.size + Made.depth = F) (f : FuncId) (rv : Value) (hm : ∀ w, (method F T u name).run P w = .ok (f, rv) w) (fn : Func) (hf : P.funcs[f]? = some fn) (hname : (fn.name == "runtime.NumGoroutine") = false) (hb : fn.body.isNone = false)
    (R : Value → World → Prop) (hc : Calls P f #[rv] w fun e w' => ∃ v, e = .returned v ∧ R v w') (h : ∀ v w', R v w' → K (a.put o.dst v) w') :
    if Region.wanted o (yielded ops a.tmps) = true then Oper.wp P o a w K Q else E := by
  have hw : Region.wanted o (yielded ops a.tmps) = true := by simp [Region.wanted, hgd]
  rw [if_pos hw]
  unfold Oper.wp
  have hrun : (execOp a.eval o).run P w = .ok (.enter f #[rv]) w := by
    have h1 : fn.name ≠ "runtime.NumGoroutine" := by simpa using hname
    have h2 : (callFunc f #[rv]).run P w = .ok (.enter f #[rv]) w := by
      have h3 : fn.body ≠ none := fun e => by rw [e] at hb; cases hb
      simp [callFunc, hf, h1, h3]
    have h4 : (callMethod (.iface T u) name #[]).run P w = .ok (.enter f #[rv]) w := by
      subst hF
      have : (method (P.types.size + 100) T u name).run P w = .ok (f, rv) w := hm w
      simpa [callMethod, Result.andThen, go_sem, this] using h2
    generalize a.eval = ρ at hx ⊢
    simp only [execOp, ho, resolve, invoke, Sem.run_bind, Sem.run_pure, Result.andThen_ok, List.map_toArray, List.map_nil, hx]
    exact h4
  rw [hrun, Oper.upon_enter]
  refine hc.mono ?_
  rintro e w' ⟨v, rfl, hr⟩
  exact h v w' hr

end Go.Proofs.YtcehablmloleaaaGreatDoor

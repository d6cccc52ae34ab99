/-
  append of a slice of strings to a slice of the call's own. Own work.
-/
import Derived.Test.YtnahfogbemfngaaGreatDoorOwn0
import Derived.Laws.AppendOwnNone
import Derived.Deep.RegionLaw
namespace Go.Proofs.YtnahfogbemfngaaGreatDoor
open Go.RowKit
set_option linter.unusedVariables false

theorem Strs.cellsAt {w : World} {ad : Addr} {n c : Nat} {ss : List ByteArray} (hq : Strs w (some ad) n c ss) : ∀ j u, (ss.map Value.string)[j]? = some u → w.cell? (ad.add j) = some u := fun j u hu => by
  rw [List.getElem?_map, Option.map_eq_some_iff] at hu
  obtain ⟨s, hs, rfl⟩ := hu
  have hj : j < ss.length := (List.getElem?_eq_some_iff.1 hs).1
  obtain ⟨b1, off1, ha, _, hc⟩ := hq.cells j (by have := hq.len; omega)
  simp only [Option.some.injEq] at ha
  subst ha
  have hadd : (⟨b1, off1, none⟩ : Addr).add j = ⟨b1, off1 + j, none⟩ := by by_cases e : j = 0 <;> simp [Addr.add, e]
  rw [hadd, hc, nth_eq _ j hj]
  rw [List.getElem?_eq_getElem hj] at hs
  cases hs; rfl

theorem append_strs {w : World} {ops : Array Oper} {rest : List Oper} {o : Oper} {a : Act} {Q : Exit → Act → World → Prop} (hgd : o.guard = none) (s x : Operand)
    (ho : o.op = .call { callee := .builtin .append, args := #[s, x], argTypes := #[23, 23] })
    (base : Nat) (v : Value) (n : Nat) (xs : List Value) (hs : a.eval s = v) (hown : w.ownsRow base 9 1 v n xs)
    (ad : Option Addr) (m c : Nat) (ss : List ByteArray) (hx : a.eval x = .slice ad m c) (hq : Strs w ad m c ss) (hnil : ad = none → c = 0)
    (hsz : n + m ≤ 1048576) (hbase : base ≤ w.heap.size)
    (h : ∀ v' w', w'.ownsRow base 9 1 v' (n + m) (xs ++ ss.map Value.string) → w.grownBy w' v.ownBlock → wpList Tryz.prog ops Q rest (a.put o.dst v') w') : wpList Tryz.prog ops Q (o :: rest) a w := by
  obtain ⟨i, hi, hz0, hz1, hz2⟩ := info_parts infoS
  cases ad with
  | none =>
    obtain rfl := hnil rfl
    have hm : m = 0 := by have := hq.cap; omega
    subst hm
    have hss : ss = [] := List.eq_nil_of_length_eq_zero (by have := hq.len; omega)
    subst hss
    refine wpList_append_own_none hgd s x 23 ho base 9 i 1 Tryz.underlying23 hi v n xs hs hown hx (h v w (by simpa using hown) ?_)
    exact ⟨rfl, rfl, rfl, Nat.le_refl _, fun _ _ _ => rfl⟩
  | some ad =>
    refine wpList_append_own _ hgd s x 23 ho base 9 i (.string ByteArray.empty) 1 16 Tryz.underlying23 hi hz0 hz1 hz2 rfl (by decide) v n xs hs hown ad m c (ss.map Value.string) hx ?_ hq.cellsAt ?_ ?_ ?_ hbase (fun v' w' h1 h2 _ => h v' w' h1 h2)
    · have := hq.len; simp; omega
    · intro u hu; obtain ⟨s, _, rfl⟩ := List.mem_map.1 hu; rfl
    · unfold maxLen; omega
    · omega

/-- the same, at a step of a region that draws its order -/
theorem step_append_strs {w : World} {ops : Array Oper} {o : Oper} {a : Act} {K : Act → World → Prop} {Q : Exit → Act → World → Prop} {E : Prop} (hgd : o.guard = none) (s x : Operand)
    (ho : o.op = .call { callee := .builtin .append, args := #[s, x], argTypes := #[23, 23] })
    (base : Nat) (v : Value) (n : Nat) (xs : List Value) (hs : a.eval s = v) (hown : w.ownsRow base 9 1 v n xs)
    (ad : Option Addr) (m c : Nat) (ss : List ByteArray) (hx : a.eval x = .slice ad m c) (hq : Strs w ad m c ss) (hnil : ad = none → c = 0)
    (hsz : n + m ≤ 1048576) (hbase : base ≤ w.heap.size)
    (h : ∀ v' w', w'.ownsRow base 9 1 v' (n + m) (xs ++ ss.map Value.string) → w.grownBy w' v.ownBlock → K (a.put o.dst v') w') :
    if Region.wanted o (yielded ops a.tmps) = true then Oper.wp Tryz.prog o a w K Q else E := by
  have hw : Region.wanted o (yielded ops a.tmps) = true := by simp [Region.wanted, hgd]
  rw [if_pos hw]
  obtain ⟨i, hi, hz0, hz1, hz2⟩ := info_parts infoS
  cases ad with
  | none =>
    obtain rfl := hnil rfl
    have hm : m = 0 := by have := hq.cap; omega
    subst hm
    have hss : ss = [] := List.eq_nil_of_length_eq_zero (by have := hq.len; omega)
    subst hss
    have hrun := run_append_owned_none (P := Tryz.prog) (w := w) base 23 o.type 9 i 1 Tryz.underlying23 hi v n xs hown
    unfold Oper.wp
    simp [execOp, ho, resolve, invoke, builtin, hs, hx, hrun, Result.andThen]
    exact h v w (by simpa using hown) ⟨rfl, rfl, rfl, Nat.le_refl _, fun _ _ _ => rfl⟩
  | some ad =>
    refine wp_append_own w s x 23 ho base 9 i (.string ByteArray.empty) 1 16 Tryz.underlying23 hi hz0 hz1 hz2 rfl (by decide) v n xs hs hown ad m c (ss.map Value.string) hx ?_ hq.cellsAt ?_ ?_ ?_ hbase (fun v' w' h1 h2 _ => h v' w' h1 h2)
    · have := hq.len; simp; omega
    · intro u hu; obtain ⟨s, _, rfl⟩ := List.mem_map.1 hu; rfl
    · unfold maxLen; omega
    · omega

/-- the nil of a slice of the call's own has no room -/
theorem owns_nil {w : World} {base n c : Nat} {x : Option Addr} {xs : List Value} (h : w.ownsRow base 9 1 (.slice x n c) n xs) : x = none → c = 0 := fun e => by
  rcases h.2 with ⟨hv, _⟩ | ⟨g, cap, cur, hv, _⟩
  · simp only [Value.slice.injEq] at hv; exact hv.2.2
  · subst e; simp only [Value.slice.injEq] at hv; cases hv.1

end Go.Proofs.YtnahfogbemfngaaGreatDoor

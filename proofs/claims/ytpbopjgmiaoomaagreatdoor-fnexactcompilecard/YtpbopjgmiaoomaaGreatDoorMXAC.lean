/-
  L3E, L3S, StepC, LawsE, Laws, WD, MemS, APS. Own work.
-/
import Derived.Test.YtpbopjgmiaoomaaGreatDoorMXAB
import Derived.Test.YtpbopjgmiaoomaaGreatDoorMXAA
import Derived.Test.YtpbopjgmiaoomaaGreatDoorMXAD
import Derived.Deep.RegionHeld3
import Derived.Test.YtpbopjgmiaoomaaGreatDoorMXAE
import Derived.Laws.AppendOwnNone
namespace Go.Proofs.YtpbopjgmiaoomaaGreatDoor
open Go.RowKit
set_option linter.unusedVariables false

theorem tlED (x s : ByteArray) : (x.toList == s.toList) = true ↔ x = s := by
  rw [beq_iff_eq]
  constructor
  · intro h
    rw [ByteArray.toList_eq, ByteArray.toList_eq] at h
    cases x; cases s
    simp only [ByteArray.mk.injEq]
    exact Array.toList_inj.1 h
  · rintro rfl; rfl

theorem nth_at {ss : List ByteArray} {j : Nat} (h : j < ss.length) : nth ss j = ss[j] := by simp [nth, h]

theorem eq_iff_nth {A B : List ByteArray} (hl : A.length = B.length) : A = B ↔ ∀ j, j < A.length → nth A j = nth B j := by
  constructor
  · rintro rfl j _; rfl
  · intro h
    refine List.ext_getElem hl (fun j h1 h2 => ?_)
    have := h j h1
    rwa [nth_at h1, nth_at h2] at this

end Go.Proofs.YtpbopjgmiaoomaaGreatDoor

namespace Go.Proofs.YtpbopjgmiaoomaaGreatDoor
open Go.RowKit
set_option linter.unusedVariables false

open Classical in
/-- their parts are the same -/
noncomputable def eqP (num num' : Int) (text text' : ByteArray) (A A' : List ByteArray) : Bool := decide (num = num' ∧ text = text' ∧ A = A')

set_option maxRecDepth 100000 in
set_option maxHeartbeats 6400000 in
open Classical in
theorem l3same_any (c0 num : Int) (text : ByteArray) (a : Option Addr) (n c : Nat) (A : List ByteArray) (c0' num' : Int) (text' : ByteArray) (a' : Option Addr) (n' c' : Nat) (A' : List ByteArray) (w : World) (h : Strs w a n c A) (h' : Strs w a' n' c' A') :
    Calls Tryz.prog 48 #[.agg #[.int .i64 c0, .int .i64 num, .string text, .slice a n c], .agg #[.int .i64 c0', .int .i64 num', .string text', .slice a' n' c']] w fun r w' => r = .returned (.bool (eqP num num' text text' A A')) ∧ Below w.heap.size w w' := by
  have B0 := ((Below.refl w.heap.size w).alloc (Nat.le_refl _) (.cells #[.int .i64 c0, .int .i64 num, .string text, .slice a n c] 106)).alloc (by simp) (.cells #[.int .i64 c0', .int .i64 num', .string text', .slice a' n' c'] 106)
  have R0 := (Row.new w #[.int .i64 c0, .int .i64 num, .string text, .slice a n c] 106).alloc (.cells #[.int .i64 c0', .int .i64 num', .string text', .slice a' n' c'] 106)
  have R1 := Row.new (w.alloc (.cells #[.int .i64 c0, .int .i64 num, .string text, .slice a n c] 106)) #[.int .i64 c0', .int .i64 num', .string text', .slice a' n' c'] 106
  simp only [World.size_alloc] at R1
  have H0 := h.below B0 (Nat.le_refl _)
  have H1 := h'.below B0 (Nat.le_refl _)
  have s1 : n ≤ 9223372036854775807 := by have := h.cap; have := h.small; unfold maxLen at this; omega
  have s2 : n' ≤ 9223372036854775807 := by have := h'.cap; have := h'.small; unfold maxLen at this; omega
  have HA := hide h.len
  have HB := hide h'.len
  clear h h'
  by_cases hn : num = num'
  · have en : (num != num') = false := by rw [hn]; simp
    by_cases ht : text = text'
    · have et : (text.toList != text'.toList) = false := by rw [ht]; simp
      have et2 : (text.toList == text'.toList) = true := by rw [ht]; simp
      by_cases hl : n = n'
      · have el : ((n : Int) != (n' : Int)) = false := by rw [hl]; simp
        have HE := hide (eq_iff_nth (A := A) (B := A') (by rw [← unhide HA, ← unhide HB, hl]))
        have HQ := hide (show eqP num num' text text' A A' = decide (A = A') by simp [eqP, hn, ht])
        have Hnm := hide hl
        clear hn ht hl
        go_enter Tryz.func48, Tryz.ntmps48
        go_wp2_with fail
        generalize ((w.alloc (.cells #[.int .i64 c0, .int .i64 num, .string text, .slice a n c] 106)).alloc (.cells #[.int .i64 c0', .int .i64 num', .string text', .slice a' n' c'] 106)) = W1 at B0 R0 R1 H0 H1 ⊢
        go_loopw [31] (fun i wr => ∃ k : Nat, k ≤ n ∧ i = .int .i64 k ∧ Below W1.heap.size W1 wr ∧ Hid (∀ j, j < k → nth A j = nth A' j)) (fun i _ => n - (intOf i).toNat)
        case atStart => exact ⟨0, by omega, rfl, Below.refl _ _, hide (fun j h => absurd h (by omega))⟩
        case round =>
          obtain ⟨k, hk, rfl, D1, Ha⟩ := hrel
          have B1 := B0.trans (D1.mono B0.size)
          by_cases hlt : k < n
          · have ilt : (k : Int) < (n : Int) := by omega
            have ilm : (k : Int) < (n' : Int) := by have := unhide Hnm; omega
            obtain ⟨b1, o1, rfl, hl1, c1⟩ := (H0.below D1 (Nat.le_refl _)).cells k hlt
            obtain ⟨b2, o2, rfl, hl2, c2⟩ := (H1.below D1 (Nat.le_refl _)).cells k (by have := unhide Hnm; omega)
            have q3 : wr.cell? ⟨w.heap.size + 1, 3, none⟩ = some (.slice (some ⟨b2, o2, none⟩) n' c') := (R1.after D1 (Nat.le_refl _)).cell 3
            have Hno := hide (show nth A k ≠ nth A' k → decide (A = A') = false from fun e => decide_eq_false (fun e' => e ((unhide HE).1 e' k (by rw [← unhide HA]; exact hlt))))
            have HN := hide (show nth A k = nth A' k → ∀ j, j < k + 1 → nth A j = nth A' j from fun e j h' => by
              by_cases ej : j = k
              · subst ej; exact e
              · exact unhide Ha j (by omega))
            have Hlt := hide hlt
            clear Ha hlt
            generalize nth A k = x at c1 Hno HN
            generalize nth A' k = y at c2 Hno HN
            by_cases hxy : x = y
            · have exy : (y.toList == x.toList) = true := (tlED y x).2 hxy.symm
              have nxy : (y.toList != x.toList) = false := by rw [bne, exy]; rfl
              have HN2 := hide (unhide HN hxy)
              clear hxy Hno HN
              go_wp2_with fail
              go_roundw
              case rel => exact ⟨k + 1, unhide Hlt, by go_num, D1, HN2⟩
              case measure => have := unhide Hlt; simp [intOf]; omega
            · have exy : (y.toList == x.toList) = false := by rw [Bool.eq_false_iff]; exact fun h => hxy ((tlED y x).1 h).symm
              have nxy : (y.toList != x.toList) = true := by rw [bne, exy]; rfl
              have HX := hide (unhide Hno hxy)
              clear hxy Hno HN
              go_wp2_with fail
              go_ret
              exact ⟨ret_bool ((unhide HQ).trans (unhide HX)).symm, B1⟩
          · have e : k = n := by omega
            subst e
            have HX := hide (show decide (A = A') = true from decide_eq_true ((unhide HE).2 (fun j hj => unhide Ha j (by have := unhide HA; omega))))
            go_wp2_with fail
            go_ret
            exact ⟨ret_bool ((unhide HQ).trans (unhide HX)).symm, B1⟩
      · have el : ((n : Int) != (n' : Int)) = true := bne_iff_ne.2 (by omega)
        have HX := hide (show eqP num num' text text' A A' = false from decide_eq_false (fun e => hl (by rw [unhide HA, unhide HB, e.2.2])))
        clear hn ht hl
        go_enter Tryz.func48, Tryz.ntmps48
        go_wp2_with fail
        go_ret
        exact ⟨ret_bool (unhide HX).symm, B0⟩
    · have et : (text.toList != text'.toList) = true := by rw [bne, Bool.eq_false_iff.2 (fun k => ht ((tlED _ _).1 k))]; rfl
      have et2 : (text.toList == text'.toList) = false := Bool.eq_false_iff.2 (fun k => ht ((tlED _ _).1 k))
      have HX := hide (show eqP num num' text text' A A' = false from decide_eq_false (fun e => ht e.2.1))
      clear hn ht
      go_enter Tryz.func48, Tryz.ntmps48
      go_wp2_with fail
      go_ret
      exact ⟨ret_bool (unhide HX).symm, B0⟩
  · have en : (num != num') = true := bne_iff_ne.2 hn
    have HX := hide (show eqP num num' text text' A A' = false from decide_eq_false (fun e => hn e.1))
    clear hn
    go_enter Tryz.func48, Tryz.ntmps48
    go_wp2_with fail
    go_ret
    exact ⟨ret_bool (unhide HX).symm, B0⟩

end Go.Proofs.YtpbopjgmiaoomaaGreatDoor

namespace Go.Proofs.YtpbopjgmiaoomaaGreatDoor
open Go.RowKit
set_option linter.unusedVariables false

theorem retOf {P : Program} {f : FuncId} {args : Array Value} {w : World} {A : Ending → World → Prop} (h : Calls P f args w A) (hr : ∀ e w', A e w' → ∃ v, e = .returned v) : Calls P f args w fun e w' => ∃ v, e = .returned v ∧ A (.returned v) w' :=
  h.mono fun e w' ha => by
    obtain ⟨v, rfl⟩ := hr e w' ha
    exact ⟨v, rfl, ha⟩

theorem ending_inj {v u : Value} (h : Ending.returned v = .returned u) : v = u := by cases h; rfl

/-- a call with two arguments, as one step of a region that draws its order -/
theorem step_callR2 {P : Program} {ops : Array Oper} {o : Oper} {a : Act} {w : World} {K : Act → World → Prop} {Q : Exit → Act → World → Prop} {E : Prop} (hgd : o.guard = none) (f : FuncId) (fn : Func) (hf : P.funcs[f]? = some fn) (hname : (fn.name == "runtime.NumGoroutine") = false) (hb : fn.body.isNone = false) (x y : Operand) (tys : Array TypeId)
    (ho : o.op = .call { callee := .value (.func f), args := #[x, y], argTypes := tys }) (v0 v1 : Value) (hx : a.eval x = v0) (hy : a.eval y = v1)
    (R : Value → World → Prop) (hc : Calls P f #[v0, v1] w fun e w' => ∃ v, e = .returned v ∧ R v w') (h : ∀ v w', R v w' → K (a.put o.dst v) w') :
    if Region.wanted o (yielded ops a.tmps) = true then Oper.wp P o a w K Q else E := by
  have hw : Region.wanted o (yielded ops a.tmps) = true := by simp [Region.wanted, hgd]
  rw [if_pos hw]
  unfold Oper.wp
  have hrun : (execOp a.eval o).run P w = .ok (.enter f #[v0, v1]) w := by
    subst hx hy
    have h1 : fn.name ≠ "runtime.NumGoroutine" := by simpa using hname
    have h2 : (callFunc f #[a.eval x, a.eval y]).run P w = .ok (.enter f #[a.eval x, a.eval y]) w := by
      have h3 : fn.body ≠ none := fun e => by rw [e] at hb; cases hb
      simp [callFunc, hf, h1, h3]
    simpa [execOp, ho, resolve, invoke, Act.eval, Result.andThen, go_sem] using h2
  rw [hrun, Oper.upon_enter]
  refine hc.mono ?_
  rintro e w' ⟨v, rfl, hr⟩
  exact h v w' hr

end Go.Proofs.YtpbopjgmiaoomaaGreatDoor

namespace Go.Proofs.YtpbopjgmiaoomaaGreatDoor
open Go.RowKit

set_option maxHeartbeats 800000 in
theorem eqStringS_same (a a' : Option Addr) (n c c' : Nat) (ss : List ByteArray) (w : World) (h : Strs w a n c ss) (h' : Strs w a' n c' ss) :
    Calls Tryz.prog 89 #[.slice a n c, .slice a' n c'] w fun e w' => e = .returned (.bool true) ∧ Below w.heap.size w w' := by
  have hn : n ≤ 9223372036854775807 := by have := h.cap; have := h.small; unfold maxLen at this; omega
  go_enter Tryz.func89, Tryz.ntmps89
  go_wp2
  go_loopw [5] (fun i wr => ∃ k : Nat, k ≤ n ∧ i = .int .i64 k ∧ Below w.heap.size w wr) (fun i _ => n - (intOf i).toNat)
  case atStart => exact ⟨0, Nat.zero_le _, rfl, Below.refl _ _⟩
  case round =>
    obtain ⟨k, hk, rfl, hb⟩ := hrel
    by_cases hlt : k < n
    · obtain ⟨b, off, ha, _, hc⟩ := (h.below hb (Nat.le_refl _)).cells k hlt
      obtain ⟨b', off', ha', _, hc'⟩ := (h'.below hb (Nat.le_refl _)).cells k hlt
      subst ha
      subst ha'
      have i3 : (k : Int) < (n : Int) := by omega
      go_wp2
      go_quiet (fail)
      go_wp2
      go_roundw
      case rel => exact ⟨k + 1, by omega, by go_num, below_drewN hb _⟩
      case measure => simp [intOf]; omega
    · go_wp2
      go_ret
      exact ⟨rfl, hb⟩

end Go.Proofs.YtpbopjgmiaoomaaGreatDoor

namespace Go.Proofs.YtpbopjgmiaoomaaGreatDoor
open Go.RowKit

set_option maxHeartbeats 800000 in
theorem szStringS_any (a : Option Addr) (n c : Nat) (ss : List ByteArray) (L : Int) (w : World) (h : Strs w a n c ss) (hL : -1 ≤ L) (hL' : L ≤ 1048576) :
    Calls Tryz.prog 68 #[.slice a n c, .int .i64 L] w fun e w' => (∃ r : Int, e = .returned (.int .i64 r) ∧ (r = -1 ∨ 0 ≤ r ∧ r + n + tot ss = L)) ∧ w' = w := by
  have hn : n ≤ 9223372036854775807 := by have := h.cap; have := h.small; unfold maxLen at this; omega
  have Hl := hide h.len
  by_cases h0 : L - n < 0
  · go_enter Tryz.func68, Tryz.ntmps68
    go_wp2
    go_ret
    exact ⟨⟨_, rfl, .inl rfl⟩, rfl⟩
  · have h0' : 0 ≤ L - n := by omega
    have h0b : (L - n < 0) = False := by simp; omega
    go_enter Tryz.func68, Tryz.ntmps68
    go_wp2
    go_loop [1, 4, 5] (fun l _ i => ∃ k : Nat, k ≤ n ∧ i = .int .i64 k ∧ l = .int .i64 (L - n - tot (ss.take k)) ∧ 0 ≤ L - n - tot (ss.take k)) (fun _ _ i => n - (intOf i).toNat)
    case atStart => exact ⟨0, Nat.zero_le _, rfl, by simp [tot], by simp [tot]; omega⟩
    case round =>
      obtain ⟨k, hk, rfl, rfl, hp⟩ := hrel
      by_cases hlt : k < n
      · obtain ⟨b, off, ha', _, hc⟩ := h.cells k hlt
        have hsz := h.sizes k hlt
        subst ha'
        unfold maxLen at hsz
        have Ht := hide (tot_take_succ ss k (by have := unhide Hl; omega))
        generalize hT : tot (ss.take k) = T at *
        have HT := hide hT
        clear hT
        by_cases hneg : L - n - T - ((nth ss k).size : Int) < 0
        · go_wp2
          go_ret
          exact ⟨⟨_, rfl, .inl rfl⟩, rfl⟩
        · have hpos : 0 ≤ L - n - T - ((nth ss k).size : Int) := by omega
          go_wp2
          go_round
          case rel => exact ⟨k + 1, by omega, by go_num, by rw [unhide Ht]; go_num, by rw [unhide Ht]; omega⟩
          case measure => simp [intOf]; omega
      · go_wp2
        go_ret
        have e1 : ss.take k = ss := List.take_of_length_le (by have := unhide Hl; omega)
        rw [e1] at hp ⊢
        exact ⟨⟨_, rfl, .inr ⟨hp, by omega⟩⟩, rfl⟩

set_option maxHeartbeats 800000 in
theorem toStringS_any (a : Option Addr) (n c : Nat) (ss : List ByteArray) (w : World) (h : Strs w a n c ss) (hsm : n ≤ 1048576) :
    Calls Tryz.prog 76 #[.slice a n c] w fun e w' => e = .returned (.slice (some ⟨w.heap.size, 0, none⟩) n n) ∧ Below w.heap.size w w' ∧ w'.ownsRow w.heap.size 9 1 (.slice (some ⟨w.heap.size, 0, none⟩) n n) n (ss.map Value.string) := by
  obtain ⟨i, hi, hz0, hz1, hz2⟩ := info_parts infoS
  go_enter Tryz.func76, Tryz.ntmps76
  go_wp2_with (at_make; refine wpList_make_full _ rfl _ _ 51 rfl w.heap.size 9 i (.string ByteArray.empty) 1 Tryz.underlying51 hi hz0 hz1 _ _ _ _ n rfl rfl rfl rfl ?b2 ?b3 ?b4 ?_)
  case b2 => rw [hz2]; omega
  case b3 => unfold maxLen; omega
  case b4 => exact Nat.le_refl _
  intro w1 hown hgrow
  have hb1 : Below w.heap.size w w1 := (Below.refl _ _).grown hgrow (Nat.le_refl _) (fun k hk => by cases hk)
  clear hgrow
  have hown1 : w1.ownsRow w.heap.size 9 1 (.slice (some ⟨w.heap.size, 0, none⟩) n n) n ((half ss n 0).map Value.string) := by
    rw [half_zero, List.map_replicate, ← toList_madeCells_one, ← Nat.mul_one n]
    simpa using hown
  clear hown
  go_wp2
  go_loopw [4] (fun i wr => ∃ k : Nat, k ≤ n ∧ i = .int .i64 k ∧ wr.ownsRow w.heap.size 9 1 (.slice (some ⟨w.heap.size, 0, none⟩) n n) n ((half ss n k).map Value.string) ∧ Below w.heap.size w wr) (fun i _ => n - (intOf i).toNat)
  case atStart => exact ⟨0, Nat.zero_le _, rfl, hown1, hb1⟩
  case round =>
    obtain ⟨k, hk, rfl, hown, hb⟩ := hrel
    clear hown1 hb1
    by_cases hlt : k < n
    · obtain ⟨b, off, ha', _, hc⟩ := (h.below hb (Nat.le_refl _)).cells k hlt
      subst ha'
      have hfz := hown.frozenAt k
      have hck := (hown.cellAt k (by omega)).trans (half_at ss n k hlt)
      have Hst := hide (hown.stored k (.string (nth ss k))).1
      have Hown := hide hown
      clear hown
      go_wp2
      go_roundw
      case rel => exact ⟨k + 1, by omega, by go_num, by rw [← half_set]; exact unhide Hst, hb.setCell (Nat.le_refl _) _⟩
      case measure => simp [intOf]; omega
    · have e : k = n := by omega
      subst e
      go_wp2
      go_ret
      exact ⟨rfl, hb, by rw [half_full ss k h.len] at hown; exact hown⟩

end Go.Proofs.YtpbopjgmiaoomaaGreatDoor

namespace Go.Proofs.YtpbopjgmiaoomaaGreatDoor
open Go.RowKit

/-- a row that lies at an address, as long as said -/
def Wd (w : World) (x : Addr) (n : Nat) (t : TypeId) : Prop := ∃ q cs, x = ⟨q, 0, none⟩ ∧ Row w q cs t ∧ cs.size = n

theorem Wd.below {w w' : World} {B n : Nat} {x : Addr} {t : TypeId} (h : Wd w x n t) (hb : Below B w w') (hB : w.heap.size ≤ B) : Wd w' x n t := by
  obtain ⟨q, cs, e, r, z⟩ := h
  exact ⟨q, cs, e, r.after hb hB, z⟩

theorem Wd.setFar {w : World} {n : Nat} {x : Addr} {t : TypeId} (h : Wd w x n t) {p : Addr} (hp : p.block ≠ x.block) (u : Value) : Wd (w.setCell p u) x n t := by
  obtain ⟨q, cs, rfl, r, z⟩ := h
  exact ⟨q, cs, rfl, r.setFar (fun e => hp e.symm) u, z⟩

theorem Wd.of_owns {w : World} {B n : Nat} {x : Addr} {t : TypeId} {xs : List Value} (h : w.ownsRow B t 1 (.slice (some x) n n) n xs) : Wd w x n t := by
  rcases h.2 with ⟨q, _⟩ | ⟨g, cap, cur, q, _, hg, _, _, hz, _⟩
  · cases q
  · cases q
    exact ⟨g, cur, rfl, ⟨hg⟩, by omega⟩

end Go.Proofs.YtpbopjgmiaoomaaGreatDoor

namespace Go.Proofs.YtpbopjgmiaoomaaGreatDoor
open Go.RowKit
set_option linter.unusedVariables false

theorem Strs.news {w : World} {b off n c : Nat} {ss : List ByteArray} (hq : Strs w (some ⟨b, off, none⟩) n c ss) : ∀ j u, (ss.map Value.string)[j]? = some u → w.cell? ((⟨b, off, none⟩ : Addr).add j) = some u := fun j u hu => by
  rw [List.getElem?_map, Option.map_eq_some_iff] at hu
  obtain ⟨s, hs, rfl⟩ := hu
  have hj : j < ss.length := (List.getElem?_eq_some_iff.1 hs).1
  obtain ⟨b1, off1, ha, _, hc⟩ := hq.cells j (by have := hq.len; omega)
  simp only [Option.some.injEq, Addr.mk.injEq, and_true] at ha
  obtain ⟨rfl, rfl⟩ := ha
  have hadd : (⟨b, off, none⟩ : Addr).add j = ⟨b, off + j, none⟩ := by by_cases e : j = 0 <;> simp [Addr.add, e]
  rw [hadd, hc, nth_eq _ j hj]
  rw [List.getElem?_eq_getElem hj] at hs
  cases hs; rfl

end Go.Proofs.YtpbopjgmiaoomaaGreatDoor

namespace Go.Proofs.YtpbopjgmiaoomaaGreatDoor
open Go.RowKit
set_option linter.unusedVariables false

theorem Strs.newsG {w : World} {ad : Addr} {n c : Nat} {ss : List ByteArray} (hq : Strs w (some ad) n c ss) : ∀ j u, (ss.map Value.string)[j]? = some u → w.cell? (ad.add j) = some u := fun j u hu => by
  have hj : j < ss.length := by
    have := (List.getElem?_eq_some_iff.1 hu).1
    simpa using this
  obtain ⟨b1, off1, ha, _, _⟩ := hq.cells j (by have := hq.len; omega)
  cases ha
  exact Strs.news hq j u hu

set_option maxRecDepth 100000 in
theorem wpList_append_strs {ops : Array Oper} {rest : List Oper} {o : Oper} {act : Act} {Q : Exit → Act → World → Prop} {w : World} (hgd : o.guard = none) (s x : Operand) (ho : o.op = .call { callee := .builtin .append, args := #[s, x], argTypes := #[51, 51] }) (base : Nat) (v : Value) (k : Nat) (xs : List Value) (hs : act.eval s = v) (hown : w.ownsRow base 9 1 v k xs) (a : Option Addr) (n c : Nat) (ss : List ByteArray) (hx : act.eval x = .slice a n c) (h : Strs w a n c ss) (hc : a = none → c = 0) (hk : k + n ≤ 1048576) (hb : base ≤ w.heap.size)
    (hK : ∀ v' w', w'.ownsRow base 9 1 v' (k + n) (xs ++ ss.map Value.string) → Below base w w' → wpList Tryz.prog ops Q rest (act.put o.dst v') w') : wpList Tryz.prog ops Q (o :: rest) act w := by
  obtain ⟨i, hi, hz0, hz1, hz2⟩ := info_parts infoS
  cases a with
  | none =>
    have h0 : n = 0 := by
      rcases Nat.eq_zero_or_pos n with q | q
      · exact q
      · obtain ⟨b9, o9, e9, _⟩ := h.cells 0 q; cases e9
    obtain rfl := hc rfl
    subst h0
    obtain rfl : ss = [] := List.eq_nil_of_length_eq_zero h.len.symm
    exact wpList_append_own_none hgd s x 51 ho base 9 i 1 Tryz.underlying51 hi v k xs hs hown hx (hK v w (by simpa using hown) (Below.refl _ _))
  | some ad =>
    refine wpList_append_own w hgd s x 51 ho base 9 i (.string ByteArray.empty) 1 16 Tryz.underlying51 hi hz0 hz1 hz2 rfl (by decide) v k xs hs hown ad n c (ss.map Value.string) hx ?_ (Strs.newsG h) ?_ ?_ ?_ hb ?_
    · rw [List.length_map, h.len]; omega
    · intro u hu; obtain ⟨s, _, rfl⟩ := List.mem_map.1 hu; rfl
    · unfold maxLen; omega
    · omega
    · intro v' w' hown' hgrow _
      exact hK v' w' hown' ((Below.refl _ _).grown hgrow hb (fun q hq => (hown.lt q hq).1))

end Go.Proofs.YtpbopjgmiaoomaaGreatDoor

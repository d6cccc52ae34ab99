/-
  RVG, RVL, YQ. Own work.
-/
import Derived.Test.YtogenboibgddaaaGreatDoorMXAO
import Derived.Test.YtogenboibgddaaaGreatDoorMXAL
import Derived.Test.YtogenboibgddaaaGreatDoorYO
import Derived.Laws.AppendOwnNone
namespace Go.Proofs.YtogenboibgddaaaGreatDoor
open Go.RowKit
set_option linter.unusedVariables false

variable {aS aO aZ aW : Addr} {B mb lb : Nat} {ap : Option Addr} {np cp : Nat} {iv : Value} {a1 : Option Addr} {n1 c1 : Nat} {a2 : Option Addr} {n2 c2 : Nat} {s : Int} {R : Rq} {S : Nat} {at_ : Nat} {st : List Vv} {sl : List (Option Vv)} {sa : Option Addr} {sc : Nat} {xs ys : List Value} {w w0 : World} {P : List Vl}

set_option maxRecDepth 100000 in
set_option maxHeartbeats 6400000 in
theorem take_op22 (h : McO B mb lb (.slice ap np cp) iv (.slice a1 n1 c1) (.slice a2 n2 c2) s R S at_ st sl sa sc xs ys w) (hl : Below w0.heap.size w0 w) (hB : w0.heap.size ≤ B) (hn : st.length ≤ 100) (hat : at_ ≤ 20000) (k : Nat) :
    Calls Tryz.prog 55 #[.pointer (some ⟨mb, 0, none⟩), .agg #[.int .i64 22, .int .i64 k]] w (fun r w' => r = .returned .nilIface ∧ Behind B mb lb (.slice ap np cp) iv (.slice a1 n1 c1) (.slice a2 n2 c2) s R S (.slice sa st.length sc) (k) (st) (sl) w w') := by
  have wk := wrap_at hat
  have CI := (Below.refl w.heap.size w).alloc (Nat.le_refl _) (.cells #[.int .i64 22, .int .i64 k] 87)
  have CJ := (Below.refl _ (w.setCell ⟨mb, 11, none⟩ (.int .i64 ((at_ : Int) + 1)))).alloc (Nat.le_refl _) (.cells #[.int .i64 22, .int .i64 k] 87)
  have M0 := (h.goto ((at_ : Int) + 1)).below CJ
  have e11 : (w.alloc (.cells #[.int .i64 22, .int .i64 k] 87)).cell? ⟨mb, 11, none⟩ = some (.int .i64 at_) := (h.below CI).row.cell 11
  have ef := fun j => (h.below CI).row.frozen j
  have hmb := h.row.lt
  have hBm := h.low.1
  have LX := (hl.setCell (p := ⟨mb, 11, none⟩) (by show w0.heap.size ≤ mb; omega) (.int .i64 ((at_ : Int) + 1))).alloc (by simpa using hl.size) (.cells #[.int .i64 22, .int .i64 k] 87)
  have KX : Kpt (ownM mb lb (.slice sa st.length sc)) w ((w.setCell ⟨mb, 11, none⟩ (.int .i64 ((at_ : Int) + 1))).alloc (.cells #[.int .i64 22, .int .i64 k] 87)) := Kpt.trans ((Kpt.refl _ w).setCell (p := ⟨mb, 11, none⟩) (fun _ => .inl rfl) (.int .i64 ((at_ : Int) + 1))) (Kpt.of_below (S := fun _ => False) CJ) (fun _ _ h => h.elim)
  have RI := Row.new (w.setCell ⟨mb, 11, none⟩ (.int .i64 ((at_ : Int) + 1))) #[.int .i64 22, .int .i64 k] 87
  simp only [World.size_setCell] at RI
  obtain ⟨g0, g1, g2, g3, g4, g5, g6, g7, g8, g9, g10, g11, g12, g13, g14⟩ := row15 M0.row
  have gf := fun j => M0.row.frozen j
  have HE := hide (((h.goto ((at_ : Int) + 1)).goto k).below ((Below.refl _ _).alloc (Nat.le_refl _) (.cells #[.int .i64 22, .int .i64 k] 87)))
  have K0 : Kpt (ownM mb lb (.slice sa st.length sc)) w ((w.setCell ⟨mb, 11, none⟩ (.int .i64 ((at_ : Int) + 1))).setCell ⟨mb, 11, none⟩ (.int .i64 k)) := ((Kpt.refl _ w).setCell (p := ⟨mb, 11, none⟩) (fun _ => .inl rfl) _).setCell (p := ⟨mb, 11, none⟩) (fun _ => .inl rfl) _
  have HK := hide (K0.trans (Kpt.of_below (S := fun _ => False) ((Below.refl _ _).alloc (Nat.le_refl _) (.cells #[.int .i64 22, .int .i64 k] 87))) (fun _ _ h => h.elim))
  have HM := hide M0
  have HH := hide h
  clear h M0
  go_enter Tryz.func55, Tryz.ntmps55
  go_wp2_with fail
  go_ret
  exact ⟨rfl, sa, sc, xs, ys, unhide HE, unhide HK, fun q hq => .inl hq⟩

set_option maxRecDepth 100000 in
set_option maxHeartbeats 6400000 in
theorem take_op24 (h : McO B mb lb (.slice ap np cp) iv (.slice a1 n1 c1) (.slice a2 n2 c2) s R S at_ st sl sa sc xs ys w) (hl : Below w0.heap.size w0 w) (hB : w0.heap.size ≤ B) (hn : st.length ≤ 100) (hat : at_ ≤ 20000)  :
    Calls Tryz.prog 55 #[.pointer (some ⟨mb, 0, none⟩), .agg #[.int .i64 24, .int .i64 0]] w (fun r w' => r = .returned .nilIface ∧ Row w' mb (mcV (.slice ap np cp) s iv R (.slice a1 n1 c1) (.slice a2 n2 c2) (.slice sa st.length sc) (.slice (some ⟨lb, 0, none⟩) S S) ((at_ : Int) + 1) 1 0 (.slice none 0 0)) 63 ∧ Kpt (ownM mb lb (.slice sa st.length sc)) w w') := by
  have wk := wrap_at hat
  have CI := (Below.refl w.heap.size w).alloc (Nat.le_refl _) (.cells #[.int .i64 24, .int .i64 0] 87)
  have CJ := (Below.refl _ (w.setCell ⟨mb, 11, none⟩ (.int .i64 ((at_ : Int) + 1)))).alloc (Nat.le_refl _) (.cells #[.int .i64 24, .int .i64 0] 87)
  have M0 := (h.goto ((at_ : Int) + 1)).below CJ
  have e11 : (w.alloc (.cells #[.int .i64 24, .int .i64 0] 87)).cell? ⟨mb, 11, none⟩ = some (.int .i64 at_) := (h.below CI).row.cell 11
  have ef := fun j => (h.below CI).row.frozen j
  have hmb := h.row.lt
  have hBm := h.low.1
  have LX := (hl.setCell (p := ⟨mb, 11, none⟩) (by show w0.heap.size ≤ mb; omega) (.int .i64 ((at_ : Int) + 1))).alloc (by simpa using hl.size) (.cells #[.int .i64 24, .int .i64 0] 87)
  have KX : Kpt (ownM mb lb (.slice sa st.length sc)) w ((w.setCell ⟨mb, 11, none⟩ (.int .i64 ((at_ : Int) + 1))).alloc (.cells #[.int .i64 24, .int .i64 0] 87)) := Kpt.trans ((Kpt.refl _ w).setCell (p := ⟨mb, 11, none⟩) (fun _ => .inl rfl) (.int .i64 ((at_ : Int) + 1))) (Kpt.of_below (S := fun _ => False) CJ) (fun _ _ h => h.elim)
  have RI := Row.new (w.setCell ⟨mb, 11, none⟩ (.int .i64 ((at_ : Int) + 1))) #[.int .i64 24, .int .i64 0] 87
  simp only [World.size_setCell] at RI
  obtain ⟨g0, g1, g2, g3, g4, g5, g6, g7, g8, g9, g10, g11, g12, g13, g14⟩ := row15 M0.row
  have gf := fun j => M0.row.frozen j
  have A1 := ((h.goto ((at_ : Int) + 1)).row.set 12 (.int .i64 1)).after ((Below.refl _ _).alloc (Nat.le_refl _) (.cells #[.int .i64 24, .int .i64 0] 87)) (Nat.le_refl _)
  have A2 := (((h.goto ((at_ : Int) + 1)).row.set 12 (.int .i64 1)).set 13 (.int .i64 0)).after ((Below.refl _ _).alloc (Nat.le_refl _) (.cells #[.int .i64 24, .int .i64 0] 87)) (Nat.le_refl _)
  have f12 := fun j => A1.frozen j
  have f13 := fun j => A2.frozen j
  have c13 := (show _ = some (Value.int .i64 0) from A1.cell 13)
  have c14 := (show _ = some (Value.slice none 0 0) from A2.cell 14)
  have R4 := ((((h.goto ((at_ : Int) + 1)).row.set 12 (.int .i64 1)).set 13 (.int .i64 0)).set 14 (.slice none 0 0)).after ((Below.refl _ _).alloc (Nat.le_refl _) (.cells #[.int .i64 24, .int .i64 0] 87)) (Nat.le_refl _)
  have HE := hide (show Row _ mb (mcV (.slice ap np cp) s iv R (.slice a1 n1 c1) (.slice a2 n2 c2) (.slice sa st.length sc) (.slice (some ⟨lb, 0, none⟩) S S) ((at_ : Int) + 1) 1 0 (.slice none 0 0)) 63 from R4)
  have K0 : Kpt (ownM mb lb (.slice sa st.length sc)) w ((((w.setCell ⟨mb, 11, none⟩ (.int .i64 ((at_ : Int) + 1))).setCell ⟨mb, 12, none⟩ (.int .i64 1)).setCell ⟨mb, 13, none⟩ (.int .i64 0)).setCell ⟨mb, 14, none⟩ (.slice none 0 0)) := ((((Kpt.refl _ w).setCell (p := ⟨mb, 11, none⟩) (fun _ => .inl rfl) _).setCell (p := ⟨mb, 12, none⟩) (fun _ => .inl rfl) _).setCell (p := ⟨mb, 13, none⟩) (fun _ => .inl rfl) _).setCell (p := ⟨mb, 14, none⟩) (fun _ => .inl rfl) _
  have HK := hide (K0.trans (Kpt.of_below (S := fun _ => False) ((Below.refl _ _).alloc (Nat.le_refl _) (.cells #[.int .i64 24, .int .i64 0] 87))) (fun _ _ h => h.elim))
  clear R4 A1 A2
  have HM := hide M0
  have HH := hide h
  clear h M0
  go_enter Tryz.func55, Tryz.ntmps55
  go_wp2_with fail
  go_ret
  exact ⟨rfl, unhide HE, unhide HK⟩


end Go.Proofs.YtogenboibgddaaaGreatDoor

namespace Go.Proofs.YtogenboibgddaaaGreatDoor
open Go.RowKit
set_option linter.unusedVariables false

variable {aS aO aZ aW : Addr} {B mb lb : Nat} {ap : Option Addr} {np cp : Nat} {iv : Value} {a1 : Option Addr} {n1 c1 : Nat} {a2 : Option Addr} {n2 c2 : Nat} {s : Int} {R : Rq} {S : Nat} {at_ : Nat} {st : List Vv} {sl : List (Option Vv)} {sa : Option Addr} {sc : Nat} {xs ys : List Value} {w w0 : World} {P : List Vl}

/-- behind an operator -/
def OpA (aS aO aZ aW : Addr) (B mb lb : Nat) (pv iv q1 q2 : Value) (s : Int) (R : Rq) (S : Nat) (sv : Value) (az : Int) (zs : List Vv) (sl : List (Option Vv)) (sa : Option Addr) (sc : Nat) (ys : List Value) (o : Ev) (w : World) (r : Ending) (w' : World) : Prop := match o with
  | .ok u => r = .returned .nilIface ∧ Behind B mb lb pv iv q1 q2 s R S sv az (zs ++ [u]) sl w w'
  | .err c => (r = .returned (errV aS aO aZ aW c) ∧ 1 ≤ c ∧ c ≤ 4) ∧ (∃ ws, McO B mb lb pv iv q1 q2 s R S az zs sl sa sc ws ys w') ∧ Kpt (ownM mb lb sv) w w'

set_option maxRecDepth 100000 in
set_option maxHeartbeats 6400000 in
theorem operate_any (op : Int) (ho : 5 ≤ op ∧ op ≤ 21) (az : Int) (zs : List Vv) (l : Nat) (o : Ev) (hn : zs.length ≤ 100) (hr : Hid (Calls Tryz.prog 112 #[.pointer (some ⟨mb, 0, none⟩), .int .i64 (op + 3)] w fun r w' => ∃ x e, r = .returned (.tuple #[x, e]) ∧ ResA aS aO aZ aW (gdM mb lb sa) o x e w' ∧ ∃ ws, McO B mb lb (.slice ap np cp) iv (.slice a1 n1 c1) (.slice a2 n2 c2) s R S az zs sl sa sc ws ys w' ∧ Kpt (fun k => k = mb) w w')) :
    Calls Tryz.prog 92 #[.pointer (some ⟨mb, 0, none⟩), .int .i64 op] w (OpA aS aO aZ aW B mb lb (.slice ap np cp) iv (.slice a1 n1 c1) (.slice a2 n2 c2) s R S (.slice sa l sc) az zs sl sa sc ys o w) := by
  have wo : IntKind.i64.wrap (op + 3) = op + 3 := by
    simp [IntKind.wrap, IntKind.bits, IntKind.signed]
    omega
  clear ho
  go_enter Tryz.func92, Tryz.ntmps92
  go_wp2_with fail
  refine (unhide hr).mono ?_
  rintro r w1 ⟨x, e, rfl, hx, ws, M1, K1⟩
  cases o with
  | err c =>
    obtain ⟨rfl, hc⟩ := hx
    obtain ⟨ea, he⟩ := errV_form (aS := aS) (aO := aO) (aZ := aZ) (aW := aW) hc
    have HE := hide he
    rw [he]
    have HM := hide M1
    have HK := hide (show Kpt (ownM mb lb (.slice sa l sc)) w w1 from (Kpt.refl _ w).trans K1 (fun q _ h => .inl h))
    clear he M1 K1
    dsimp only
    go_wp2_with fail
    go_ret
    exact ⟨⟨by rw [unhide HE]; rfl, hc⟩, ⟨ws, unhide HM⟩, unhide HK⟩
  | ok u =>
    obtain ⟨rfl, hv⟩ := hx
    obtain ⟨t, y, rfl⟩ := hv.form
    have HM := hide M1
    have HV := hide hv
    have HK := hide K1
    have HP := hide (push_any mb B zs.length sc _ _ _ _ _ _ _ _ _ _ _ sa ws t y w1 M1.row M1.stk (by omega) M1.low.1)
    clear M1 K1 hv
    dsimp only
    go_wp2_with fail
    refine (unhide HP).mono ?_
    rintro r w2 ⟨rfl, g, cap, R2, O2, hg, K2⟩
    have HE := hide ((unhide HM).push (unhide HV) R2 O2 hg K2)
    have HK2 := hide (show Kpt (ownM mb lb (.slice sa l sc)) w w2 from ((Kpt.refl _ w).trans (unhide HK) (fun q _ h => .inl h)).trans K2 (fun q _ h => h.elim .inl (fun e => .inr (.inr ((own_any _ _ _ _ _).trans e)))))
    have HN := hide (show ∀ q, (Value.slice (some ⟨g, 0, none⟩) (zs.length + 1) cap).ownBlock = some q → (Value.slice sa l sc).ownBlock = some q ∨ w.heap.size ≤ q from fun q hq => by
      have e : g = q := by simpa [Value.ownBlock] using hq
      subst e
      exact hg.imp (fun h => (own_any _ _ _ _ _).trans h) (fun h => Nat.le_trans (unhide HK).size h))
    clear HP R2 O2 hg K2 HM HV HK
    dsimp only
    go_wp2_with fail
    go_ret
    refine ⟨rfl, some ⟨g, 0, none⟩, cap, _, ys, unhide HE, unhide HK2, ?_⟩
    rw [List.length_append]
    exact unhide HN

set_option maxRecDepth 100000 in
set_option maxHeartbeats 6400000 in
theorem take_op (h : McO B mb lb (.slice ap np cp) iv (.slice a1 n1 c1) (.slice a2 n2 c2) s R S at_ st sl sa sc xs ys w) (hl : Below w0.heap.size w0 w) (hB : w0.heap.size ≤ B) (hn : st.length ≤ 100) (hat : at_ ≤ 20000) (op : Int) (ho : 5 ≤ op ∧ op ≤ 21) (zs : List Vv) (o : Ev) (hzl : zs.length ≤ 100) (hr : Hid (∀ w1, Kpt (fun k => k = mb) w w1 → McO B mb lb (.slice ap np cp) iv (.slice a1 n1 c1) (.slice a2 n2 c2) s R S ((at_ : Int) + 1) st sl sa sc xs ys w1 → Calls Tryz.prog 112 #[.pointer (some ⟨mb, 0, none⟩), .int .i64 (op + 3)] w1 fun r w' => ∃ x e, r = .returned (.tuple #[x, e]) ∧ ResA aS aO aZ aW (gdM mb lb sa) o x e w' ∧ ∃ ws, McO B mb lb (.slice ap np cp) iv (.slice a1 n1 c1) (.slice a2 n2 c2) s R S ((at_ : Int) + 1) zs sl sa sc ws ys w' ∧ Kpt (fun k => k = mb) w1 w')) :
    Calls Tryz.prog 55 #[.pointer (some ⟨mb, 0, none⟩), .agg #[.int .i64 op, .int .i64 0]] w (OpA aS aO aZ aW B mb lb (.slice ap np cp) iv (.slice a1 n1 c1) (.slice a2 n2 c2) s R S (.slice sa st.length sc) ((at_ : Int) + 1) zs sl sa sc ys o w) := by
  have wk := wrap_at hat
  have CI := (Below.refl w.heap.size w).alloc (Nat.le_refl _) (.cells #[.int .i64 op, .int .i64 0] 87)
  have CJ := (Below.refl _ (w.setCell ⟨mb, 11, none⟩ (.int .i64 ((at_ : Int) + 1)))).alloc (Nat.le_refl _) (.cells #[.int .i64 op, .int .i64 0] 87)
  have M0 := (h.goto ((at_ : Int) + 1)).below CJ
  have e11 : (w.alloc (.cells #[.int .i64 op, .int .i64 0] 87)).cell? ⟨mb, 11, none⟩ = some (.int .i64 at_) := (h.below CI).row.cell 11
  have ef := fun j => (h.below CI).row.frozen j
  have hmb := h.row.lt
  have hBm := h.low.1
  have LX := (hl.setCell (p := ⟨mb, 11, none⟩) (by show w0.heap.size ≤ mb; omega) (.int .i64 ((at_ : Int) + 1))).alloc (by simpa using hl.size) (.cells #[.int .i64 op, .int .i64 0] 87)
  have KX : Kpt (ownM mb lb (.slice sa st.length sc)) w ((w.setCell ⟨mb, 11, none⟩ (.int .i64 ((at_ : Int) + 1))).alloc (.cells #[.int .i64 op, .int .i64 0] 87)) := Kpt.trans ((Kpt.refl _ w).setCell (p := ⟨mb, 11, none⟩) (fun _ => .inl rfl) (.int .i64 ((at_ : Int) + 1))) (Kpt.of_below (S := fun _ => False) CJ) (fun _ _ h => h.elim)
  have RI := Row.new (w.setCell ⟨mb, 11, none⟩ (.int .i64 ((at_ : Int) + 1))) #[.int .i64 op, .int .i64 0] 87
  simp only [World.size_setCell] at RI
  have n1 : op ≠ 1 := by omega
  have n2 : op ≠ 2 := by omega
  have n3 : op ≠ 3 := by omega
  have n4 : op ≠ 4 := by omega
  have n22 : op ≠ 22 := by omega
  have n23 : op ≠ 23 := by omega
  have n24 : op ≠ 24 := by omega
  have n25 : op ≠ 25 := by omega
  have KM : Kpt (fun k => k = mb) w ((w.setCell ⟨mb, 11, none⟩ (.int .i64 ((at_ : Int) + 1))).alloc (.cells #[.int .i64 op, .int .i64 0] 87)) := Kpt.trans (Kpt.setCell (S := fun k => k = mb) (Kpt.refl _ w) (p := ⟨mb, 11, none⟩) (fun _ => rfl) (.int .i64 ((at_ : Int) + 1))) (Kpt.of_below (S := fun _ => False) CJ) (fun _ _ h => h.elim)
  have HC := hide (operate_any (aS := aS) (aO := aO) (aZ := aZ) (aW := aW) op ho ((at_ : Int) + 1) zs st.length o hzl (hide (unhide hr _ KM M0)))
  clear ho hr
  have HM := hide M0
  have HH := hide h
  clear h M0
  go_enter Tryz.func55, Tryz.ntmps55
  go_wp2_with fail
  refine (unhide HC).mono ?_
  intro r w1 hr
  cases o with
  | ok u =>
    obtain ⟨rfl, sa', sc', xs', ys', M1, K1, N1⟩ := hr
    have HE := hide M1
    have HK := hide (KX.trans K1 (fun q _ h => h))
    have HN := hide (show ∀ q, (Value.slice sa' (zs ++ [u]).length sc').ownBlock = some q → (Value.slice sa st.length sc).ownBlock = some q ∨ w.heap.size ≤ q from fun q hq => (N1 q hq).imp_right (fun h => Nat.le_trans KX.size h))
    clear M1 K1 N1
    dsimp only
    go_wp2_with fail
    go_ret
    exact ⟨rfl, sa', sc', xs', ys', unhide HE, unhide HK, unhide HN⟩
  | err c =>
    obtain ⟨⟨rfl, hc⟩, ⟨ws, M1⟩, K1⟩ := hr
    obtain ⟨ea, he⟩ := errV_form (aS := aS) (aO := aO) (aZ := aZ) (aW := aW) hc
    have HE := hide he
    rw [he]
    have HM2 := hide M1
    have HK := hide (KX.trans K1 (fun q _ h => h))
    clear he M1 K1
    dsimp only
    go_wp2_with fail
    go_ret
    exact ⟨⟨by rw [unhide HE]; rfl, hc⟩, ⟨ws, unhide HM2⟩, unhide HK⟩


end Go.Proofs.YtogenboibgddaaaGreatDoor

namespace Go.Proofs.YtogenboibgddaaaGreatDoor
open Go.RowKit Go.Lib
set_option linter.unusedVariables false

theorem Ints.cellsAt {w : World} {ad : Addr} {n c : Nat} {L : List Int} (h : Ints w (some ad) n c L) : ∀ j u, (intsV L)[j]? = some u → w.cell? (ad.add j) = some u := by
  intro j u hu
  rw [intsV, List.getElem?_map] at hu
  cases hj : L[j]? with
  | none => rw [hj] at hu; cases hu
  | some x =>
    rw [hj] at hu
    simp only [Option.map_some, Option.some.injEq] at hu
    obtain ⟨hjl, hx⟩ := List.getElem?_eq_some_iff.1 hj
    obtain ⟨b, off, ha, _, hc⟩ := h.cells j hjl
    cases ha
    have hadd : (⟨b, off, none⟩ : Addr).add j = ⟨b, off + j, none⟩ := by unfold Addr.add; split <;> simp_all
    rw [hadd, hc, hx]
    exact congrArg some hu

/-- append of numbers that lie somewhere to numbers of the call's own -/
theorem append_ints {w : World} {ops : Array Oper} {rest : List Oper} {o : Oper} {a : Act} {Q : Exit → Act → World → Prop} (hgd : o.guard = none) (s x : Operand)
    (ho : o.op = .call { callee := .builtin .append, args := #[s, x], argTypes := #[77, 77] })
    (base : Nat) (v : Value) (n : Nat) (xs : List Value) (hs : a.eval s = v) (hown : w.ownsRow base 3 1 v n xs)
    (ad : Option Addr) (m c : Nat) (L : List Int) (hx : a.eval x = .slice ad m c) (hq : Ints w ad m c L) (hnil : ad = none → c = 0)
    (hsz : n + m ≤ 1048576) (hbase : base ≤ w.heap.size)
    (h : ∀ v' w', w'.ownsRow base 3 1 v' (n + m) (xs ++ intsV L) → w.grownBy w' v.ownBlock → wpList Tryz.prog ops Q rest (a.put o.dst v') w') : wpList Tryz.prog ops Q (o :: rest) a w := by
  obtain ⟨i, hi, hz0, hz1, hz2⟩ := info_parts infoI
  cases ad with
  | none =>
    obtain rfl := hnil rfl
    have hL : L = [] := by
      cases L with
      | nil => rfl
      | cons y L =>
        obtain ⟨b, off, hn, _⟩ := hq.cells 0 (by simp)
        cases hn
    subst hL
    have hm : m = 0 := by have := hq.len; simpa using this.symm
    subst hm
    refine wpList_append_own_none hgd s x 77 ho base 3 i 1 Tryz.underlying77 hi v n xs hs hown hx (h v w (by simpa [intsV] using hown) ?_)
    exact ⟨rfl, rfl, rfl, Nat.le_refl _, fun _ _ _ => rfl⟩
  | some ad =>
    refine wpList_append_own _ hgd s x 77 ho base 3 i (.int .i64 0) 1 8 Tryz.underlying77 hi hz0 hz1 hz2 rfl (by decide) v n xs hs hown ad m c (intsV L) hx ?_ hq.cellsAt ?_ ?_ ?_ hbase (fun v' w' h1 h2 _ => h v' w' h1 h2)
    · have := hq.len; simp [intsV]; omega
    · intro u hu; obtain ⟨s, _, rfl⟩ := List.mem_map.1 hu; rfl
    · unfold maxLen; omega
    · omega

theorem Row.grown {w w' : World} {b : Nat} {cs : Array Value} {t : TypeId} {x : Option Nat} (h : Row w b cs t) (hg : w.grownBy w' x) (hx : some b ≠ x) : Row w' b cs t := ⟨(hg.block b h.lt hx).trans h.out⟩

/-- what is one's own, where its block is as it was -/
theorem owns_block {w w' : World} {lo e n c : Nat} {x : Option Addr} {xs : List Value} (h : w.ownsRow lo e 1 (.slice x n c) n xs) (hb : ∀ q, lo ≤ q → q < w.heap.size → x = some ⟨q, 0, none⟩ → w'.heap[q]? = w.heap[q]?) : w'.ownsRow lo e 1 (.slice x n c) n xs := by
  have hlt := h.lt
  obtain ⟨h0, h1⟩ := h
  refine ⟨h0, ?_⟩
  rcases h1 with h1 | ⟨g, cap, cur, hv, hg, hc, rest⟩
  · exact .inl h1
  · simp only [Value.slice.injEq] at hv
    have hl := (hlt g (by simp [Value.ownBlock, hv.1])).2
    exact .inr ⟨g, cap, cur, by simp [hv], hg, (hb g hg hl hv.1).trans hc, rest⟩

/-- two lists of numbers of the call's own, apart -/
def CpA (w : World) (kn : Bool) (st sl : List Int) (e : Ending) (w' : World) : Prop := ∃ x c y d, e = .returned (.agg #[.bool kn, .slice x st.length c, .slice y sl.length d]) ∧ w'.ownsRow w.heap.size 3 1 (.slice x st.length c) st.length (intsV st) ∧ w'.ownsRow w.heap.size 3 1 (.slice y sl.length d) sl.length (intsV sl) ∧ (∀ p q, x = some p → y = some q → p.block ≠ q.block) ∧ Below w.heap.size w w'

set_option maxRecDepth 100000 in
set_option maxHeartbeats 6400000 in
theorem sCopy_any (kn : Bool) (st sl : List Int) (ta tb : Option Addr) (tn tc tm td : Nat) (w : World) (h1 : Ints w ta tn tc st) (h2 : Ints w tb tm td sl) (n1 : ta = none → tc = 0) (n2 : tb = none → td = 0) :
    Calls Tryz.prog 65 #[.agg #[.bool kn, .slice ta tn tc, .slice tb tm td]] w fun e w' => CpA w kn st sl e w' := by
  have B1 := (Below.refl w.heap.size w).alloc (Nat.le_refl _) (.cells #[.bool kn, .slice ta tn tc, .slice tb tm td] 79)
  have B2 := B1.alloc B1.size (.cells #[.bool false, .slice none 0 0, .slice none 0 0] 79)
  have B3 := B2.alloc B2.size (.cells #[.bool kn, .slice none 0 0, .slice none 0 0] 79)
  have HI1 := hide (h1.below B3 (Nat.le_refl _))
  have HI2 := hide (h2.below B3 (Nat.le_refl _))
  have hs1 := h1.small
  have hs2 := h2.small
  have HL1 := hide h1.len
  have HL2 := hide h2.len
  have R1 := ((Row.new w #[.bool kn, .slice ta tn tc, .slice tb tm td] 79).alloc (.cells #[.bool false, .slice none 0 0, .slice none 0 0] 79)).alloc (.cells #[.bool kn, .slice none 0 0, .slice none 0 0] 79)
  have R2 := (Row.new (w.alloc (.cells #[.bool kn, .slice ta tn tc, .slice tb tm td] 79)) #[.bool false, .slice none 0 0, .slice none 0 0] 79).alloc (.cells #[.bool kn, .slice none 0 0, .slice none 0 0] 79)
  have R3 := Row.new ((w.alloc (.cells #[.bool kn, .slice ta tn tc, .slice tb tm td] 79)).alloc (.cells #[.bool false, .slice none 0 0, .slice none 0 0] 79)) #[.bool kn, .slice none 0 0, .slice none 0 0] 79
  rw [World.size_alloc] at R2
  rw [World.size_alloc, World.size_alloc] at R3
  have hz3 : w.heap.size + 3 ≤ (((w.alloc (.cells #[.bool kn, .slice ta tn tc, .slice tb tm td] 79)).alloc (.cells #[.bool false, .slice none 0 0, .slice none 0 0] 79)).alloc (.cells #[.bool kn, .slice none 0 0, .slice none 0 0] 79)).heap.size := by simp
  have HB3 := hide B3
  have HH2 := hide h2
  clear h1 h2 B1 B2 B3
  go_enter Tryz.func65, Tryz.ntmps65
  go_wp2_with (first
    | (at_builtin; refine append_ints rfl _ _ rfl (w.heap.size + 3) (.slice none 0 0) 0 [] rfl (World.ownsRow_nil _ _ _ _) ta tn tc st rfl (unhide HI1) n1 (by omega) (by simp) ?_; intro v3 w3 ow3 hg3; rw [Nat.zero_add, List.nil_append] at ow3; obtain ⟨x3, c3, rfl⟩ := owns_form ow3; have T1 := R1.grown hg3 (by simp [Value.ownBlock]); have T2 := R2.grown hg3 (by simp [Value.ownBlock]); have T3 := R3.grown hg3 (by simp [Value.ownBlock]); obtain ⟨u0, u1, u2⟩ := rowC T1; obtain ⟨v0, v1, v2⟩ := rowC T3; have f1 := T3.frozen 1; have f2 := T3.frozen 2; have T4 := T3.set 1 (.slice x3 tn c3); simp only [List.setIfInBounds_toArray, List.set_cons_zero, List.set_cons_succ] at T4; have T5 := T1.setFar (p := ⟨w.heap.size + 1 + 1, 1, none⟩) (by show w.heap.size ≠ w.heap.size + 1 + 1; omega) (.slice x3 tn c3); have T6 := T2.setFar (p := ⟨w.heap.size + 1 + 1, 1, none⟩) (by show w.heap.size + 1 ≠ w.heap.size + 1 + 1; omega) (.slice x3 tn c3); obtain ⟨s0, s1, s2⟩ := rowC T4; obtain ⟨p0, p1, p2⟩ := rowC T5; have B3' := (unhide HB3).grown hg3 (Nat.le_trans (by omega) hz3) (fun q hq => by cases hq); have B4 := B3'.setCell (p := ⟨w.heap.size + 1 + 1, 1, none⟩) (by show w.heap.size ≤ w.heap.size + 1 + 1; omega) (.slice x3 tn c3); have HI2' := hide ((unhide HH2).below B4 (Nat.le_refl _)); have hz3' := Nat.le_trans hz3 hg3.size; clear u0 u1 R1 R2 R3)
    | (at_builtin; refine append_ints rfl _ _ rfl w3.heap.size (.slice none 0 0) 0 [] rfl (World.ownsRow_nil _ _ _ _) tb tm td sl rfl (unhide HI2') n2 (by omega) (by simp) ?_; intro v5 w5 ow5 hg5; rw [Nat.zero_add, List.nil_append] at ow5; obtain ⟨x5, c5, rfl⟩ := owns_form ow5; have U4 := T4.grown hg5 (by simp [Value.ownBlock]); have U6 := T6.grown hg5 (by simp [Value.ownBlock]); have V4 := U4.set 2 (.slice x5 tm c5); simp only [List.setIfInBounds_toArray, List.set_cons_zero, List.set_cons_succ] at V4; have V6 := U6.setFar (p := ⟨w.heap.size + 1 + 1, 2, none⟩) (by show w.heap.size + 1 ≠ w.heap.size + 1 + 1; omega) (.slice x5 tm c5); obtain ⟨y0, y1, y2⟩ := rowC U4; have yf := U4.frozen 2; obtain ⟨z0, z1, z2⟩ := rowC V4; obtain ⟨r0, r1, r2⟩ := rowC V6; have g0 := V6.frozen 0; have g1 := V6.frozen 1; have g2 := V6.frozen 2; have HU4 := hide U4; have HV6 := hide V6; clear T1 T2 T3 T4 T5 T6 U4 U6 V4 V6 s0 s1 s2 p0 p1 p2 u2 v0 v1 v2 f1 f2)
    | fail)
  have V6 := unhide HV6
  have W6 := ((V6.set 0 (.bool kn)).set 1 (.slice x3 tn c3)).set 2 (.slice x5 tm c5)
  simp only [List.setIfInBounds_toArray, List.set_cons_zero, List.set_cons_succ] at W6
  obtain ⟨a0, a1, a2⟩ := rowC W6
  have hfar : ∀ q, w.heap.size + 3 ≤ q → ((((w5.setCell ⟨w.heap.size + 1 + 1, 2, none⟩ (.slice x5 tm c5)).setCell ⟨w.heap.size + 1, 0, none⟩ (.bool kn)).setCell ⟨w.heap.size + 1, 1, none⟩ (.slice x3 tn c3)).setCell ⟨w.heap.size + 1, 2, none⟩ (.slice x5 tm c5)).heap[q]? = w5.heap[q]? := fun q hq => by
    rw [heap_setCell_other _ _ _ _ (by show q ≠ w.heap.size + 1; omega), heap_setCell_other _ _ _ _ (by show q ≠ w.heap.size + 1; omega), heap_setCell_other _ _ _ _ (by show q ≠ w.heap.size + 1; omega), heap_setCell_other _ _ _ _ (by show q ≠ w.heap.size + 1 + 1; omega)]
  have B5 := B4.grown hg5 (Nat.le_trans (by omega) (Nat.le_trans hz3' (by simp))) (fun q hq => by cases hq)
  have B6 := (((B5.setCell (p := ⟨w.heap.size + 1 + 1, 2, none⟩) (by show w.heap.size ≤ w.heap.size + 1 + 1; omega) (.slice x5 tm c5)).setCell (p := ⟨w.heap.size + 1, 0, none⟩) (by show w.heap.size ≤ w.heap.size + 1; omega) (.bool kn)).setCell (p := ⟨w.heap.size + 1, 1, none⟩) (by show w.heap.size ≤ w.heap.size + 1; omega) (.slice x3 tn c3)).setCell (p := ⟨w.heap.size + 1, 2, none⟩) (by show w.heap.size ≤ w.heap.size + 1; omega) (.slice x5 tm c5)
  have ow3' := owns_block (w' := (((w5.setCell ⟨w.heap.size + 1 + 1, 2, none⟩ (.slice x5 tm c5)).setCell ⟨w.heap.size + 1, 0, none⟩ (.bool kn)).setCell ⟨w.heap.size + 1, 1, none⟩ (.slice x3 tn c3)).setCell ⟨w.heap.size + 1, 2, none⟩ (.slice x5 tm c5)) ow3 (fun q hq hl hx => by
    rw [hfar q hq, hg5.block q (by simpa using hl) (by simp [Value.ownBlock]), heap_setCell_other _ _ _ _ (by show q ≠ w.heap.size + 1 + 1; omega)])
  have ow5' := owns_block (w' := (((w5.setCell ⟨w.heap.size + 1 + 1, 2, none⟩ (.slice x5 tm c5)).setCell ⟨w.heap.size + 1, 0, none⟩ (.bool kn)).setCell ⟨w.heap.size + 1, 1, none⟩ (.slice x3 tn c3)).setCell ⟨w.heap.size + 1, 2, none⟩ (.slice x5 tm c5)) ow5 (fun q hq hl hx => hfar q (by omega))
  have hap : ∀ p q, x3 = some p → x5 = some q → p.block ≠ q.block := fun p q hp hq e => by
    have h3 := (ow3.lt p.block (by rw [hp]; rfl)).2
    have h5 := (ow5.lt q.block (by rw [hq]; rfl)).1
    omega
  have hl1 := unhide HL1
  have hl2 := unhide HL2
  subst hl1 hl2
  exact bodyPost_ret (v := .agg #[.bool kn, .slice x3 st.length c3, .slice x5 sl.length c5]) (by simp [results, Tryz.results65, go_sem, a0, a1, a2]) rfl ⟨x3, c3, x5, c5, rfl, ownsRow_low' ow3' (by omega), ownsRow_low' ow5' (by omega), hap, B6⟩

end Go.Proofs.YtogenboibgddaaaGreatDoor

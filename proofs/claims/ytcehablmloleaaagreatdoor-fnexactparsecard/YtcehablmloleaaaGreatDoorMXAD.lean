/-
  Mark, Own0, OwnM, Slices0, Slices, Ints0, Tab0, VPD, QA. Own work.
-/
import Derived.Test.YtcehablmloleaaaGreatDoorMXAC
import Derived.Test.YtcehablmloleaaaGreatDoorNames
import Derived.Test.YtcehablmloleaaaGreatDoorMXAB
import Derived.RegionTactic
import Derived.ChangeAlike
import Derived.Deep.QuietTactic
import Derived.BigQuiet
import Derived.Deep.Draws
import Derived.Lib.ItoaNum


namespace Go.Proofs.YtcehablmloleaaaGreatDoor
open Go.RowKit

/-- Outside the blocks lo .. hi - 1 nothing that was there has turned. -/
structure Touch (lo hi : Nat) (w w' : World) : Prop where
  os : w'.os = w.os
  tape : w'.tape = w.tape
  output : w'.output = w.output
  size : w.heap.size ≤ w'.heap.size
  block : ∀ k, k < w.heap.size → (k < lo ∨ hi ≤ k) → w'.heap[k]? = w.heap[k]?

theorem Touch.refl (lo hi : Nat) (w : World) : Touch lo hi w w := ⟨rfl, rfl, rfl, Nat.le_refl _, fun _ _ _ => rfl⟩

theorem Touch.trans {lo hi : Nat} {a b c : World} (h : Touch lo hi a b) (k : Touch lo hi b c) : Touch lo hi a c :=
  ⟨k.os.trans h.os, k.tape.trans h.tape, k.output.trans h.output, Nat.le_trans h.size k.size, fun i hi h' => (k.block i (Nat.lt_of_lt_of_le hi h.size) h').trans (h.block i hi h')⟩

theorem Touch.of_below {lo hi B : Nat} {w w' : World} (h : Below B w w') (hB : w.heap.size ≤ B) : Touch lo hi w w' :=
  ⟨h.os, h.tape, h.output, h.size, fun k hk _ => h.block k (by omega)⟩

theorem Touch.setCell {lo hi : Nat} (w : World) (p : Addr) (u : Value) (h1 : lo ≤ p.block) (h2 : p.block < hi) : Touch lo hi w (w.setCell p u) :=
  ⟨rfl, rfl, rfl, by simp, fun k _ hk => heap_setCell_other w p k u (by omega)⟩

/-- Below what was there: a step that touches the call's own blocks alone. -/
theorem below_touch {B lo hi : Nat} {w w1 w2 : World} (h : Below B w w1) (t : Touch lo hi w1 w2) (hB : B ≤ lo) (hs : B ≤ w1.heap.size) : Below B w w2 :=
  h.trans ⟨t.os, t.tape, t.output, t.size, fun k hk => t.block k (by omega) (.inl (by omega))⟩

/-- A slice of strings of the call's own, in the blocks lo .. hi - 1. -/
structure OwnS (w : World) (lo hi : Nat) (a : Option Addr) (n c : Nat) (ss : List ByteArray) : Prop where
  own : w.ownsRow lo 9 1 (.slice a n c) n (ss.map Value.string)
  lt : ∀ x, a = some x → x.block < hi
  sizes : ∀ j, j < n → (nth ss j).size ≤ maxLen
  top : hi ≤ w.heap.size

theorem OwnS.strs {w : World} {lo hi n c : Nat} {a : Option Addr} {ss : List ByteArray} (h : OwnS w lo hi a n c ss) : Strs w a n c ss := Strs.of_owns h.own h.sizes

theorem OwnS.of {w : World} {lo n c : Nat} {a : Option Addr} {ss : List ByteArray} (h : w.ownsRow lo 9 1 (.slice a n c) n (ss.map Value.string)) (hs : ∀ j, j < n → (nth ss j).size ≤ maxLen) : OwnS w lo w.heap.size a n c ss :=
  ⟨h, fun x hx => by subst hx; exact (h.lt _ rfl).2, hs, Nat.le_refl _⟩

theorem owns_of_block {w w' : World} {lo n c : Nat} {a : Option Addr} {xs : List Value} (h : w.ownsRow lo 9 1 (.slice a n c) n xs) (hb : ∀ x, a = some x → w'.heap[x.block]? = w.heap[x.block]?) : w'.ownsRow lo 9 1 (.slice a n c) n xs := by
  refine ⟨h.1, ?_⟩
  rcases h.2 with h2 | ⟨g, cap, cur, hv, h3, hg, h4⟩
  · exact .inl h2
  · refine .inr ⟨g, cap, cur, hv, h3, ?_, h4⟩
    simp only [Value.slice.injEq] at hv
    rw [← hg]
    exact hb ⟨g, 0, none⟩ hv.1

theorem OwnS.below {w w' : World} {lo hi n c B : Nat} {a : Option Addr} {ss : List ByteArray} (h : OwnS w lo hi a n c ss) (hb : Below B w w') (hB : hi ≤ B) : OwnS w' lo hi a n c ss :=
  ⟨owns_of_block h.own (fun x hx => hb.block _ (by have := h.lt x hx; omega)), h.lt, h.sizes, Nat.le_trans h.top hb.size⟩

theorem OwnS.touch {w w' : World} {lo hi n c lo' hi' : Nat} {a : Option Addr} {ss : List ByteArray} (h : OwnS w lo hi a n c ss) (t : Touch lo' hi' w w') (hd : hi ≤ lo' ∨ hi' ≤ lo) : OwnS w' lo hi a n c ss :=
  ⟨owns_of_block h.own (fun x hx => t.block _ (by have := h.lt x hx; have := h.top; omega) (by
    have h1 := h.lt x hx
    have h2 : lo ≤ x.block := by subst hx; exact (h.own.lt _ rfl).1
    omega)), h.lt, h.sizes, Nat.le_trans h.top t.size⟩

theorem Strs.touch {w w' : World} {lo hi n c B : Nat} {a : Option Addr} {ss : List ByteArray} (h : Strs w a n c ss) (t : Touch lo hi w w') (hB : ∀ x, a = some x → x.block < B) (hlo : B ≤ lo) : Strs w' a n c ss :=
  ⟨h.len, h.cap, h.small, h.sizes, fun j hj => by
    obtain ⟨b, off, ha, hlt, hc⟩ := h.cells j hj
    refine ⟨b, off, ha, Nat.lt_of_lt_of_le hlt t.size, ?_⟩
    rw [← hc]
    exact World.cell?_of_block (t.block b hlt (.inl (by have := hB _ ha; simp at this; omega)))⟩

end Go.Proofs.YtcehablmloleaaaGreatDoor

namespace Go.Proofs.YtcehablmloleaaaGreatDoor
open Go.RowKit

/-- marks from k on -/
def marks (k n : Nat) : List ByteArray := (List.range n).map fun j => markS (k + j)

/-- the first i are marked -/
def marked (ss : List ByteArray) (k n i : Nat) : List ByteArray := (List.range n).map fun j => if j < i then markS (k + j) else nth ss j

theorem marked_zero (ss : List ByteArray) (k n : Nat) (h : n = ss.length) : marked ss k n 0 = ss := by
  apply List.ext_getElem
  · simp [marked, h]
  · intro i h1 h2; simp [marked, nth_eq ss i h2]

theorem marked_full (ss : List ByteArray) (k n : Nat) : marked ss k n n = marks k n := by
  apply List.ext_getElem
  · simp [marked, marks]
  · intro i h1 h2
    have : i < n := by simpa [marked] using h1
    simp [marked, marks, this]

theorem marked_set (ss : List ByteArray) (k n i : Nat) : ((marked ss k n i).map Value.string).set i (.string (markS (k + i))) = (marked ss k n (i + 1)).map Value.string := by
  apply List.ext_getElem
  · simp [marked]
  · intro j h1 h2
    rw [List.getElem_set]
    simp only [marked, List.getElem_map, List.getElem_range]
    by_cases e : i = j
    · subst e; simp
    · rw [if_neg e]
      by_cases h : j < i
      · rw [if_pos h, if_pos (by omega)]
      · rw [if_neg h, if_neg (by omega)]

theorem marked_at (ss : List ByteArray) (k n i : Nat) (h : i < n) : ((marked ss k n i).map Value.string)[i]? = some (.string (nth ss i)) := by
  simp [marked, h]

theorem marks_nth (k n j : Nat) (h : j < n) : nth (marks k n) j = markS (k + j) := by
  rw [nth_eq _ j (by simpa [marks] using h)]; simp [marks]

theorem marks_sizes (k n : Nat) (hk : k + n ≤ 35184372088832) : ∀ j, j < n → (nth (marks k n) j).size ≤ maxLen := fun j hj => by
  rw [marks_nth k n j hj]
  have := markS_size (k + j)
  unfold maxLen; omega

set_option maxHeartbeats 1600000 in
theorem markStringS_any (lo hi : Nat) (a : Option Addr) (n c : Nat) (ss : List ByteArray) (k : Nat) (w : World) (h : OwnS w lo hi a n c ss) (hk : k + n ≤ 35184372088832) :
    Calls Tryz.prog 44 #[.slice a n c, .int .i64 k] w fun e w' => e = .returned (.int .i64 ((k : Int) + n)) ∧ OwnS w' lo hi a n c (marks k n) ∧ Touch lo hi w w' := by
  have hlen := h.strs.len
  have Hl := hide hlen
  clear hlen
  go_enter Tryz.func44, Tryz.ntmps44
  go_wp2
  go_loopw [1, 5] (fun q i wr => ∃ j : Nat, j ≤ n ∧ i = .int .i64 j ∧ q = .int .i64 ((k : Int) + j) ∧ wr.ownsRow lo 9 1 (.slice a n c) n ((marked ss k n j).map Value.string) ∧ Touch lo hi w wr) (fun _ i _ => n - (intOf i).toNat)
  case atStart => exact ⟨0, Nat.zero_le _, rfl, by go_num, by rw [marked_zero ss k n (unhide Hl)]; exact h.own, Touch.refl _ _ _⟩
  case round =>
    obtain ⟨j, hj, rfl, rfl, hown, ht⟩ := hrel
    by_cases hlt : j < n
    · obtain ⟨g, hg⟩ : ∃ g, a = some ⟨g, 0, none⟩ := by
        rcases hown.2 with ⟨_, h0⟩ | ⟨g, cap, cur, hv, _⟩
        · omega
        · simp only [Value.slice.injEq] at hv; exact ⟨g, hv.1⟩
      subst hg
      have hgl : lo ≤ g := (hown.lt g rfl).1
      have hgh : g < hi := h.lt _ rfl
      have hgs : g < wr.heap.size := (hown.lt g rfl).2
      have ilt : (j : Int) < (n : Int) := by omega
      go_wp2_with fail
      refine (markText_int _ wr (by omega) (by omega)).mono ?_
      rintro e w1 ⟨rfl, hb1⟩
      rw [show ((k : Int) + (j : Int)).toNat = k + j from by omega]
      have hown1 := owns_of_block (w' := w1) hown (fun x hx => by cases hx; exact hb1.block g hgs)
      have hc1 := (hown1.cellAt j (by omega)).trans (marked_at ss k n j hlt)
      have hf1 := hown1.frozenAt j
      have Hst := hide (hown1.stored j (.string (markS (k + j)))).1
      have ht1 := ht.trans (Touch.of_below (lo := lo) (hi := hi) hb1 (Nat.le_refl _))
      clear hown hown1 hb1 ht
      go_wp2
      go_roundw
      case rel => exact ⟨j + 1, by omega, by go_num, by go_num, by rw [← marked_set]; exact unhide Hst, ht1.trans (Touch.setCell _ _ _ hgl hgh)⟩
      case measure => simp [intOf]; omega
    · have e : j = n := by omega
      subst e
      go_wp2
      go_ret
      rw [marked_full] at hown
      exact ⟨rfl, ⟨hown, h.lt, marks_sizes k j hk, Nat.le_trans h.top ht.size⟩, ht⟩

theorem markStringS_int (lo hi : Nat) (a : Option Addr) (n c : Nat) (ss : List ByteArray) (x : Int) (w : World) (h : OwnS w lo hi a n c ss) (h0 : 0 ≤ x) (hk : x + n ≤ 35184372088832) :
    Calls Tryz.prog 44 #[.slice a n c, .int .i64 x] w fun e w' => e = .returned (.int .i64 (x + n)) ∧ OwnS w' lo hi a n c (marks x.toNat n) ∧ Touch lo hi w w' := by
  obtain ⟨k, rfl⟩ := Int.eq_ofNat_of_zero_le h0
  rw [Int.toNat_natCast]
  exact markStringS_any lo hi a n c ss k w h (by omega)

end Go.Proofs.YtcehablmloleaaaGreatDoor

namespace Go.Proofs.YtcehablmloleaaaGreatDoor
open Go.RowKit

end Go.Proofs.YtcehablmloleaaaGreatDoor

namespace Go.Proofs.YtcehablmloleaaaGreatDoor
open Go.RowKit

end Go.Proofs.YtcehablmloleaaaGreatDoor

namespace Go.Proofs.YtcehablmloleaaaGreatDoor
open Go.RowKit
set_option linter.unusedVariables false

/-- A slice of numbers. -/
structure Ints (w : World) (a : Option Addr) (n c : Nat) (L : List Int) : Prop where
  len : L.length = n
  small : n ≤ 1048576
  cells : ∀ j, (h : j < L.length) → ∃ b off, a = some ⟨b, off, none⟩ ∧ b < w.heap.size ∧ w.cell? ⟨b, off + j, none⟩ = some (.int .i64 L[j])

theorem Ints.below {w w' : World} {B : Nat} {a : Option Addr} {n c : Nat} {L : List Int} (h : Ints w a n c L) (hb : Below B w w') (hB : w.heap.size ≤ B) : Ints w' a n c L :=
  ⟨h.len, h.small, fun j hj => by
    obtain ⟨b, off, ha, hl, c0⟩ := h.cells j hj
    exact ⟨b, off, ha, Nat.lt_of_lt_of_le hl hb.size, (hb.cell (p := ⟨b, off + j, none⟩) (by show b < B; omega)).trans c0⟩⟩

theorem below_drewM (w : World) (m : Nat) : Below w.heap.size w (w.drewN m) := by
  exact ⟨(Below.refl w.heap.size w).os, (Below.refl w.heap.size w).tape, (Below.refl w.heap.size w).output, Nat.le_refl _, fun _ _ => rfl⟩

end Go.Proofs.YtcehablmloleaaaGreatDoor

namespace Go.Proofs.YtcehablmloleaaaGreatDoor
open Go.RowKit
set_option linter.unusedVariables false

/-- a load of a whole row whose cells are known -/
theorem wpList_load_cells {P : Program} {ops : Array Oper} {rest : List Oper} {o : Oper} {a : Act} {w : World} {Q : Exit → Act → World → Prop} (hgd : o.guard = none) (ty : TypeId) (x : Operand) (ho : o.op = .load ty x)
    (g : Nat) (hx : a.eval x = .pointer (some ⟨g, 0, none⟩)) (cs : Array Value) (d : TypeDesc) (hc : ∀ j, w.cell? ⟨g, j, none⟩ = cs[j]?)
    (hu : P.underlying ty = some d) (hd : (match d with | .struct _ | .array _ _ => true | _ => false) = true) (hi : (P.info? ty).map (·.size) = some cs.size)
    (h : wpList P ops Q rest (a.put o.dst (.agg cs)) w) : wpList P ops Q (o :: rest) a w :=
  wpList_plain hgd fun _ hK => by
    have hl : (loadCells ⟨g, 0, none⟩ cs.toList.length).run P w = .ok cs.toList.toArray w :=
      run_loadCells_list (P := P) w ⟨g, 0, none⟩ cs.toList (fun j v hv => by
        have hadd : (⟨g, 0, none⟩ : Addr).add j = ⟨g, j, none⟩ := by unfold Addr.add; split <;> simp_all
        rw [hadd, hc j]
        simpa using hv)
    have hr : (loadVar ty ⟨g, 0, none⟩).run P w = .ok (.agg cs) w := by
      cases hq : P.info? ty with
      | none => simp [hq] at hi
      | some i =>
        have hs : i.size = cs.size := by simpa [hq] using hi
        have hagg : (isAgg ty).run P w = .ok true w := by
          unfold isAgg
          rw [Sem.run_bind, run_underlying hu w]
          cases d <;> simp_all
        simp only [Array.length_toList, Array.toArray_toList] at hl
        simp [loadVar, Sem.run_bind, hagg, sizeOf, typeInfo, hq, hs, hl]
    unfold Oper.wp execOp
    simp only [ho, hx, Instr.loadAt, Instr.sureAddr, Sem.run_bind, Sem.run_pure, Result.andThen_ok, hr]
    exact hK _ _ h

/-- an element of an array of structs that lies in a slot -/
theorem wpList_index_agg {P : Program} {ops : Array Oper} {rest : List Oper} {o : Oper} {a : Act} {w : World} {Q : Exit → Act → World → Prop} (hgd : o.guard = none) (ty : TypeId) (x y : Operand) (ho : o.op = .index ty x y)
    (cs : Array Value) (hx : a.eval x = .agg cs) (k : Nat) (hy : a.eval y = .int .i64 k) (n : Nat) (e : TypeId) (hu : P.underlying ty = some (.array n e)) (hk : k < n) (d : TypeDesc) (hue : P.underlying e = some d)
    (hd : (match d with | .struct _ | .array _ _ => true | _ => false) = true) (sz : Nat) (hi : (P.info? e).map (·.size) = some sz) (r : Array Value) (hr : cs.extract (k * sz) (k * sz + sz) = r)
    (h : wpList P ops Q rest (a.put o.dst (.agg r)) w) : wpList P ops Q (o :: rest) a w :=
  wpList_plain hgd fun _ hK => by
    have hq : (Instr.index ty (.agg cs) (.int .i64 k)).run P w = .ok (.agg r) w := by
      cases hq : P.info? e with
      | none => simp [hq] at hi
      | some i =>
        have hs : i.size = sz := by simpa [hq] using hi
        have hagg : (isAgg e).run P w = .ok true w := by
          unfold isAgg
          rw [Sem.run_bind, run_underlying hue w]
          cases d <;> simp_all
        have hk2 : (0 : Int) ≤ (k : Int) ∧ (k : Int) < (n : Int) := ⟨by omega, by omega⟩
        simp [Instr.index, run_underlying hu, asIntOf, hk2, hk, part, Sem.run_bind, hagg, sizeOf, typeInfo, hq, hs, hr]
    unfold Oper.wp execOp
    simp only [ho, hx, hy, Sem.run_bind, hq, Sem.run_pure, Result.andThen_ok]
    exact hK _ _ h

end Go.Proofs.YtcehablmloleaaaGreatDoor

namespace Go.Proofs.YtcehablmloleaaaGreatDoor
open Go.RowKit
set_option linter.unusedVariables false

/-- the cells of the table of operators -/
def binV : Array Value := #[.int .i64 26, .int .i64 1, .string ⟨#[111, 114]⟩, .int .i64 25, .int .i64 2, .string ⟨#[97, 110, 100]⟩, .int .i64 19, .int .i64 4, .string ⟨#[61, 61]⟩, .int .i64 20, .int .i64 4, .string ⟨#[33, 61]⟩, .int .i64 21, .int .i64 4, .string ⟨#[60]⟩, .int .i64 22, .int .i64 4, .string ⟨#[60, 61]⟩, .int .i64 23, .int .i64 4, .string ⟨#[105, 110]⟩, .int .i64 24, .int .i64 4, .string ⟨#[119, 105, 116, 104, 105, 110]⟩, .int .i64 11, .int .i64 5, .string ⟨#[43]⟩, .int .i64 12, .int .i64 5, .string ⟨#[45]⟩, .int .i64 16, .int .i64 5, .string ⟨#[124]⟩, .int .i64 18, .int .i64 5, .string ⟨#[92]⟩, .int .i64 13, .int .i64 6, .string ⟨#[42]⟩, .int .i64 14, .int .i64 6, .string ⟨#[47]⟩, .int .i64 15, .int .i64 6, .string ⟨#[37]⟩, .int .i64 17, .int .i64 6, .string ⟨#[38]⟩]

structure Opr where
  op : Int
  lv : Int
  text : ByteArray

def opr : Nat → Opr
  | 0 => ⟨26, 1, ⟨#[111, 114]⟩⟩
  | 1 => ⟨25, 2, ⟨#[97, 110, 100]⟩⟩
  | 2 => ⟨19, 4, ⟨#[61, 61]⟩⟩
  | 3 => ⟨20, 4, ⟨#[33, 61]⟩⟩
  | 4 => ⟨21, 4, ⟨#[60]⟩⟩
  | 5 => ⟨22, 4, ⟨#[60, 61]⟩⟩
  | 6 => ⟨23, 4, ⟨#[105, 110]⟩⟩
  | 7 => ⟨24, 4, ⟨#[119, 105, 116, 104, 105, 110]⟩⟩
  | 8 => ⟨11, 5, ⟨#[43]⟩⟩
  | 9 => ⟨12, 5, ⟨#[45]⟩⟩
  | 10 => ⟨16, 5, ⟨#[124]⟩⟩
  | 11 => ⟨18, 5, ⟨#[92]⟩⟩
  | 12 => ⟨13, 6, ⟨#[42]⟩⟩
  | 13 => ⟨14, 6, ⟨#[47]⟩⟩
  | 14 => ⟨15, 6, ⟨#[37]⟩⟩
  | 15 => ⟨17, 6, ⟨#[38]⟩⟩
  | _ => ⟨0, 0, ⟨#[]⟩⟩

theorem binV_row : ∀ k, k < 16 → binV.extract (k * 3) (k * 3 + 3) = #[.int .i64 (opr k).op, .int .i64 (opr k).lv, .string (opr k).text]
  | 0, _ => rfl
  | 1, _ => rfl
  | 2, _ => rfl
  | 3, _ => rfl
  | 4, _ => rfl
  | 5, _ => rfl
  | 6, _ => rfl
  | 7, _ => rfl
  | 8, _ => rfl
  | 9, _ => rfl
  | 10, _ => rfl
  | 11, _ => rfl
  | 12, _ => rfl
  | 13, _ => rfl
  | 14, _ => rfl
  | 15, _ => rfl
  | n + 16, h => absurd h (by omega)

theorem row3 {w : World} {b : Nat} {v0 v1 v2 : Value} {t : TypeId} (R : Row w b #[v0, v1, v2] t) : w.cell? ⟨b, 0, none⟩ = some v0 ∧ w.cell? ⟨b, 1, none⟩ = some v1 ∧ w.cell? ⟨b, 2, none⟩ = some v2 ∧ ∀ j, w.frozen? ⟨b, j, none⟩ = false :=
  ⟨R.cell 0, R.cell 1, R.cell 2, fun j => R.frozen j⟩

theorem res_bin {fn : Func} {a b : Tmp} (h : fn.results = #[.cell a 202, .tmp b]) {tmps : Array Value} {w : World} {g : Nat} {v0 v1 v2 u : Value} (ha : tmps.getD a undef = .pointer (some ⟨g, 0, none⟩)) (hb : tmps.getD b undef = u)
    (g0 : w.cell? ⟨g, 0, none⟩ = some v0) (g1 : w.cell? ⟨g, 1, none⟩ = some v1) (g2 : w.cell? ⟨g, 2, none⟩ = some v2) :
    (results fn tmps).run Tryz.prog w = .ok (.tuple #[.agg #[v0, v1, v2], u]) w := by
  rw [Array.getD_eq_getD_getElem?] at ha hb
  simp [results, h, ha, hb, go_sem, g0, g1, g2]

end Go.Proofs.YtcehablmloleaaaGreatDoor

namespace Go.Proofs.YtcehablmloleaaaGreatDoor
open Go.RowKit
set_option linter.unusedVariables false

/-- a tree; a set bears where its names lie -/
inductive Ex where
  | int (i n : Int)
  | text (i : Int) (s : ByteArray)
  | bool (i : Int) (b : Bool)
  | set (i : Int) (a : Option Addr) (n c : Nat) (ss : List ByteArray)
  | name (i : Int) (s : ByteArray)
  | attr (i n : Int)
  | lett (i n : Int)
  | un (i op : Int) (k : Ex)
  | bin (i op : Int) (l r : Ex)
  | ite (i : Int) (c t e : Ex)

def Ex.val : Ex → Value
  | .int i n => .iface 164 (.agg #[.int .i64 i, .int .i64 n])
  | .text i s => .iface 166 (.agg #[.int .i64 i, .string s])
  | .bool i b => .iface 168 (.agg #[.int .i64 i, .bool b])
  | .set i a n c _ => .iface 170 (.agg #[.int .i64 i, .slice a n c])
  | .name i s => .iface 172 (.agg #[.int .i64 i, .string s])
  | .attr i n => .iface 173 (.agg #[.int .i64 i, .int .i64 n])
  | .lett i n => .iface 174 (.agg #[.int .i64 i, .int .i64 n])
  | .un i op k => .iface 176 (.agg #[.int .i64 i, .int .i64 op, k.val])
  | .bin i op l r => .iface 178 (.agg #[.int .i64 i, .int .i64 op, l.val, r.val])
  | .ite i c t e => .iface 180 (.agg #[.int .i64 i, c.val, t.val, e.val])

def Ex.op : Ex → Int
  | .int .. => 1 | .text .. => 2 | .bool .. => 3 | .set .. => 4 | .name .. => 5 | .attr .. => 6 | .lett .. => 7
  | .un _ op _ => op | .bin _ op _ _ => op | .ite .. => 27

def Ex.cnt : Ex → Nat
  | .un _ _ k => k.cnt + 1
  | .bin _ _ l r => l.cnt + r.cnt + 1
  | .ite _ c t e => c.cnt + t.cnt + e.cnt + 1
  | _ => 1

/-- the level of an operator -/
def lvN (op : Int) : Int :=
  if op = 27 then 0 else if op = 26 then 1 else if op = 25 then 2 else if op = 9 then 3 else if 19 ≤ op ∧ op ≤ 24 then 4
  else if op = 11 ∨ op = 12 ∨ op = 16 ∨ op = 18 then 5 else if op = 13 ∨ op = 14 ∨ op = 15 ∨ op = 17 then 6 else if op = 8 then 7 else 8

def signs : List ByteArray := [⟨#[43]⟩, ⟨#[45]⟩, ⟨#[42]⟩, ⟨#[47]⟩, ⟨#[37]⟩, ⟨#[124]⟩, ⟨#[38]⟩, ⟨#[92]⟩, ⟨#[61, 61]⟩, ⟨#[33, 61]⟩, ⟨#[60]⟩, ⟨#[60, 61]⟩, ⟨#[105, 110]⟩, ⟨#[119, 105, 116, 104, 105, 110]⟩, ⟨#[97, 110, 100]⟩, ⟨#[111, 114]⟩]

def signB (op : Int) : ByteArray := signs.getD (op - 11).toNat ⟨#[]⟩

def numB (k : Nat) : ByteArray := ⟨(Lib.decDigits k).toArray⟩

/-- the names of a set, each in quotes, with commas between -/
def itemsT (first : Bool) : List ByteArray → ByteArray
  | [] => ⟨#[]⟩
  | x :: r => (if first then ⟨#[]⟩ else ⟨#[44, 32]⟩) ++ (⟨#[34]⟩ ++ x ++ ⟨#[34]⟩) ++ itemsT false r

def setT (ss : List ByteArray) : ByteArray := ⟨#[123]⟩ ++ itemsT true ss ++ ⟨#[125]⟩

def par (b : Bool) (s : ByteArray) : ByteArray := if b then ⟨#[40]⟩ ++ s ++ ⟨#[41]⟩ else s

/-- the level that the left side of an operator is written for -/
def leftN (op : Int) : Int := if lvN op = 4 then 5 else lvN op

/-- a tree, with no parentheses about it -/
def Ex.pr : Ex → ByteArray
  | .int _ n => numB n.toNat
  | .text _ s => ⟨#[34]⟩ ++ s ++ ⟨#[34]⟩
  | .bool _ b => if b then ⟨#[116, 114, 117, 101]⟩ else ⟨#[102, 97, 108, 115, 101]⟩
  | .set _ _ _ _ ss => setT ss
  | .name _ s => s
  | .attr .. => ⟨#[]⟩
  | .lett .. => ⟨#[]⟩
  | .un _ op k => if op = 8 then ⟨#[45]⟩ ++ par (decide (lvN k.op < 7)) k.pr else if op = 9 then ⟨#[110, 111, 116, 32]⟩ ++ par (decide (lvN k.op < 3)) k.pr
    else ⟨#[115, 105, 122, 101, 40]⟩ ++ k.pr ++ ⟨#[41]⟩
  | .bin _ op l r => par (decide (lvN l.op < leftN op)) l.pr ++ (⟨#[32]⟩ ++ signB op ++ ⟨#[32]⟩) ++ par (decide (lvN r.op < lvN op + 1)) r.pr
  | .ite _ c t e => ⟨#[105, 102, 32]⟩ ++ c.pr ++ ⟨#[32, 116, 104, 101, 110, 32]⟩ ++ t.pr ++ ⟨#[32, 101, 108, 115, 101, 32]⟩ ++ e.pr

/-- a tree, for a place that wants a level -/
def Ex.put (e : Ex) (want : Int) : ByteArray := par (decide (lvN e.op < want)) e.pr

/-- it is the tree of a node -/
inductive IsT (N : List Nd) : Nat → Ex → Prop
  | int {i : Nat} {x : Nd} (h : N[i]? = some x) (ho : x.op = 1) (hk : x.kids = []) : IsT N i (.int i x.num)
  | text {i : Nat} {x : Nd} (h : N[i]? = some x) (ho : x.op = 2) (hk : x.kids = []) : IsT N i (.text i x.text)
  | bool {i : Nat} {x : Nd} (h : N[i]? = some x) (ho : x.op = 3) (hk : x.kids = []) : IsT N i (.bool i (decide (x.num = 1)))
  | set {i : Nat} {x : Nd} (h : N[i]? = some x) (ho : x.op = 4) (hk : x.kids = []) (a : Option Addr) (n c : Nat) : IsT N i (.set i a n c x.names)
  | name {i : Nat} {x : Nd} (h : N[i]? = some x) (ho : x.op = 5) (hk : x.kids = []) : IsT N i (.name i x.text)
  | attr {i : Nat} {x : Nd} (h : N[i]? = some x) (ho : x.op = 6) (hk : x.kids = []) : IsT N i (.attr i x.num)
  | lett {i : Nat} {x : Nd} (h : N[i]? = some x) (ho : x.op = 7) (hk : x.kids = []) : IsT N i (.lett i x.num)
  | un {i k : Nat} {x : Nd} {e : Ex} (h : N[i]? = some x) (ho : 8 ≤ x.op ∧ x.op ≤ 10) (hk : x.kids = [(k : Int)]) (hi : k < i) (t : IsT N k e) : IsT N i (.un i x.op e)
  | bin {i k l : Nat} {x : Nd} {e f : Ex} (h : N[i]? = some x) (ho : 11 ≤ x.op ∧ x.op ≤ 26) (hk : x.kids = [(k : Int), (l : Int)]) (hi : k < i ∧ l < i) (t : IsT N k e) (u : IsT N l f) : IsT N i (.bin i x.op e f)
  | ite {i k l m : Nat} {x : Nd} {e f g : Ex} (h : N[i]? = some x) (ho : x.op = 27) (hk : x.kids = [(k : Int), (l : Int), (m : Int)]) (hi : k < i ∧ l < i ∧ m < i) (t : IsT N k e) (u : IsT N l f) (v : IsT N m g) : IsT N i (.ite i e f g)

theorem IsT.lt {N : List Nd} {i : Nat} {e : Ex} (h : IsT N i e) : i < N.length := by
  cases h <;> exact (List.getElem?_eq_some_iff.1 (by assumption)).1

theorem IsT.op {N : List Nd} {i : Nat} {e : Ex} (h : IsT N i e) : ∃ x, N[i]? = some x ∧ x.op = e.op := by
  cases h <;> exact ⟨_, by assumption, by first | assumption | rfl⟩

end Go.Proofs.YtcehablmloleaaaGreatDoor

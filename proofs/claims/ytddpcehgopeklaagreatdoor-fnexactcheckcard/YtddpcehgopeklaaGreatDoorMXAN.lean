/-
  Tab0, VPD, Byte1, MarkT. Own work.
-/
import Derived.Test.YtddpcehgopeklaaGreatDoorMXAF
import Derived.Test.YtddpcehgopeklaaGreatDoorMXAD
import Derived.Test.YtddpcehgopeklaaGreatDoorMXAB
import Derived.Test.YtddpcehgopeklaaGreatDoorMXAG
import Derived.Laws.BytesString
import Derived.Deep.RegionHeld3
namespace Go.Proofs.YtddpcehgopeklaaGreatDoor
open Go.RowKit
set_option linter.unusedVariables false

/-- a load of a whole row whose cells are known -/
theorem wpList_load_cells {P : Program} {ops : Array Oper} {rest : List Oper} {o : Oper} {a : Act} {w : World} {Q : Exit → Act → World → Prop} (hgd : o.guard = none) (ty : TypeId) (x : Operand) (ho : o.op = .load ty x)
    (g : Nat) (hx : a.eval x = .pointer (some ⟨g, 0, none⟩)) (cs : Array Value) (d : TypeDesc) (hc : ∀ j, w.cell? ⟨g, j, none⟩ = cs[j]?)
    (hu : P.underlying ty = some d) (hd : (match d with | .struct _ | .array _ _ => true | _ => false) = true) (hi : (P.info? ty).map (·.size) = some cs.size)
    (h : wpList P ops Q rest (a.put o.dst (.agg cs)) w) : wpList P ops Q (o :: rest) a w :=
  wpList_plain hgd fun _ hK => by
    have hl : (loadCells ⟨g, 0, none⟩ cs.toList.length).run P w = .ok cs.toList.toArray w :=
      run_loadCells_list (P := P) w ⟨g, 0, none⟩ cs.toList (fun j v hv => by
        have hadd : (⟨g, 0, none⟩ : Addr).add j = ⟨g, j, none⟩ := by unfold Addr.add; split <;> simp_all
        rw [hadd, hc j]
        simpa using hv)
    have hr : (loadVar ty ⟨g, 0, none⟩).run P w = .ok (.agg cs) w := by
      cases hq : P.info? ty with
      | none => simp [hq] at hi
      | some i =>
        have hs : i.size = cs.size := by simpa [hq] using hi
        have hagg : (isAgg ty).run P w = .ok true w := by
          unfold isAgg
          rw [Sem.run_bind, run_underlying hu w]
          cases d <;> simp_all
        simp only [Array.length_toList, Array.toArray_toList] at hl
        simp [loadVar, Sem.run_bind, hagg, sizeOf, typeInfo, hq, hs, hl]
    unfold Oper.wp execOp
    simp only [ho, hx, Instr.loadAt, Instr.sureAddr, Sem.run_bind, Sem.run_pure, Result.andThen_ok, hr]
    exact hK _ _ h

/-- an element of an array of structs that lies in a slot -/
theorem wpList_index_agg {P : Program} {ops : Array Oper} {rest : List Oper} {o : Oper} {a : Act} {w : World} {Q : Exit → Act → World → Prop} (hgd : o.guard = none) (ty : TypeId) (x y : Operand) (ho : o.op = .index ty x y)
    (cs : Array Value) (hx : a.eval x = .agg cs) (k : Nat) (hy : a.eval y = .int .i64 k) (n : Nat) (e : TypeId) (hu : P.underlying ty = some (.array n e)) (hk : k < n) (d : TypeDesc) (hue : P.underlying e = some d)
    (hd : (match d with | .struct _ | .array _ _ => true | _ => false) = true) (sz : Nat) (hi : (P.info? e).map (·.size) = some sz) (r : Array Value) (hr : cs.extract (k * sz) (k * sz + sz) = r)
    (h : wpList P ops Q rest (a.put o.dst (.agg r)) w) : wpList P ops Q (o :: rest) a w :=
  wpList_plain hgd fun _ hK => by
    have hq : (Instr.index ty (.agg cs) (.int .i64 k)).run P w = .ok (.agg r) w := by
      cases hq : P.info? e with
      | none => simp [hq] at hi
      | some i =>
        have hs : i.size = sz := by simpa [hq] using hi
        have hagg : (isAgg e).run P w = .ok true w := by
          unfold isAgg
          rw [Sem.run_bind, run_underlying hue w]
          cases d <;> simp_all
        have hk2 : (0 : Int) ≤ (k : Int) ∧ (k : Int) < (n : Int) := ⟨by omega, by omega⟩
        simp [Instr.index, run_underlying hu, asIntOf, hk2, hk, part, Sem.run_bind, hagg, sizeOf, typeInfo, hq, hs, hr]
    unfold Oper.wp execOp
    simp only [ho, hx, hy, Sem.run_bind, hq, Sem.run_pure, Result.andThen_ok]
    exact hK _ _ h

end Go.Proofs.YtddpcehgopeklaaGreatDoor

namespace Go.Proofs.YtddpcehgopeklaaGreatDoor
open Go.RowKit
set_option linter.unusedVariables false

/-- the cells of the table of operators -/
def binV : Array Value := #[.int .i64 26, .int .i64 1, .string ⟨#[111, 114]⟩, .int .i64 25, .int .i64 2, .string ⟨#[97, 110, 100]⟩, .int .i64 19, .int .i64 4, .string ⟨#[61, 61]⟩, .int .i64 20, .int .i64 4, .string ⟨#[33, 61]⟩, .int .i64 21, .int .i64 4, .string ⟨#[60]⟩, .int .i64 22, .int .i64 4, .string ⟨#[60, 61]⟩, .int .i64 23, .int .i64 4, .string ⟨#[105, 110]⟩, .int .i64 24, .int .i64 4, .string ⟨#[119, 105, 116, 104, 105, 110]⟩, .int .i64 11, .int .i64 5, .string ⟨#[43]⟩, .int .i64 12, .int .i64 5, .string ⟨#[45]⟩, .int .i64 16, .int .i64 5, .string ⟨#[124]⟩, .int .i64 18, .int .i64 5, .string ⟨#[92]⟩, .int .i64 13, .int .i64 6, .string ⟨#[42]⟩, .int .i64 14, .int .i64 6, .string ⟨#[47]⟩, .int .i64 15, .int .i64 6, .string ⟨#[37]⟩, .int .i64 17, .int .i64 6, .string ⟨#[38]⟩]

structure Opr where
  op : Int
  lv : Int
  text : ByteArray

def opr : Nat → Opr
  | 0 => ⟨26, 1, ⟨#[111, 114]⟩⟩
  | 1 => ⟨25, 2, ⟨#[97, 110, 100]⟩⟩
  | 2 => ⟨19, 4, ⟨#[61, 61]⟩⟩
  | 3 => ⟨20, 4, ⟨#[33, 61]⟩⟩
  | 4 => ⟨21, 4, ⟨#[60]⟩⟩
  | 5 => ⟨22, 4, ⟨#[60, 61]⟩⟩
  | 6 => ⟨23, 4, ⟨#[105, 110]⟩⟩
  | 7 => ⟨24, 4, ⟨#[119, 105, 116, 104, 105, 110]⟩⟩
  | 8 => ⟨11, 5, ⟨#[43]⟩⟩
  | 9 => ⟨12, 5, ⟨#[45]⟩⟩
  | 10 => ⟨16, 5, ⟨#[124]⟩⟩
  | 11 => ⟨18, 5, ⟨#[92]⟩⟩
  | 12 => ⟨13, 6, ⟨#[42]⟩⟩
  | 13 => ⟨14, 6, ⟨#[47]⟩⟩
  | 14 => ⟨15, 6, ⟨#[37]⟩⟩
  | 15 => ⟨17, 6, ⟨#[38]⟩⟩
  | _ => ⟨0, 0, ⟨#[]⟩⟩

theorem binV_row : ∀ k, k < 16 → binV.extract (k * 3) (k * 3 + 3) = #[.int .i64 (opr k).op, .int .i64 (opr k).lv, .string (opr k).text]
  | 0, _ => rfl
  | 1, _ => rfl
  | 2, _ => rfl
  | 3, _ => rfl
  | 4, _ => rfl
  | 5, _ => rfl
  | 6, _ => rfl
  | 7, _ => rfl
  | 8, _ => rfl
  | 9, _ => rfl
  | 10, _ => rfl
  | 11, _ => rfl
  | 12, _ => rfl
  | 13, _ => rfl
  | 14, _ => rfl
  | 15, _ => rfl
  | n + 16, h => absurd h (by omega)

theorem opr_some (op : Int) (h : 11 ≤ op ∧ op ≤ 26) : ∃ k, k < 16 ∧ (opr k).op = op := by
  have : op = 11 ∨ op = 12 ∨ op = 13 ∨ op = 14 ∨ op = 15 ∨ op = 16 ∨ op = 17 ∨ op = 18 ∨ op = 19 ∨ op = 20 ∨ op = 21 ∨ op = 22 ∨ op = 23 ∨ op = 24 ∨ op = 25 ∨ op = 26 := by omega
  rcases this with e | e | e | e | e | e | e | e | e | e | e | e | e | e | e | e <;> subst e
  · exact ⟨8, by decide, rfl⟩
  · exact ⟨9, by decide, rfl⟩
  · exact ⟨12, by decide, rfl⟩
  · exact ⟨13, by decide, rfl⟩
  · exact ⟨14, by decide, rfl⟩
  · exact ⟨10, by decide, rfl⟩
  · exact ⟨15, by decide, rfl⟩
  · exact ⟨11, by decide, rfl⟩
  · exact ⟨2, by decide, rfl⟩
  · exact ⟨3, by decide, rfl⟩
  · exact ⟨4, by decide, rfl⟩
  · exact ⟨5, by decide, rfl⟩
  · exact ⟨6, by decide, rfl⟩
  · exact ⟨7, by decide, rfl⟩
  · exact ⟨1, by decide, rfl⟩
  · exact ⟨0, by decide, rfl⟩

theorem opr_in : ∀ k, k < 16 → 11 ≤ (opr k).op ∧ (opr k).op ≤ 26
  | 0, _ | 1, _ | 2, _ | 3, _ | 4, _ | 5, _ | 6, _ | 7, _ | 8, _ | 9, _ | 10, _ | 11, _ | 12, _ | 13, _ | 14, _ | 15, _ => by decide
  | n + 16, h => absurd h (by omega)

/-- an operator of two -/
def isBin (op : Int) : Bool := decide (11 ≤ op ∧ op ≤ 26)

def BinAns (op : Int) (e : Ending) : Prop := ∃ (x y : Int) (s : ByteArray), e = .returned (.tuple #[.agg #[.int .i64 x, .int .i64 y, .string s], .bool (isBin op)])

theorem row3 {w : World} {b : Nat} {v0 v1 v2 : Value} {t : TypeId} (R : Row w b #[v0, v1, v2] t) : w.cell? ⟨b, 0, none⟩ = some v0 ∧ w.cell? ⟨b, 1, none⟩ = some v1 ∧ w.cell? ⟨b, 2, none⟩ = some v2 ∧ ∀ j, w.frozen? ⟨b, j, none⟩ = false :=
  ⟨R.cell 0, R.cell 1, R.cell 2, fun j => R.frozen j⟩

theorem res_bin {fn : Func} {a b : Tmp} (h : fn.results = #[.cell a 214, .tmp b]) {tmps : Array Value} {w : World} {g : Nat} {v0 v1 v2 u : Value} (ha : tmps.getD a undef = .pointer (some ⟨g, 0, none⟩)) (hb : tmps.getD b undef = u)
    (g0 : w.cell? ⟨g, 0, none⟩ = some v0) (g1 : w.cell? ⟨g, 1, none⟩ = some v1) (g2 : w.cell? ⟨g, 2, none⟩ = some v2) :
    (results fn tmps).run Tryz.prog w = .ok (.tuple #[.agg #[v0, v1, v2], u]) w := by
  rw [Array.getD_eq_getD_getElem?] at ha hb
  simp [results, h, ha, hb, go_sem, g0, g1, g2]

set_option maxRecDepth 100000 in
set_option maxHeartbeats 6400000 in
theorem binaryOperator_any (op : Int) (w : World) (hw : 12 < w.heap.size) (hc : ∀ k, w.cell? ⟨12, k, none⟩ = binV[k]?) :
    Calls Tryz.prog 116 #[.int .i64 op] w fun e w' => BinAns op e ∧ Below w.heap.size w w' := by
  have HC := hide (show ∀ k, (w.alloc (.cells #[.int .i64 0, .int .i64 0, .string ⟨#[]⟩] 214)).cell? ⟨12, k, none⟩ = binV[k]? from fun k => (World.cell?_alloc_lt _ _ ⟨12, k, none⟩ hw).trans (hc k))
  clear hc
  have B0 := (Below.refl w.heap.size w).alloc (Nat.le_refl _) (.cells #[.int .i64 0, .int .i64 0, .string ⟨#[]⟩] 214)
  have R0 := Row.new w #[.int .i64 0, .int .i64 0, .string ⟨#[]⟩] 214
  go_enter Tryz.func116, Tryz.ntmps116
  go_wp2_with (refine wpList_load_cells rfl 220 _ rfl 12 rfl binV _ (unhide HC) Tryz.underlying220 rfl (by kernel_rfl) ?_)
  clear HC
  go_loopw [7] (fun i wr => ∃ k : Nat, k ≤ 16 ∧ i = .int .i64 k ∧ Below w.heap.size w wr ∧ Row wr w.heap.size #[.int .i64 0, .int .i64 0, .string ⟨#[]⟩] 214 ∧ ∀ j, j < k → (opr j).op ≠ op) (fun i _ => 16 - (intOf i).toNat)
  case atStart => exact ⟨0, by omega, rfl, B0, R0, fun j h => absurd h (by omega)⟩
  case round =>
    obtain ⟨k, hk, rfl, B1, R1, hn⟩ := hrel
    have Hn := hide hn
    clear hn B0 R0
    by_cases hlt : k < 16
    · have ilt : (k : Int) < 16 := by omega
      have HR := hide (binV_row k hlt)
      have HI := hide (opr_in k hlt)
      have Hlt := hide hlt
      have z1 := R1.lt
      have HE := hide (show (opr k).op ≠ op → ∀ j, j < k + 1 → (opr j).op ≠ op from fun e j hj => by
        by_cases ej : j = k
        · subst ej; exact e
        · exact unhide Hn j (by omega))
      have HB := hide (show (opr k).op = op → isBin op = true from fun e => by rw [← e]; exact decide_eq_true (unhide HI))
      clear Hn HI hlt
      generalize opr k = o at HR HE HB
      have B2 := B1.alloc B1.size (.cells #[.int .i64 o.op, .int .i64 o.lv, .string o.text] 214)
      have R2 := R1.alloc (.cells #[.int .i64 o.op, .int .i64 o.lv, .string o.text] 214)
      have R3 := Row.new wr #[.int .i64 o.op, .int .i64 o.lv, .string o.text] 214
      by_cases ho : o.op = op
      · have eo : (o.op == op) = true := beq_iff_eq.2 ho
        have HB2 := hide (unhide HB ho)
        clear ho HB HE
        obtain ⟨q0, q1, q2, qf⟩ := row3 R1
        go_wp2_with (refine wpList_index_agg rfl 220 _ _ rfl binV rfl k rfl 16 214 Tryz.underlying220 (unhide Hlt) _ Tryz.underlying214 rfl 3 (by kernel_rfl) _ (unhide HR) ?_)
        have RF : Row _ w.heap.size #[.int .i64 o.op, .int .i64 o.lv, .string o.text] 214 := (((R1.set 0 (.int .i64 o.op)).set 1 (.int .i64 o.lv)).set 2 (.string o.text)).alloc (.cells #[.int .i64 o.op, .int .i64 o.lv, .string o.text] 214)
        have BF := (((B1.setCell (p := ⟨w.heap.size, 0, none⟩) (Nat.le_refl _) (.int .i64 o.op)).setCell (p := ⟨w.heap.size, 1, none⟩) (Nat.le_refl _) (.int .i64 o.lv)).setCell (p := ⟨w.heap.size, 2, none⟩) (Nat.le_refl _) (.string o.text))
        have BG := BF.alloc BF.size (.cells #[.int .i64 o.op, .int .i64 o.lv, .string o.text] 214)
        obtain ⟨g0, g1, g2, gf⟩ := row3 RF
        exact bodyPost_ret (res_bin Tryz.results116 rfl rfl g0 g1 g2) rfl ⟨⟨_, _, _, by rw [unhide HB2]; rfl⟩, BG⟩
      · have eo : (o.op == op) = false := beq_eq_false_iff_ne.2 ho
        have HE2 := hide (unhide HE ho)
        clear ho HB HE
        go_wp2_with (refine wpList_index_agg rfl 220 _ _ rfl binV rfl k rfl 16 214 Tryz.underlying220 (unhide Hlt) _ Tryz.underlying214 rfl 3 (by kernel_rfl) _ (unhide HR) ?_)
        go_roundw
        case rel => exact ⟨k + 1, unhide Hlt, by go_num, B2, R2, unhide HE2⟩
        case measure => have := unhide Hlt; simp [intOf]; omega
    · have e : k = 16 := by omega
      subst e
      have HB := hide (show isBin op = false from decide_eq_false fun h => by
        obtain ⟨j, hj, e⟩ := opr_some op h
        exact unhide Hn j hj e)
      clear Hn
      obtain ⟨q0, q1, q2, qf⟩ := row3 R1
      go_wp2_with fail
      have RF : Row _ w.heap.size #[.int .i64 0, .int .i64 0, .string ⟨#[]⟩] 214 := ((R1.set 0 (.int .i64 0)).set 1 (.int .i64 0)).set 2 (.string ⟨#[]⟩)
      have BF := (((B1.setCell (p := ⟨w.heap.size, 0, none⟩) (Nat.le_refl _) (.int .i64 0)).setCell (p := ⟨w.heap.size, 1, none⟩) (Nat.le_refl _) (.int .i64 0)).setCell (p := ⟨w.heap.size, 2, none⟩) (Nat.le_refl _) (.string ⟨#[]⟩))
      obtain ⟨g0, g1, g2, gf⟩ := row3 RF
      exact bodyPost_ret (res_bin Tryz.results116 rfl rfl g0 g1 g2) rfl ⟨⟨_, _, _, by rw [unhide HB]; rfl⟩, BF⟩

set_option maxHeartbeats 3200000 in
theorem kidCount_any (op : Int) (w : World) (hw : 12 < w.heap.size) (hc : ∀ k, w.cell? ⟨12, k, none⟩ = binV[k]?) :
    Calls Tryz.prog 105 #[.int .i64 op] w fun e w' => e = .returned (.int .i64 (kidN op)) ∧ Below w.heap.size w w' := by
  have HC := hide hc
  clear hc
  by_cases h0 : 1 ≤ op ∧ op ≤ 7
  · have : op = 1 ∨ op = 2 ∨ op = 3 ∨ op = 4 ∨ op = 5 ∨ op = 6 ∨ op = 7 := by omega
    rcases this with e | e | e | e | e | e | e <;> subst e <;> (go_enter Tryz.func105, Tryz.ntmps105; go_wp2; go_ret; exact ⟨rfl, Below.refl _ _⟩)
  by_cases h1 : 8 ≤ op ∧ op ≤ 10
  · have : op = 8 ∨ op = 9 ∨ op = 10 := by omega
    rcases this with e | e | e <;> subst e <;> (go_enter Tryz.func105, Tryz.ntmps105; go_wp2; go_ret; exact ⟨rfl, Below.refl _ _⟩)
  by_cases h3 : op = 27
  · subst h3
    go_enter Tryz.func105, Tryz.ntmps105
    go_wp2
    go_ret
    exact ⟨rfl, Below.refl _ _⟩
  have HK := hide (show kidN op = if isBin op = true then 2 else -1 by
    rw [kidN, if_neg h0, if_neg h1, isBin]
    by_cases h2 : 11 ≤ op ∧ op ≤ 26
    · rw [if_pos h2, if_pos (decide_eq_true h2)]
    · rw [if_neg h2, if_neg h3, if_neg (by rw [decide_eq_false h2]; decide)])
  have e1 : (op == 1) = false := beq_eq_false_iff_ne.2 (by omega)
  have e2 : (op == 2) = false := beq_eq_false_iff_ne.2 (by omega)
  have e3 : (op == 3) = false := beq_eq_false_iff_ne.2 (by omega)
  have e4 : (op == 4) = false := beq_eq_false_iff_ne.2 (by omega)
  have e5 : (op == 5) = false := beq_eq_false_iff_ne.2 (by omega)
  have e6 : (op == 6) = false := beq_eq_false_iff_ne.2 (by omega)
  have e7 : (op == 7) = false := beq_eq_false_iff_ne.2 (by omega)
  have e8 : (op == 8) = false := beq_eq_false_iff_ne.2 (by omega)
  have e9 : (op == 9) = false := beq_eq_false_iff_ne.2 (by omega)
  have e10 : (op == 10) = false := beq_eq_false_iff_ne.2 (by omega)
  have e27 : (op == 27) = false := beq_eq_false_iff_ne.2 (by omega)
  clear h0 h1 h3
  go_enter Tryz.func105, Tryz.ntmps105
  cases hb : isBin op
  · have Hb := hide hb
    clear hb
    go_wp2_with (go_at_call 116; refine (binaryOperator_any _ _ hw (unhide HC)).mono ?_; rintro e w2 ⟨⟨v0, v1, v2, rfl⟩, hb2⟩; rw [unhide Hb])
    go_ret
    exact ⟨by rw [unhide HK, unhide Hb]; rfl, hb2.alloc hb2.size _⟩
  · have Hb := hide hb
    clear hb
    go_wp2_with (go_at_call 116; refine (binaryOperator_any _ _ hw (unhide HC)).mono ?_; rintro e w2 ⟨⟨v0, v1, v2, rfl⟩, hb2⟩; rw [unhide Hb])
    go_ret
    exact ⟨by rw [unhide HK, unhide Hb]; rfl, hb2.alloc hb2.size _⟩

end Go.Proofs.YtddpcehgopeklaaGreatDoor

namespace Go.Proofs.YtddpcehgopeklaaGreatDoor
open Go.RowKit

def byte1 (x : Int) : ByteArray := ByteArray.empty.push (UInt8.ofNat x.toNat)

theorem byte1_size (x : Int) : (byte1 x).size = 1 := rfl

theorem conv1 (W : World) (x : Int) : (convert 149 9 (.slice (some ⟨W.heap.size, 0, none⟩) 1 1)).run Tryz.prog (W.alloc (.cells #[.int .u8 x] 5)) = .ok (.string (byte1 x)) (W.alloc (.cells #[.int .u8 x] 5)) := by
  rw [run_convert_bytes_string _ _ _ _ _ _ _ Tryz.underlying149 Tryz.underlying5 Tryz.underlying9]
  rw [run_bytesToString _ _ _ _ [x]]
  · rfl
  · have h : (W.alloc (.cells #[.int .u8 x] 5)).cell? ⟨W.heap.size, 0, none⟩ = some (.int .u8 x) := by simp
    simp [loadCells, h, go_sem]

theorem size_app (a b : ByteArray) : (a ++ b).size = a.size + b.size := ByteArray.size_append

end Go.Proofs.YtddpcehgopeklaaGreatDoor

namespace Go.Proofs.YtddpcehgopeklaaGreatDoor
open Go.RowKit

/-- decimal digits, put ahead of what is there -/
def digs : Nat → Nat → ByteArray → ByteArray
  | 0, _, l => l
  | f + 1, k, l => if k = 0 then l else digs f (k / 10) (byte1 (48 + (k : Int) % 10) ++ l)

theorem digs_zero (f : Nat) (l : ByteArray) : digs f 0 l = l := by cases f <;> simp [digs]

theorem digs_succ (f k : Nat) (l : ByteArray) (h : k ≠ 0) : digs (f + 1) k l = digs f (k / 10) (byte1 (48 + (k : Int) % 10) ++ l) := by simp [digs, h]

theorem digs_len : ∀ (f k : Nat) (l : ByteArray), (digs f k l).size ≤ l.size + k
  | 0, _, _ => by simp [digs]
  | f + 1, k, l => by
    by_cases h : k = 0
    · simp [digs, h]
    · have := digs_len f (k / 10) (byte1 (48 + (k : Int) % 10) ++ l)
      rw [digs_succ f k l h]
      rw [size_app, byte1_size] at this
      omega

def markS (k : Nat) : ByteArray := if k = 0 then ⟨#[109, 48]⟩ else ⟨#[109]⟩ ++ digs (k + 1) k ⟨#[]⟩

theorem markS_size (k : Nat) : (markS k).size ≤ k + 2 := by
  unfold markS
  by_cases h : k = 0
  · simp [h, ByteArray.size]
  · have := digs_len (k + 1) k ⟨#[]⟩
    rw [if_neg h, size_app]
    simp only [ByteArray.size, List.size_toArray, List.length_nil, List.length_cons] at this ⊢
    omega

set_option maxHeartbeats 800000 in
theorem markText_any (k : Nat) (w : World) (hk : k ≤ 35184372088832) :
    Calls Tryz.prog 51 #[.int .i64 k] w fun e w' => e = .returned (.string (markS k)) ∧ Below w.heap.size w w' := by
  by_cases h0 : k = 0
  · subst h0
    go_enter Tryz.func51, Tryz.ntmps51
    go_wp2
    go_ret
    exact ⟨rfl, Below.refl _ _⟩
  · have h1 : (0 : Int) < (k : Int) := by omega
    have Hm := hide (show markS k = ⟨#[109]⟩ ++ digs (k + 1) k ⟨#[]⟩ by rw [markS, if_neg h0])
    have hcv := conv1
    clear h0
    go_enter Tryz.func51, Tryz.ntmps51
    go_wp2
    go_loopw [0, 3] (fun i o wr => ∃ (m f : Nat) (l : ByteArray), i = .int .i64 m ∧ o = .string l ∧ m < f ∧ l.size + m ≤ k ∧ digs f m l = digs (k + 1) k ⟨#[]⟩ ∧ Below w.heap.size w wr) (fun i _ _ => (intOf i).toNat)
    case atStart => exact ⟨k, k + 1, ⟨#[]⟩, rfl, rfl, by omega, by simp [ByteArray.size], rfl, Below.refl _ _⟩
    case round =>
      obtain ⟨m, f, l, rfl, rfl, hmf, hl, hd, hb⟩ := hrel
      have hbs := hb.size
      by_cases hm : m = 0
      · subst hm
        rw [digs_zero] at hd
        have Hd := hide hd
        clear hd
        go_wp2
        go_ret
        exact ⟨by rw [unhide Hm, ← unhide Hd]; rfl, hb⟩
      · have hm' : (0 : Int) < (m : Int) := by omega
        obtain ⟨f', rfl⟩ : ∃ f', f = f' + 1 := ⟨f - 1, by omega⟩
        rw [digs_succ f' m l hm] at hd
        have Hd := hide hd
        clear hd
        have hs1 := byte1_size (48 + (m : Int) % 10)
        go_wp2
        go_roundw
        case rel => exact ⟨m / 10, f', _, by go_num, rfl, by omega, by rw [size_app, byte1_size]; omega, unhide Hd, hb.alloc hbs _⟩
        case measure => simp [intOf]; omega

theorem markText_int (x : Int) (w : World) (h0 : 0 ≤ x) (hk : x ≤ 35184372088832) :
    Calls Tryz.prog 51 #[.int .i64 x] w fun e w' => e = .returned (.string (markS x.toNat)) ∧ Below w.heap.size w w' := by
  obtain ⟨n, rfl⟩ := Int.eq_ofNat_of_zero_le h0
  rw [Int.toNat_natCast]
  exact markText_any n w (by omega)

end Go.Proofs.YtddpcehgopeklaaGreatDoor

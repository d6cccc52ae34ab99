/-
  GF, GH, GI, GK. Own work.
-/
import Derived.Test.YtcehablmloleaaaGreatDoorMXAN
import Derived.Test.YtcehablmloleaaaGreatDoorMXAO
import Derived.Test.YtcehablmloleaaaGreatDoorMXAD
import Derived.Test.YtcehablmloleaaaGreatDoorMXAB
import Derived.Test.YtcehablmloleaaaGreatDoorMXAH
import Derived.Test.YtcehablmloleaaaGreatDoorMXAG
import Derived.Test.YtcehablmloleaaaGreatDoorMXAM
namespace Go.Proofs.YtcehablmloleaaaGreatDoor
open Go.RowKit
set_option linter.unusedVariables false

/-- the token behind the last -/
def eT (tl : Nat) : Tok := ⟨0, 0, ofL [], tl⟩

def hdE (tl : Nat) : List Tok → Tok
  | [] => eT tl
  | t :: _ => t

/-- the parser as it lies -/
structure Pp (w : World) (pb g c : Nat) (T : List Tok) (tl : Nat) (ts : List Tok) (k : Nat) : Prop where
  row : Row w pb #[.slice (some ⟨g, 0, none⟩) (T.length + 1) c, .int .i64 (k : Int)] 75
  toks : w.ownsRow 0 42 4 (.slice (some ⟨g, 0, none⟩) (T.length + 1) c) (T.length + 1) (tokC (T ++ [eT tl]))
  drop : T.drop k = ts
  len : k + ts.length = T.length
  small : T.length ≤ 4000

theorem Pp.hd {w : World} {pb g c : Nat} {T : List Tok} {tl : Nat} {ts : List Tok} {k : Nat} (h : Pp w pb g c T tl ts k) : k < (T ++ [eT tl]).length ∧ ∀ hk, (T ++ [eT tl])[k]'hk = hdE tl ts := by
  have hl := h.len
  refine ⟨by simp; omega, fun hk => ?_⟩
  cases ts with
  | nil =>
    have e : k = T.length := by simpa using hl
    subst e
    simp [hdE]
  | cons t r =>
    have hk' : k < T.length := by simp at hl; omega
    rw [List.getElem_append_left hk']
    have := List.drop_eq_getElem_cons hk'
    rw [h.drop] at this
    injection this with h1 h2
    exact h1.symm

theorem Pp.cells {w : World} {pb g c : Nat} {T : List Tok} {tl : Nat} {ts : List Tok} {k : Nat} (h : Pp w pb g c T tl ts k) :
    w.cell? ⟨g, k * 4, none⟩ = some (.int .i64 (hdE tl ts).kind) ∧ w.cell? ⟨g, k * 4 + 1, none⟩ = some (.int .i64 (hdE tl ts).num) ∧ w.cell? ⟨g, k * 4 + 2, none⟩ = some (.string (hdE tl ts).text) ∧ w.cell? ⟨g, k * 4 + 3, none⟩ = some (.int .i64 ((hdE tl ts).at_ : Int)) := by
  obtain ⟨hk, he⟩ := h.hd
  obtain ⟨e0, e1, e2, e3⟩ := tokC_at (T ++ [eT tl]) k hk
  rw [he hk] at e0 e1 e2 e3
  have hl : k < T.length + 1 := by simpa using hk
  exact ⟨(h.toks.cellAt _ (by omega)).trans e0, (h.toks.cellAt _ (by omega)).trans e1, (h.toks.cellAt _ (by omega)).trans e2, (h.toks.cellAt _ (by omega)).trans e3⟩

theorem Pp.ne {w : World} {pb g c : Nat} {T : List Tok} {tl : Nat} {ts : List Tok} {k : Nat} (h : Pp w pb g c T tl ts k) : g ≠ pb := fun e => own_ne_row h.row h.toks (by decide) (by rw [e]; rfl)

theorem Pp.lt {w : World} {pb g c : Nat} {T : List Tok} {tl : Nat} {ts : List Tok} {k : Nat} (h : Pp w pb g c T tl ts k) : g < w.heap.size := (h.toks.lt g rfl).2

theorem Pp.below {w w' : World} {pb g c : Nat} {T : List Tok} {tl : Nat} {ts : List Tok} {k : Nat} (h : Pp w pb g c T tl ts k) (hb : Below w.heap.size w w') : Pp w' pb g c T tl ts k :=
  ⟨h.row.after hb (Nat.le_refl _), owns_blocksN h.toks (fun q hq => hb.block q (h.toks.lt q hq).2), h.drop, h.len, h.small⟩

theorem Pp.drew {w : World} {pb g c : Nat} {T : List Tok} {tl : Nat} {ts : List Tok} {k : Nat} (h : Pp w pb g c T tl ts k) : Pp w.drew pb g c T tl ts k := h.below (Below.refl w.heap.size w).drew

/-- the four cells behind a drawn order -/
theorem put4_drewP {W : World} {b : Nat} {u0 u1 u2 u3 : Value} {t : TypeId} (h : Row W b #[u0, u1, u2, u3] t) (v0 v1 v2 v3 : Value) :
    ((((W.setCell ⟨b, 0, none⟩ v0).setCell ⟨b, 1, none⟩ v1).setCell ⟨b, 2, none⟩ v2).setCell ⟨b, 3, none⟩ v3).drew.cell? ⟨b, 0, none⟩ = some v0 ∧ ((((W.setCell ⟨b, 0, none⟩ v0).setCell ⟨b, 1, none⟩ v1).setCell ⟨b, 2, none⟩ v2).setCell ⟨b, 3, none⟩ v3).drew.cell? ⟨b, 1, none⟩ = some v1 ∧
    ((((W.setCell ⟨b, 0, none⟩ v0).setCell ⟨b, 1, none⟩ v1).setCell ⟨b, 2, none⟩ v2).setCell ⟨b, 3, none⟩ v3).drew.cell? ⟨b, 2, none⟩ = some v2 ∧ ((((W.setCell ⟨b, 0, none⟩ v0).setCell ⟨b, 1, none⟩ v1).setCell ⟨b, 2, none⟩ v2).setCell ⟨b, 3, none⟩ v3).drew.cell? ⟨b, 3, none⟩ = some v3 := by
  have R : Row ((((W.setCell ⟨b, 0, none⟩ v0).setCell ⟨b, 1, none⟩ v1).setCell ⟨b, 2, none⟩ v2).setCell ⟨b, 3, none⟩ v3).drew b #[v0, v1, v2, v3] t := ⟨(put4_row h v0 v1 v2 v3).out⟩
  obtain ⟨g0, g1, g2, g3, _⟩ := row4 R
  exact ⟨g0, g1, g2, g3⟩

/-- a token out of its block -/
theorem res_tok {fn : Func} {a : Tmp} (h : fn.results = #[.cell a 42]) {tmps : Array Value} {w : World} {b : Nat} {v0 v1 v2 v3 : Value} (ha : tmps.getD a undef = .pointer (some ⟨b, 0, none⟩))
    (g0 : w.cell? ⟨b, 0, none⟩ = some v0) (g1 : w.cell? ⟨b, 1, none⟩ = some v1) (g2 : w.cell? ⟨b, 2, none⟩ = some v2) (g3 : w.cell? ⟨b, 3, none⟩ = some v3) :
    (results fn tmps).run Tryz.prog w = .ok (.agg #[v0, v1, v2, v3]) w := by
  rw [Array.getD_eq_getD_getElem?] at ha
  simp [results, h, ha, go_sem, g0, g1, g2, g3]

/-- a token as a value -/
def tokV (t : Tok) : Value := .agg #[.int .i64 t.kind, .int .i64 t.num, .string t.text, .int .i64 (t.at_ : Int)]

set_option maxHeartbeats 1600000 in
theorem peek_any {w : World} {pb g c : Nat} {T : List Tok} {tl : Nat} {ts : List Tok} {k : Nat} (h : Pp w pb g c T tl ts k) :
    Calls Tryz.prog 83 #[.pointer (some ⟨pb, 0, none⟩)] w fun e w' => e = .returned (tokV (hdE tl ts)) ∧ Below w.heap.size w w' := by
  have B0 := (Below.refl w.heap.size w).alloc (Nat.le_refl _) (.cells #[.int .i64 0, .int .i64 0, .string ⟨#[]⟩, .int .i64 0] 42)
  have R0 := Row.new w #[.int .i64 0, .int .i64 0, .string ⟨#[]⟩, .int .i64 0] 42
  have hW := h.below B0
  obtain ⟨c0, c1, c2, c3⟩ := hW.cells
  have r0 := hW.row.cell 0
  have r1 := hW.row.cell 1
  have hl := h.len
  have ik : (k : Int) < ((T.length + 1 : Nat) : Int) := by omega
  have hlt := h.lt
  have pl := h.row.lt
  obtain ⟨d0, d1, d2, d3, df⟩ := row4 R0
  simp only [List.getElem?_toArray, List.getElem?_cons_zero, List.getElem?_cons_succ] at r0 r1
  generalize hdE tl ts = t at c0 c1 c2 c3 ⊢
  clear h hW
  go_enter Tryz.func83, Tryz.ntmps83
  go_wp2_with fail
  generalize w.alloc (.cells #[.int .i64 0, .int .i64 0, .string ⟨#[]⟩, .int .i64 0] 42) = W at *
  go_region
  go_wp2_with fail
  have BF := put4_below (b := w.heap.size) B0 (Nat.le_refl _) (.int .i64 t.kind) (.int .i64 t.num) (.string t.text) (.int .i64 (t.at_ : Int))
  obtain ⟨g0, g1, g2, g3⟩ := put4_drewP R0 (.int .i64 t.kind) (.int .i64 t.num) (.string t.text) (.int .i64 (t.at_ : Int))
  exact bodyPost_ret (res_tok Tryz.results83 rfl g0 g1 g2 g3) rfl ⟨rfl, BF.drew⟩

theorem Touch.setNewP {lo hi : Nat} {w w' : World} (T : Touch lo hi w w') (p : Addr) (u : Value) (hp : w.heap.size ≤ p.block) : Touch lo hi w (w'.setCell p u) :=
  ⟨T.os, T.tape, T.output, by simp; exact T.size, fun k h1 h2 => (heap_setCell_other w' p k u (by omega)).trans (T.block k h1 h2)⟩

theorem Touch.put4P {lo hi : Nat} {w w' : World} {b : Nat} (T : Touch lo hi w w') (hp : w.heap.size ≤ b) (v0 v1 v2 v3 : Value) : Touch lo hi w (put4 w' b v0 v1 v2 v3) :=
  (((T.setNewP ⟨b, 0, none⟩ v0 hp).setNewP ⟨b, 1, none⟩ v1 hp).setNewP ⟨b, 2, none⟩ v2 hp).setNewP ⟨b, 3, none⟩ v3 hp

theorem Touch.allP {lo hi : Nat} {w w1 w2 : World} (T : Touch lo hi w w1) (h : Below w1.heap.size w1 w2) : Touch lo hi w w2 := T.trans (Touch.of_below h (Nat.le_refl _))

theorem Pp.next {w : World} {pb g c : Nat} {T : List Tok} {tl : Nat} {t : Tok} {r : List Tok} {k : Nat} (h : Pp w pb g c T tl (t :: r) k) {w' : World} (hr : Row w' pb #[.slice (some ⟨g, 0, none⟩) (T.length + 1) c, .int .i64 ((k : Int) + 1)] 75) (ht : Touch pb (pb + 1) w w') : Pp w' pb g c T tl r (k + 1) := by
  have hl := h.len
  have hd := h.drop
  refine ⟨by rw [show ((k + 1 : Nat) : Int) = (k : Int) + 1 by omega]; exact hr, owns_blocksN h.toks (fun q hq => ?_), ?_, by simp at hl; omega, h.small⟩
  · have e : g = q := by simpa [Value.ownBlock] using hq
    have hn := h.ne
    exact ht.block q (by rw [← e]; exact h.lt) (by omega)
  · rw [← List.drop_drop, hd]; rfl

set_option maxHeartbeats 1600000 in
theorem take_any {w : World} {pb g c : Nat} {T : List Tok} {tl : Nat} {t : Tok} {r : List Tok} {k : Nat} (h : Pp w pb g c T tl (t :: r) k) :
    Calls Tryz.prog 95 #[.pointer (some ⟨pb, 0, none⟩)] w fun e w' => e = .returned (tokV t) ∧ Pp w' pb g c T tl r (k + 1) ∧ Touch pb (pb + 1) w w' := by
  have B0 := (Below.refl w.heap.size w).alloc (Nat.le_refl _) (.cells #[.int .i64 0, .int .i64 0, .string ⟨#[]⟩, .int .i64 0] 42)
  have R0 := Row.new w #[.int .i64 0, .int .i64 0, .string ⟨#[]⟩, .int .i64 0] 42
  have hW := h.below B0
  obtain ⟨c0, c1, c2, c3⟩ := hW.cells
  have r0 := hW.row.cell 0
  have r1 := hW.row.cell 1
  have hl := h.len
  have ik : (k : Int) < ((T.length + 1 : Nat) : Int) := by omega
  have hlt := h.lt
  have pl := h.row.lt
  obtain ⟨d0, d1, d2, d3, df⟩ := row4 R0
  simp only [List.getElem?_toArray, List.getElem?_cons_zero, List.getElem?_cons_succ] at r0 r1
  have B1 := B0.alloc B0.size (.cells #[.int .i64 0, .int .i64 0, .string ⟨#[]⟩, .int .i64 0] 42)
  have hV := h.below B1
  obtain ⟨e0, e1, e2, e3⟩ := hV.cells
  have s0 := hV.row.cell 0
  have s1 := hV.row.cell 1
  simp only [List.getElem?_toArray, List.getElem?_cons_zero, List.getElem?_cons_succ] at s0 s1
  have z0 : (w.alloc (.cells #[.int .i64 0, .int .i64 0, .string ⟨#[]⟩, .int .i64 0] 42)).heap.size = w.heap.size + 1 := by simp
  go_enter Tryz.func95, Tryz.ntmps95
  go_wp2_with fail
  go_region
  dsimp only [hdE] at *
  have B2 := (B0.alloc B0.size (.cells #[.int .i64 t.kind, .int .i64 t.num, .string t.text, .int .i64 (t.at_ : Int)] 42)).drew
  have hX := h.below B2
  have RX := ((R0.alloc (.cells #[.int .i64 t.kind, .int .i64 t.num, .string t.text, .int .i64 (t.at_ : Int)] 42)).after (Below.refl _ _).drew (Nat.le_refl _))
  have RY := (Row.new (w.alloc (.cells #[.int .i64 0, .int .i64 0, .string ⟨#[]⟩, .int .i64 0] 42)) #[.int .i64 t.kind, .int .i64 t.num, .string t.text, .int .i64 (t.at_ : Int)] 42).after (Below.refl _ _).drew (Nat.le_refl _)
  rw [z0] at RY
  generalize ((w.alloc (.cells #[.int .i64 0, .int .i64 0, .string ⟨#[]⟩, .int .i64 0] 42)).alloc (.cells #[.int .i64 t.kind, .int .i64 t.num, .string t.text, .int .i64 (t.at_ : Int)] 42)).drew = X at B2 hX RX RY ⊢
  clear c0 c1 c2 c3 r0 r1 d0 d1 d2 d3 df e0 e1 e2 e3 s0 s1 hV hW R0 B0 B1 z0
  have r1 := hX.row.cell 1
  have rf := fun j => hX.row.frozen j
  simp only [List.getElem?_toArray, List.getElem?_cons_zero, List.getElem?_cons_succ] at r1
  obtain ⟨d0, d1, d2, d3, df⟩ := row4 RX
  obtain ⟨e0, e1, e2, e3, ef⟩ := row4 RY
  have n1 : w.heap.size ≠ pb := by omega
  have n2 : w.heap.size + 1 ≠ pb := by omega
  have n3 : pb ≠ w.heap.size := by omega
  have n4 : pb ≠ w.heap.size + 1 := by omega
  go_wp2_with fail
  have ew : wrap64 ((k : Int) + 1) = (k : Int) + 1 := by
    have hs := h.small
    have : k ≤ 4000 := by omega
    simp [wrap64]; omega
  rw [ew]
  have R1 := hX.row.set 1 (.int .i64 ((k : Int) + 1))
  have T1 := (Touch.of_below (lo := pb) (hi := pb + 1) B2 (Nat.le_refl _)).trans (Touch.setCell X ⟨pb, 1, none⟩ (.int .i64 ((k : Int) + 1)) (Nat.le_refl _) (Nat.lt_succ_self _))
  have RX1 := RX.setFar (p := ⟨pb, 1, none⟩) n1 (.int .i64 ((k : Int) + 1))
  generalize X.setCell ⟨pb, 1, none⟩ (.int .i64 ((k : Int) + 1)) = Y at R1 T1 RX1 ⊢
  have RF : Row (put4 Y w.heap.size (.int .i64 t.kind) (.int .i64 t.num) (.string t.text) (.int .i64 (t.at_ : Int))) pb _ 75 := ⟨(put4_block Y w.heap.size pb _ _ _ _ n3).trans R1.out⟩
  have TF := T1.put4P (b := w.heap.size) (Nat.le_refl _) (.int .i64 t.kind) (.int .i64 t.num) (.string t.text) (.int .i64 (t.at_ : Int))
  obtain ⟨g0, g1, g2, g3, _⟩ := row4 (put4_row RX1 (.int .i64 t.kind) (.int .i64 t.num) (.string t.text) (.int .i64 (t.at_ : Int)))
  simp only [put4] at g0 g1 g2 g3
  exact bodyPost_ret (res_tok Tryz.results95 rfl g0 g1 g2 g3) rfl ⟨rfl, h.next RF TF, TF⟩

end Go.Proofs.YtcehablmloleaaaGreatDoor

namespace Go.Proofs.YtcehablmloleaaaGreatDoor
open Go.RowKit
set_option linter.unusedVariables false

theorem see_hd (s : List UInt8) (tl : Nat) (ts : List Tok) : see s (hdE tl ts) = sees s ts := by
  cases ts with
  | nil => rfl
  | cons t r => rfl

theorem eqS_dec (a b : ByteArray) : (a.toList == b.toList) = decide (a = b) := by
  have h := eqS_iff a b
  rw [eqS] at h
  by_cases e : a = b
  · rw [decide_eq_true e]; exact h.2 e
  · rw [decide_eq_false e, Bool.eq_false_iff]; exact fun k => e (h.1 k)

set_option maxHeartbeats 1600000 in
theorem sees_any {w : World} {pb g c : Nat} {T : List Tok} {tl : Nat} {ts : List Tok} {k : Nat} (h : Pp w pb g c T tl ts k) (s : List UInt8) :
    Calls Tryz.prog 79 #[.pointer (some ⟨pb, 0, none⟩), .string (ofL s)] w fun e w' => e = .returned (.bool (sees s ts)) ∧ Below w.heap.size w w' := by
  rw [← see_hd s tl ts]
  have HP := hide (peek_any h)
  generalize hdE tl ts = t at HP ⊢
  clear h
  go_enter Tryz.func79, Tryz.ntmps79
  go_wp2_with fail
  refine (unhide HP).mono ?_
  rintro e w1 ⟨rfl, hb⟩
  rw [tokV]
  dsimp only
  go_wp2_with fail
  all_goals
    go_ret
    refine ⟨?_, hb.alloc hb.size _⟩
    congr 2
    simp [see, eqS_dec, *]

/-- a syntax error in memory -/
def SyE (aY : Addr) (tl : Nat) (q : List Tok) (b : Nat) (w : World) : Prop := Row w b #[.int .i64 ((hdE tl q).at_ : Int), .iface 207 (.pointer (some aY))] 88

def errP (b : Nat) : Value := .iface 83 (.pointer (some ⟨b, 0, none⟩))

/-- the sentinel lies there -/
structure Gy (w : World) (aY : Addr) : Prop where
  cell : w.cell? ⟨6, 0, none⟩ = some (.iface 207 (.pointer (some aY)))
  big : 17 ≤ w.heap.size
  tab : ∀ k, w.cell? ⟨13, k, none⟩ = binV[k]?

theorem Gy.touch {w w' : World} {aY : Addr} {pb : Nat} (h : Gy w aY) (T : Touch pb (pb + 1) w w') (hp : 17 ≤ pb) : Gy w' aY := by
  have hb := h.big
  have key : ∀ q, q < 17 → ∀ j, w'.cell? ⟨q, j, none⟩ = w.cell? ⟨q, j, none⟩ := fun q hq j => by
    unfold World.cell?
    rw [T.block q (by omega) (.inl (by omega))]
  exact ⟨(key _ (by decide) 0).trans h.cell, Nat.le_trans hb T.size, fun k => (key _ (by decide) k).trans (h.tab k)⟩

theorem Gy.below {w w' : World} {aY : Addr} (h : Gy w aY) (hb : Below w.heap.size w w') : Gy w' aY := h.touch (Touch.of_below (lo := 17) (hi := 17 + 1) hb (Nat.le_refl _)) (Nat.le_refl _)

theorem field_at (a b c d : Value) (w : World) : (Instr.field 42 (.agg #[a, b, c, d]) 3).run Tryz.prog w = .ok d w := by
  simp [Instr.field, run_underlying Tryz.underlying42, Sem.run_bind, part, asAgg, isAgg, go_sem]

set_option maxRecDepth 100000 in
set_option maxHeartbeats 1600000 in
theorem stuck_any {w : World} {pb g c : Nat} {T : List Tok} {tl : Nat} {ts : List Tok} {k : Nat} {aY : Addr} (h : Pp w pb g c T tl ts k) (hg : Gy w aY) :
    Calls Tryz.prog 62 #[.pointer (some ⟨pb, 0, none⟩)] w fun e w' => ∃ b, e = .returned (errP b) ∧ SyE aY tl ts b w' ∧ Below w.heap.size w w' := by
  have HP := hide (peek_any h.drew)
  have q0 := hg.cell
  have q1 := (hg.below (Below.refl w.heap.size w).drew).cell
  have HG := hide (hg.below (Below.refl w.heap.size w).drew)
  have B0 := (Below.refl w.heap.size w).drew
  unfold SyE
  generalize hdE tl ts = t at HP ⊢
  have fa := field_at (.int .i64 t.kind) (.int .i64 t.num) (.string t.text) (.int .i64 (t.at_ : Int))
  clear h hg
  go_enter Tryz.func62, Tryz.ntmps62
  go_wp2_with fail
  go_region_held3 (fun w' => w'.cell? ⟨6, 0, none⟩ = some (.iface 207 (.pointer (some aY)))) (first | assumption | go_keep) (first
    | (go_at_call 59; refine (faultAt_any _ _ _ w1).mono ?_; rintro e w2 ⟨rfl, R2, hb2⟩; have q3 := ((unhide HG).below hb1 |>.below hb2).cell)
    | (go_at_call 83; refine (unhide HP).mono ?_; rintro e w1 ⟨rfl, hb1⟩; rw [tokV]; have q2 := ((unhide HG).below hb1).cell)
    | fail)
  all_goals
    go_wp2_with fail
    go_ret
    exact ⟨_, rfl, R2, B0.trans ((hb1.mono B0.size).trans (hb2.mono (Nat.le_trans B0.size hb1.size)))⟩

set_option maxHeartbeats 1600000 in
theorem expect_ok {w : World} {pb g c : Nat} {T : List Tok} {tl : Nat} {t : Tok} {r : List Tok} {k : Nat} (h : Pp w pb g c T tl (t :: r) k) (s : List UInt8) (hs : see s t = true) :
    Calls Tryz.prog 97 #[.pointer (some ⟨pb, 0, none⟩), .string (ofL s)] w fun e w' => e = .returned .nilIface ∧ Pp w' pb g c T tl r (k + 1) ∧ Touch pb (pb + 1) w w' := by
  have HS := hide (sees_any h s)
  have HE := hide (show sees s (t :: r) = true from hs)
  have HT := hide (fun w' (hb : Below w.heap.size w w') => take_any (h.below hb))
  clear h hs
  go_enter Tryz.func97, Tryz.ntmps97
  go_wp2_with fail
  refine (unhide HS).mono ?_
  rintro e w1 ⟨rfl, hb⟩
  rw [unhide HE]
  dsimp only
  go_wp2_with fail
  refine (unhide HT w1 hb).mono ?_
  rintro e w2 ⟨rfl, P2, T2⟩
  dsimp only [tokV]
  go_wp2_with fail
  go_ret
  exact ⟨rfl, P2, (Touch.of_below hb (Nat.le_refl _)).trans T2⟩

set_option maxHeartbeats 1600000 in
theorem expect_no {w : World} {pb g c : Nat} {T : List Tok} {tl : Nat} {ts : List Tok} {k : Nat} {aY : Addr} (h : Pp w pb g c T tl ts k) (hg : Gy w aY) (s : List UInt8) (hs : sees s ts = false) :
    Calls Tryz.prog 97 #[.pointer (some ⟨pb, 0, none⟩), .string (ofL s)] w fun e w' => ∃ b, e = .returned (errP b) ∧ SyE aY tl ts b w' ∧ Below w.heap.size w w' := by
  have HS := hide (sees_any h s)
  have HE := hide hs
  have HT := hide (fun w' (hb : Below w.heap.size w w') => stuck_any (h.below hb) (hg.below hb))
  clear h hs hg
  go_enter Tryz.func97, Tryz.ntmps97
  go_wp2_with fail
  refine (unhide HS).mono ?_
  rintro e w1 ⟨rfl, hb⟩
  rw [unhide HE]
  dsimp only
  go_wp2_with fail
  refine (unhide HT w1 hb).mono ?_
  rintro e w2 ⟨b, rfl, R2, hb2⟩
  dsimp only [errP]
  go_wp2_with fail
  go_ret
  exact ⟨b, rfl, R2, hb.trans (hb2.mono hb.size)⟩

end Go.Proofs.YtcehablmloleaaaGreatDoor

namespace Go.Proofs.YtcehablmloleaaaGreatDoor
open Go.RowKit
set_option linter.unusedVariables false

/-- a tree of the program's is the tree that was read -/
def Er : Ex → Pt → Prop
  | .int i n, .int j m => i = j ∧ n = m
  | .text i s, .text j t => i = j ∧ s = t
  | .bool i b, .bool j d => i = j ∧ b = d
  | .set i _ _ _ K, .set j ss => i = j ∧ IsSorted ss K
  | .name i s, .name j t => i = j ∧ s = t
  | .un i op k, .un j o q => i = j ∧ op = o ∧ Er k q
  | .bin i op l r, .bin j o p q => i = j ∧ op = o ∧ Er l p ∧ Er r q
  | .ite i c t e, .ite j x y z => i = j ∧ Er c x ∧ Er t y ∧ Er e z
  | _, _ => False

/-- its sets are the call's own -/
def Ex.own (lo : Nat) (w : World) : Ex → Prop
  | .set _ a n c ss => w.ownsRow lo 9 1 (.slice a n c) n (ss.map Value.string)
  | .un _ _ k => k.own lo w
  | .bin _ _ l r => l.own lo w ∧ r.own lo w
  | .ite _ c t e => c.own lo w ∧ t.own lo w ∧ e.own lo w
  | _ => True

theorem Ex.own_touch {pb : Nat} {w w' : World} (T : Touch pb (pb + 1) w w') : ∀ (e : Ex), e.own (pb + 1) w → e.own (pb + 1) w'
  | .int .., h => h
  | .text .., h => h
  | .bool .., h => h
  | .set _ a n c ss, h => by
    have h' : w.ownsRow (pb + 1) 9 1 (.slice a n c) n (ss.map Value.string) := h
    exact owns_blocksN h' (fun q hq => T.block q (h'.lt q hq).2 (.inr (h'.lt q hq).1))
  | .name .., h => h
  | .attr .., h => h
  | .lett .., h => h
  | .un _ _ k, h => k.own_touch T h
  | .bin _ _ l r, h => ⟨l.own_touch T h.1, r.own_touch T h.2⟩
  | .ite _ c t e, h => ⟨c.own_touch T h.1, t.own_touch T h.2.1, e.own_touch T h.2.2⟩

/-- nothing, or something, in an interface -/
def isIf (v : Value) : Prop := v = .nilIface ∨ ∃ t u, v = .iface t u

/-- what a rule's method answers -/
def PrA (aY : Addr) (pb g c : Nat) (T : List Tok) (tl : Nat) : PR → World → Ending → World → Prop
  | .ok p q, w, r, w' => (∃ e k, r = .returned (.tuple #[Ex.val e, .nilIface]) ∧ Er e p ∧ e.own (pb + 1) w' ∧ Pp w' pb g c T tl q k) ∧ Touch pb (pb + 1) w w'
  | .bad q, w, r, w' => (∃ v b, r = .returned (.tuple #[v, errP b]) ∧ isIf v ∧ SyE aY tl q b w') ∧ Touch pb (pb + 1) w w'

theorem PrA.from {aY : Addr} {pb g c : Nat} {T : List Tok} {tl : Nat} {x : PR} {w0 w w' : World} {r : Ending} (h : PrA aY pb g c T tl x w r w') (T0 : Touch pb (pb + 1) w0 w) : PrA aY pb g c T tl x w0 r w' := by
  cases x with
  | ok p q => exact ⟨h.1, T0.trans h.2⟩
  | bad q => exact ⟨h.1, T0.trans h.2⟩

theorem Ex.val_if (e : Ex) : isIf e.val := .inr (by obtain ⟨t, u, h⟩ := e.form; exact ⟨t, u, h⟩)

theorem PrA.form {aY : Addr} {pb g c : Nat} {T : List Tok} {tl : Nat} {x : PR} {w w' : World} {r : Ending} (h : PrA aY pb g c T tl x w r w') : ∃ v e, r = .returned (.tuple #[v, e]) ∧ isIf v ∧ isIf e := by
  cases x with
  | ok p q => obtain ⟨⟨e, k, rfl, _⟩, _⟩ := h; exact ⟨_, _, rfl, e.val_if, .inl rfl⟩
  | bad q => obtain ⟨⟨v, b, rfl, hv, _⟩, _⟩ := h; exact ⟨_, _, rfl, hv, .inr ⟨_, _, rfl⟩⟩

/-- the method of a rule -/
def NT.fn : NT → Nat
  | .expr => 103
  | .chain _ => 111
  | .opd _ => 117
  | .neg => 121
  | .cmp => 125
  | .una => 122
  | .prim => 126
  | .encl => 131
  | .beh _ => 96
  | .more _ _ => 0

def NT.args (pb : Nat) : NT → Array Value
  | .chain k => #[.pointer (some ⟨pb, 0, none⟩), .int .i64 (k : Int)]
  | .opd k => #[.pointer (some ⟨pb, 0, none⟩), .int .i64 (k : Int)]
  | .beh s => #[.pointer (some ⟨pb, 0, none⟩), .string (ofL s)]
  | _ => #[.pointer (some ⟨pb, 0, none⟩)]

/-- a rule's method keeps to its rule -/
def CS (aY : Addr) (pb g c : Nat) (T : List Tok) (tl : Nat) (nt : NT) (ts : List Tok) (x : PR) : Prop :=
  ∀ w k, Pp w pb g c T tl ts k → Gy w aY → Calls Tryz.prog nt.fn (nt.args pb) w (PrA aY pb g c T tl x w)

variable {aY : Addr} {pb g c : Nat} {T : List Tok} {tl : Nat}

set_option maxHeartbeats 1600000 in
theorem beh_step (hp : 17 ≤ pb) (s : List UInt8) (ts : List Tok) (x : PR) (d : D (.beh s) ts x) (IH : ∀ r x, D .expr r x → r.length < ts.length → CS aY pb g c T tl .expr r x) : CS aY pb g c T tl (.beh s) ts x := by
  intro w k h hg
  show Calls Tryz.prog 96 #[.pointer (some ⟨pb, 0, none⟩), .string (ofL s)] w (PrA aY pb g c T tl x w)
  cases d with
  | beh_no hs =>
    have HS := hide (expect_no h hg s hs)
    clear h hs hg IH
    go_enter Tryz.func96, Tryz.ntmps96
    go_wp2_with fail
    refine (unhide HS).mono ?_
    rintro e w1 ⟨b, rfl, R1, hb⟩
    dsimp only [errP]
    go_wp2_with fail
    go_ret2
    exact ⟨⟨.nilIface, b, rfl, .inl rfl, R1⟩, Touch.of_below hb (Nat.le_refl _)⟩
  | @beh s t r x hs d =>
    have HS := hide (expect_ok h s hs)
    have HI := hide (IH r x d (by simp))
    have HG := hide hg
    clear h hs hg IH
    go_enter Tryz.func96, Tryz.ntmps96
    go_wp2_with fail
    refine (unhide HS).mono ?_
    rintro e w1 ⟨rfl, P1, T1⟩
    dsimp only
    go_wp2_with fail
    refine (unhide HI w1 _ P1 ((unhide HG).touch T1 hp)).mono ?_
    intro r w2 hr
    obtain ⟨v, e, rfl, hv, he⟩ := hr.form
    have HR := hide (hr.from T1)
    clear hr
    dsimp only
    go_wp2_with fail
    go_ret2
    exact unhide HR


set_option maxRecDepth 100000 in
set_option maxHeartbeats 1600000 in
theorem encl_step (hp : 17 ≤ pb) (ts : List Tok) (x : PR) (d : D .encl ts x) (IH : ∀ x, D (.beh kLpar) ts x → CS aY pb g c T tl (.beh kLpar) ts x) : CS aY pb g c T tl .encl ts x := by
  intro w k h hg
  show Calls Tryz.prog 131 #[.pointer (some ⟨pb, 0, none⟩)] w (PrA aY pb g c T tl x w)
  have HG := hide hg
  cases d with
  | encl_bad d =>
    have HS := hide (IH _ d w k h hg)
    clear h hg IH
    go_enter Tryz.func131, Tryz.ntmps131
    go_wp2_with fail
    refine (unhide HS).mono ?_
    rintro e w1 ⟨⟨v, b, rfl, hv, R1⟩, T1⟩
    rcases hv with rfl | ⟨tv, uv, rfl⟩
    all_goals
      dsimp only [errP]
      go_wp2_with fail
      go_ret2
      exact ⟨⟨.nilIface, b, rfl, .inl rfl, R1⟩, T1⟩
  | @encl_end ts r p d hs =>
    have HS := hide (IH _ d w k h hg)
    clear h hg IH
    go_enter Tryz.func131, Tryz.ntmps131
    go_wp2_with fail
    refine (unhide HS).mono ?_
    rintro e w1 ⟨⟨e, k1, rfl, he, ho, P1⟩, T1⟩
    obtain ⟨te, ue, hf⟩ := e.form
    rw [hf]
    dsimp only
    have HE := hide (expect_no P1 ((unhide HG).touch T1 hp) kRpar hs)
    clear P1
    go_wp2_with fail
    refine (unhide HE).mono ?_
    rintro e w2 ⟨b, rfl, R2, hb⟩
    dsimp only [errP]
    go_wp2_with fail
    go_ret2
    exact ⟨⟨_, b, rfl, .inr ⟨_, _, rfl⟩, R2⟩, T1.allP hb⟩
  | @encl ts r p t d hs =>
    have HS := hide (IH _ d w k h hg)
    clear h hg IH
    go_enter Tryz.func131, Tryz.ntmps131
    go_wp2_with fail
    refine (unhide HS).mono ?_
    rintro e w1 ⟨⟨e, k1, rfl, he, ho, P1⟩, T1⟩
    obtain ⟨te, ue, hf⟩ := e.form
    have HO := hide (And.intro he ho)
    rw [hf]
    have HF := hide hf
    clear he ho hf
    dsimp only
    have HE := hide (expect_ok P1 kRpar hs)
    clear P1
    go_wp2_with fail
    refine (unhide HE).mono ?_
    rintro e w2 ⟨rfl, P2, T2⟩
    dsimp only
    go_wp2_with fail
    go_ret2
    exact ⟨⟨e, _, by rw [unhide HF]; rfl, (unhide HO).1, e.own_touch T2 (unhide HO).2, P2⟩, T1.trans T2⟩

end Go.Proofs.YtcehablmloleaaaGreatDoor

namespace Go.Proofs.YtcehablmloleaaaGreatDoor
open Go.RowKit
set_option linter.unusedVariables false
variable {aY : Addr} {pb g c : Nat} {T : List Tok} {tl : Nat}

theorem opr_mem : ∀ j, j < 16 → (toL (opr j).text, (opr j).op) ∈ opsOf (opr j).lv.toNat ∧ 0 ≤ (opr j).lv
  | 0, _ => by decide
  | 1, _ => by decide
  | 2, _ => by decide
  | 3, _ => by decide
  | 4, _ => by decide
  | 5, _ => by decide
  | 6, _ => by decide
  | 7, _ => by decide
  | 8, _ => by decide
  | 9, _ => by decide
  | 10, _ => by decide
  | 11, _ => by decide
  | 12, _ => by decide
  | 13, _ => by decide
  | 14, _ => by decide
  | 15, _ => by decide
  | n + 16, h => absurd h (by omega)

theorem mem_opr {k : Nat} {p : List UInt8 × Int} (h : p ∈ opsOf k) : ∃ j, j < 16 ∧ (opr j).lv = (k : Int) ∧ toL (opr j).text = p.1 := by
  have a1 : ∀ p ∈ opsOf 1, ∃ j, j < 16 ∧ (opr j).lv = ((1 : Nat) : Int) ∧ toL (opr j).text = p.1 := by decide
  have a2 : ∀ p ∈ opsOf 2, ∃ j, j < 16 ∧ (opr j).lv = ((2 : Nat) : Int) ∧ toL (opr j).text = p.1 := by decide
  have a4 : ∀ p ∈ opsOf 4, ∃ j, j < 16 ∧ (opr j).lv = ((4 : Nat) : Int) ∧ toL (opr j).text = p.1 := by decide
  have a5 : ∀ p ∈ opsOf 5, ∃ j, j < 16 ∧ (opr j).lv = ((5 : Nat) : Int) ∧ toL (opr j).text = p.1 := by decide
  have a6 : ∀ p ∈ opsOf 6, ∃ j, j < 16 ∧ (opr j).lv = ((6 : Nat) : Int) ∧ toL (opr j).text = p.1 := by decide
  match k, h with
  | 0, h | 3, h => cases h
  | 1, h => exact a1 p h
  | 2, h => exact a2 p h
  | 4, h => exact a4 p h
  | 5, h => exact a5 p h
  | 6, h => exact a6 p h
  | k + 7, h => cases h

theorem ops_fun {k : Nat} : ∀ p ∈ opsOf k, ∀ q ∈ opsOf k, p.1 = q.1 → p = q := by
  match k with
  | 0 | 3 => intro p h; cases h
  | 1 => decide
  | 2 => decide
  | 4 => decide
  | 5 => decide
  | 6 => decide
  | k + 7 => intro p h; cases h

theorem opOf_hit {k : Nat} {t : Tok} {s : List UInt8} {op : Int} (h : (s, op) ∈ opsOf k) (hs : see s t = true) : opOf k t = some op := by
  cases hf : (opsOf k).find? (fun p => see p.1 t) with
  | none => rw [List.find?_eq_none] at hf; exact absurd hs (hf _ h)
  | some q =>
    have h1 := List.mem_of_find?_eq_some hf
    have h2 : see q.1 t = true := by have := List.find?_some hf; simpa using this
    have e : s = q.1 := by
      by_cases e : s = q.1
      · exact e
      · rw [see_ne hs e] at h2; cases h2
    have := ops_fun _ h _ h1 e
    rw [opOf, hf, ← this]; rfl

theorem opOf_miss {k : Nat} {t : Tok} (h : ∀ j, j < 16 → (opr j).lv = (k : Int) → see (toL (opr j).text) t = false) : opOf k t = none := by
  rw [opOf, Option.map_eq_none_iff, List.find?_eq_none]
  intro p hp
  obtain ⟨j, hj, h1, h2⟩ := mem_opr hp
  have := h j hj h1
  rw [h2] at this
  simp [this]

/-- what operatorOf answers -/
def OpA (k : Nat) (t : Tok) (r : Ending) : Prop := match opOf k t with
  | some op => ∃ tx, r = .returned (.tuple #[.agg #[.int .i64 op, .int .i64 (k : Int), .string tx], .bool true])
  | none => r = .returned (.tuple #[.agg #[.int .i64 0, .int .i64 0, .string ⟨#[]⟩], .bool false])

set_option maxRecDepth 100000 in
set_option maxHeartbeats 3200000 in
theorem operatorOf_any (lv : Nat) {w : World} {ts : List Tok} {k : Nat} (h : Pp w pb g c T tl ts k) (hg : Gy w aY) :
    Calls Tryz.prog 118 #[.pointer (some ⟨pb, 0, none⟩), .int .i64 (lv : Int)] w fun e w' => OpA lv (hdE tl ts) e ∧ Below w.heap.size w w' := by
  have hw := hg.big
  have HC := hide (show ∀ k, (w.alloc (.cells #[.int .i64 0, .int .i64 0, .string ⟨#[]⟩] 202)).cell? ⟨13, k, none⟩ = binV[k]? from fun k => (World.cell?_alloc_lt _ _ ⟨13, k, none⟩ (by show 13 < _; omega)).trans (hg.tab k))
  have HP := hide h
  clear hg h
  have B0 := (Below.refl w.heap.size w).alloc (Nat.le_refl _) (.cells #[.int .i64 0, .int .i64 0, .string ⟨#[]⟩] 202)
  have R0 := Row.new w #[.int .i64 0, .int .i64 0, .string ⟨#[]⟩] 202
  go_enter Tryz.func118, Tryz.ntmps118
  go_wp2_with (refine wpList_load_cells rfl 210 _ rfl 13 rfl binV _ (unhide HC) Tryz.underlying210 rfl (by kernel_rfl) ?_)
  clear HC
  go_loopw [9] (fun i wr => ∃ j : Nat, j ≤ 16 ∧ i = .int .i64 j ∧ Below w.heap.size w wr ∧ Row wr w.heap.size #[.int .i64 0, .int .i64 0, .string ⟨#[]⟩] 202 ∧ ∀ i, i < j → (opr i).lv = (lv : Int) → see (toL (opr i).text) (hdE tl ts) = false) (fun i _ => 16 - (intOf i).toNat)
  case atStart => exact ⟨0, by omega, rfl, B0, R0, fun j h => absurd h (by omega)⟩
  case round =>
    obtain ⟨j, hj, rfl, B1, R1, hn⟩ := hrel
    have Hn := hide hn
    clear hn B0 R0
    by_cases hlt : j < 16
    · have ilt : (j : Int) < 16 := by omega
      have HR := hide (binV_row j hlt)
      have HM := hide (opr_mem j hlt)
      have Hlt := hide hlt
      have HE := hide (show ((opr j).lv = (lv : Int) → see (toL (opr j).text) (hdE tl ts) = false) → ∀ i, i < j + 1 → (opr i).lv = (lv : Int) → see (toL (opr i).text) (hdE tl ts) = false from fun e i hi => by
        by_cases ei : i = j
        · subst ei; exact e
        · exact unhide Hn i (by omega))
      clear Hn hlt
      generalize opr j = o at HR HE HM
      have B2 := B1.alloc B1.size (.cells #[.int .i64 o.op, .int .i64 o.lv, .string o.text] 202)
      have R2 := R1.alloc (.cells #[.int .i64 o.op, .int .i64 o.lv, .string o.text] 202)
      have R3 := Row.new wr #[.int .i64 o.op, .int .i64 o.lv, .string o.text] 202
      by_cases ho : o.lv = (lv : Int)
      · have eo : (o.lv == (lv : Int)) = true := beq_iff_eq.2 ho
        have HS := hide (sees_any ((unhide HP).below B2) (toL o.text))
        rw [ofL_toL] at HS
        cases hs : see (toL o.text) (hdE tl ts)
        · have HE2 := hide (unhide HE (fun _ => hs))
          have Hs := hide (show sees (toL o.text) ts = false by rw [← see_hd (toL o.text) tl ts]; exact hs)
          clear ho HE hs
          go_wp2_with (first | (refine wpList_index_agg rfl 210 _ _ rfl binV rfl j rfl 16 202 Tryz.underlying210 (unhide Hlt) _ Tryz.underlying202 rfl 3 (by kernel_rfl) _ (unhide HR) ?_) | (go_at_call 79; refine (unhide HS).mono ?_; rintro e w2 ⟨rfl, hb2⟩; rw [unhide Hs]))
          have B3 := B2.trans (hb2.mono B2.size)
          have R4 := R2.after hb2 (Nat.le_refl _)
          go_roundw
          case rel => exact ⟨j + 1, unhide Hlt, by go_num, B3, R4, unhide HE2⟩
          case measure => have := unhide Hlt; simp [intOf]; omega
        · have Hs := hide (show sees (toL o.text) ts = true by rw [← see_hd (toL o.text) tl ts]; exact hs)
          have HO := hide (show opOf lv (hdE tl ts) = some o.op from opOf_hit (s := toL o.text) (by have := (unhide HM).1; rw [ho] at this; exact this) hs)
          have Ho := hide ho
          clear HE hs ho HM
          have zz := R1.lt
          have nz : wr.heap.size ≠ w.heap.size := by omega
          have nz' : w.heap.size ≠ wr.heap.size := by omega
          go_wp2_with (first | (refine wpList_index_agg rfl 210 _ _ rfl binV rfl j rfl 16 202 Tryz.underlying210 (unhide Hlt) _ Tryz.underlying202 rfl 3 (by kernel_rfl) _ (unhide HR) ?_) | (go_at_call 79; refine (unhide HS).mono ?_; rintro e w2 ⟨rfl, hb2⟩; rw [unhide Hs]; obtain ⟨q0, q1, q2, qf⟩ := row3 (R2.after hb2 (Nat.le_refl _)); obtain ⟨p0, p1, p2, pf⟩ := row3 (R3.after hb2 (Nat.le_refl _))))
          have B3 := B2.trans (hb2.mono B2.size)
          have R4 := R2.after hb2 (Nat.le_refl _)
          have RF : Row _ w.heap.size #[.int .i64 o.op, .int .i64 o.lv, .string o.text] 202 := (((R4.set 0 (.int .i64 o.op)).set 1 (.int .i64 o.lv)).set 2 (.string o.text))
          have BF := (((B3.setCell (p := ⟨w.heap.size, 0, none⟩) (Nat.le_refl _) (.int .i64 o.op)).setCell (p := ⟨w.heap.size, 1, none⟩) (Nat.le_refl _) (.int .i64 o.lv)).setCell (p := ⟨w.heap.size, 2, none⟩) (Nat.le_refl _) (.string o.text))
          obtain ⟨g0, g1, g2, gf⟩ := row3 RF
          exact bodyPost_ret (res_bin Tryz.results118 rfl rfl g0 g1 g2) rfl ⟨by rw [OpA, unhide HO, unhide Ho]; exact ⟨_, rfl⟩, BF⟩
      · have eo : (o.lv == (lv : Int)) = false := beq_eq_false_iff_ne.2 ho
        have HE2 := hide (unhide HE (fun e => absurd e ho))
        clear ho HE
        go_wp2_with (refine wpList_index_agg rfl 210 _ _ rfl binV rfl j rfl 16 202 Tryz.underlying210 (unhide Hlt) _ Tryz.underlying202 rfl 3 (by kernel_rfl) _ (unhide HR) ?_)
        go_roundw
        case rel => exact ⟨j + 1, unhide Hlt, by go_num, B2, R2, unhide HE2⟩
        case measure => have := unhide Hlt; simp [intOf]; omega
    · have e : j = 16 := by omega
      subst e
      have HO := hide (show opOf lv (hdE tl ts) = none from opOf_miss (unhide Hn))
      clear Hn
      obtain ⟨q0, q1, q2, qf⟩ := row3 R1
      go_wp2_with fail
      have RF : Row _ w.heap.size #[.int .i64 0, .int .i64 0, .string ⟨#[]⟩] 202 := ((R1.set 0 (.int .i64 0)).set 1 (.int .i64 0)).set 2 (.string ⟨#[]⟩)
      have BF := (((B1.setCell (p := ⟨w.heap.size, 0, none⟩) (Nat.le_refl _) (.int .i64 0)).setCell (p := ⟨w.heap.size, 1, none⟩) (Nat.le_refl _) (.int .i64 0)).setCell (p := ⟨w.heap.size, 2, none⟩) (Nat.le_refl _) (.string ⟨#[]⟩))
      obtain ⟨g0, g1, g2, gf⟩ := row3 RF
      exact bodyPost_ret (res_bin Tryz.results118 rfl rfl g0 g1 g2) rfl ⟨by rw [OpA, unhide HO]; rfl, BF⟩

end Go.Proofs.YtcehablmloleaaaGreatDoor

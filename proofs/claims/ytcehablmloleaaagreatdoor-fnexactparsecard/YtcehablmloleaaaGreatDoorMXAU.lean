/-
  GT, GU. Own work.
-/
import Derived.Test.YtcehablmloleaaaGreatDoorMXAT
import Derived.Test.YtcehablmloleaaaGreatDoorNUI
namespace Go.Proofs.YtcehablmloleaaaGreatDoor
open Go.RowKit
set_option linter.unusedVariables false
variable {aY : Addr} {pb g c : Nat} {T : List Tok} {tl : Nat}

def ErO : Option Ex → Option Pt → Prop
  | none, none => True
  | some e, some p => Er e p
  | _, _ => False

def ownO (lo : Nat) (w : World) : Option Ex → Prop
  | none => True
  | some e => e.own lo w

theorem ownO_touch {pb : Nat} {w w' : World} (T : Touch pb (pb + 1) w w') (o : Option Ex) (h : ownO (pb + 1) w o) : ownO (pb + 1) w' o := by
  cases o with
  | none => trivial
  | some e => exact e.own_touch T h

theorem optX_if (o : Option Ex) : isIf (optX o) := by
  cases o with
  | none => exact .inl rfl
  | some e => exact e.val_if

/-- what decisionBehind answers -/
def DrA (aY : Addr) (pb g c : Nat) (T : List Tok) (tl : Nat) : DR → World → Ending → World → Prop
  | .ok p q, w, r, w' => (∃ o k, r = .returned (.tuple #[optX o, .nilIface]) ∧ ErO o p ∧ ownO (pb + 1) w' o ∧ Pp w' pb g c T tl q k) ∧ Touch pb (pb + 1) w w'
  | .bad q, w, r, w' => (∃ v b, r = .returned (.tuple #[v, errP b]) ∧ isIf v ∧ SyE aY tl q b w') ∧ Touch pb (pb + 1) w w'

set_option maxRecDepth 100000 in
set_option maxHeartbeats 1600000 in
theorem decision_any (hp : 17 ≤ pb) (s : List UInt8) (ts : List Tok) (x : DR) (d : DD s ts x) (w : World) (k : Nat) (h : Pp w pb g c T tl ts k) (hg : Gy w aY) :
    Calls Tryz.prog 98 #[.pointer (some ⟨pb, 0, none⟩), .string (ofL s)] w (DrA aY pb g c T tl x w) := by
  have HG := hide hg
  cases d with
  | no hs =>
    have HS := hide (expect_no h hg s hs)
    clear h hs hg
    go_enter Tryz.func98, Tryz.ntmps98
    go_wp2_with fail
    refine (unhide HS).mono ?_
    rintro e w1 ⟨b, rfl, R1, hb⟩
    dsimp only [errP]
    go_wp2_with fail
    go_ret2
    exact ⟨⟨.nilIface, b, rfl, .inl rfl, R1⟩, Touch.of_below hb (Nat.le_refl _)⟩
  | @deny t u r hs hu =>
    have HS := hide (expect_ok h s hs)
    have HU := hide (show sees kDeny (u :: r) = true from hu)
    clear h hs hg hu
    go_enter Tryz.func98, Tryz.ntmps98
    go_wp2_with fail
    refine (unhide HS).mono ?_
    rintro e w1 ⟨rfl, P1, T1⟩
    have HV := hide (sees_any P1 kDeny)
    have HP := hide P1
    clear P1
    dsimp only
    go_wp2_with fail
    refine (unhide HV).mono ?_
    rintro e w2 ⟨rfl, hb2⟩
    rw [unhide HU]
    have HT := hide (take_any ((unhide HP).below hb2))
    dsimp only
    go_wp2_with fail
    refine (unhide HT).mono ?_
    rintro e w3 ⟨rfl, P3, T3⟩
    dsimp only [tokV]
    go_wp2_with fail
    go_ret2
    exact ⟨⟨none, _, rfl, trivial, trivial, P3⟩, (T1.allP hb2).trans T3⟩
  | @grant t r q e hs hu d =>
    have HS := hide (expect_ok h s hs)
    have HU := hide hu
    have HD := hide d
    clear h hs hg hu d
    go_enter Tryz.func98, Tryz.ntmps98
    go_wp2_with fail
    refine (unhide HS).mono ?_
    rintro e w1 ⟨rfl, P1, T1⟩
    have HV := hide (sees_any P1 kDeny)
    have HP := hide P1
    clear P1
    dsimp only
    go_wp2_with fail
    refine (unhide HV).mono ?_
    rintro e w2 ⟨rfl, hb2⟩
    rw [unhide HU]
    have HT := hide (beh_any (aY := aY) hp kGrant _ _ (unhide HD) w2 _ ((unhide HP).below hb2) (((unhide HG).touch T1 hp).below hb2))
    dsimp only
    go_wp2_with fail
    refine (unhide HT).mono ?_
    rintro e w3 ⟨⟨e, k3, rfl, he, ho, P3⟩, T3⟩
    obtain ⟨te, ue, hf⟩ := e.form
    have HE := hide (And.intro he (And.intro ho hf))
    rw [hf]
    clear he ho hf
    dsimp only
    go_wp2_with fail
    go_ret2
    exact ⟨⟨some e, k3, by rw [optX, (unhide HE).2.2]; rfl, (unhide HE).1, (unhide HE).2.1, P3⟩, (T1.allP hb2).trans T3⟩
  | @grant_bad t r q hs hu d =>
    have HS := hide (expect_ok h s hs)
    have HU := hide hu
    have HD := hide d
    clear h hs hg hu d
    go_enter Tryz.func98, Tryz.ntmps98
    go_wp2_with fail
    refine (unhide HS).mono ?_
    rintro e w1 ⟨rfl, P1, T1⟩
    have HV := hide (sees_any P1 kDeny)
    have HP := hide P1
    clear P1
    dsimp only
    go_wp2_with fail
    refine (unhide HV).mono ?_
    rintro e w2 ⟨rfl, hb2⟩
    rw [unhide HU]
    have HT := hide (beh_any (aY := aY) hp kGrant _ _ (unhide HD) w2 _ ((unhide HP).below hb2) (((unhide HG).touch T1 hp).below hb2))
    dsimp only
    go_wp2_with fail
    refine (unhide HT).mono ?_
    rintro e w3 ⟨⟨v, b, rfl, hv, RE⟩, T3⟩
    rcases hv with rfl | ⟨tv, uv, rfl⟩
    all_goals
      dsimp only [errP]
      go_wp2_with fail
      go_ret2
      exact ⟨⟨_, b, rfl, by first | exact .inl rfl | exact .inr ⟨_, _, rfl⟩, RE⟩, (T1.allP hb2).trans T3⟩

/-- what a statement's method answers -/
def StA (aY : Addr) (pb g c : Nat) (T : List Tok) (tl : Nat) : SR → World → Ending → World → Prop
  | .ok s q, w, r, w' => (∃ o1 o2 k, r = .returned (.tuple #[.agg #[.int .i64 (s.at_ : Int), .int .i64 s.kind, .string s.name, optX o1, optX o2], .nilIface]) ∧ ErO o1 s.cond ∧ ErO o2 s.grant ∧ ownO (pb + 1) w' o1 ∧ ownO (pb + 1) w' o2 ∧ Pp w' pb g c T tl q k) ∧ Touch pb (pb + 1) w w'
  | .bad q, w, r, w' => (∃ i1 i2 n v3 v4 b, r = .returned (.tuple #[.agg #[.int .i64 i1, .int .i64 i2, .string n, v3, v4], errP b]) ∧ isIf v3 ∧ isIf v4 ∧ SyE aY tl q b w') ∧ Touch pb (pb + 1) w w'

theorem StA.from {aY : Addr} {pb g c : Nat} {T : List Tok} {tl : Nat} {x : SR} {w0 w w' : World} {r : Ending} (h : StA aY pb g c T tl x w r w') (T0 : Touch pb (pb + 1) w0 w) : StA aY pb g c T tl x w0 r w' := by
  cases x with
  | ok p q => exact ⟨h.1, T0.trans h.2⟩
  | bad q => exact ⟨h.1, T0.trans h.2⟩

theorem field_kd (a b c d : Value) (w : World) : (Instr.field 42 (.agg #[a, b, c, d]) 0).run Tryz.prog w = .ok a w := by
  simp [Instr.field, run_underlying Tryz.underlying42, Sem.run_bind, part, asAgg, isAgg, go_sem]

/-- the five cells set -/
def put5 (W : World) (b : Nat) (v0 v1 v2 v3 v4 : Value) : World := (put4 W b v0 v1 v2 v3).setCell ⟨b, 4, none⟩ v4

theorem put5_block (W : World) (b k : Nat) (v0 v1 v2 v3 v4 : Value) (h : k ≠ b) : (put5 W b v0 v1 v2 v3 v4).heap[k]? = W.heap[k]? := by
  unfold put5
  rw [heap_setCell_other _ _ _ _ h, put4_block _ _ _ _ _ _ _ h]

theorem put5_row {W : World} {b : Nat} {u0 u1 u2 u3 u4 : Value} {t : TypeId} (h : Row W b #[u0, u1, u2, u3, u4] t) (v0 v1 v2 v3 v4 : Value) : Row (put5 W b v0 v1 v2 v3 v4) b #[v0, v1, v2, v3, v4] t := by
  have := ((((h.set 0 v0).set 1 v1).set 2 v2).set 3 v3).set 4 v4
  exact this

theorem Touch.put5 {lo hi : Nat} {w w' : World} {b : Nat} (T : Touch lo hi w w') (hp : w.heap.size ≤ b) (v0 v1 v2 v3 v4 : Value) : Touch lo hi w (put5 w' b v0 v1 v2 v3 v4) := (T.put4P hp v0 v1 v2 v3).setNewP ⟨b, 4, none⟩ v4 hp

/-- a statement out of its block, and an error -/
theorem res_st {fn : Func} {a u : Tmp} (h : fn.results = #[.cell a 111, .tmp u]) {tmps : Array Value} {w : World} {b : Nat} {cs : Array Value} {v0 v1 v2 v3 v4 e : Value} (ha : tmps.getD a undef = .pointer (some ⟨b, 0, none⟩)) (hu : tmps.getD u undef = e)
    (R : Row w b #[v0, v1, v2, v3, v4] 111) :
    (results fn tmps).run Tryz.prog w = .ok (.tuple #[.agg #[v0, v1, v2, v3, v4], e]) w := by
  rw [Array.getD_eq_getD_getElem?] at ha hu
  have g0 : w.cell? ⟨b, 0, none⟩ = some v0 := R.cell 0
  have g1 : w.cell? ⟨b, 1, none⟩ = some v1 := R.cell 1
  have g2 : w.cell? ⟨b, 2, none⟩ = some v2 := R.cell 2
  have g3 : w.cell? ⟨b, 3, none⟩ = some v3 := R.cell 3
  have g4 : w.cell? ⟨b, 4, none⟩ = some v4 := R.cell 4
  simp [results, h, ha, hu, go_sem, g0, g1, g2, g3, g4]

theorem row5P {w : World} {b : Nat} {v0 v1 v2 v3 v4 : Value} {t : TypeId} (R : Row w b #[v0, v1, v2, v3, v4] t) : w.cell? ⟨b, 0, none⟩ = some v0 ∧ w.cell? ⟨b, 1, none⟩ = some v1 ∧ w.cell? ⟨b, 2, none⟩ = some v2 ∧ w.cell? ⟨b, 3, none⟩ = some v3 ∧ w.cell? ⟨b, 4, none⟩ = some v4 ∧ ∀ j, w.frozen? ⟨b, j, none⟩ = false := ⟨R.cell 0, R.cell 1, R.cell 2, R.cell 3, R.cell 4, fun j => R.frozen j⟩

theorem Pp.put5 {w : World} {k : Nat} {ts : List Tok} (h : Pp w pb g c T tl ts k) {b : Nat} {cs : Array Value} (R : Row w b cs 111) (v0 v1 v2 v3 v4 : Value) : Pp (put5 w b v0 v1 v2 v3 v4) pb g c T tl ts k := by
  have hn : pb ≠ b := fun e => by
    have r1 := R.out
    have r2 := h.row.out
    rw [e, r1] at r2
    injection r2 with r2
    injection r2 with _ r2
    exact absurd r2 (by decide)
  exact ⟨⟨(put5_block w b pb _ _ _ _ _ hn).trans h.row.out⟩, owns_blocksN h.toks (fun q hq => put5_block w b q _ _ _ _ _ (fun e => own_ne_row R h.toks (by decide) (by rw [hq, e]))), h.drop, h.len, h.small⟩

theorem Ex.own_of {lo : Nat} {w w' : World} (hk : ∀ (v : Value) (n : Nat) (xs : List Value), w.ownsRow lo 9 1 v n xs → ∀ q, v.ownBlock = some q → w'.heap[q]? = w.heap[q]?) : ∀ (e : Ex), e.own lo w → e.own lo w'
  | .int .., h => h
  | .text .., h => h
  | .bool .., h => h
  | .set _ a n c ss, h => owns_blocksN h (fun q hq => hk _ _ _ h q hq)
  | .name .., h => h
  | .attr .., h => h
  | .lett .., h => h
  | .un _ _ k, h => k.own_of hk h
  | .bin _ _ l r, h => ⟨l.own_of hk h.1, r.own_of hk h.2⟩
  | .ite _ c t e, h => ⟨c.own_of hk h.1, t.own_of hk h.2.1, e.own_of hk h.2.2⟩

theorem Ex.own_put5 {lo : Nat} {w : World} {b : Nat} {cs : Array Value} (R : Row w b cs 111) (v0 v1 v2 v3 v4 : Value) (e : Ex) (h : e.own lo w) : e.own lo (put5 w b v0 v1 v2 v3 v4) :=
  e.own_of (fun v n xs h' q hq => put5_block w b q _ _ _ _ _ (fun e => own_ne_row R h' (by decide) (by rw [hq, e]))) h

theorem ownO_put5 {lo : Nat} {w : World} {b : Nat} {cs : Array Value} (R : Row w b cs 111) (v0 v1 v2 v3 v4 : Value) (o : Option Ex) (h : ownO lo w o) : ownO lo (put5 w b v0 v1 v2 v3 v4) o := by
  cases o with
  | none => trivial
  | some e => exact e.own_put5 R v0 v1 v2 v3 v4 h

theorem SyE.put5 {w : World} {b' : Nat} {q : List Tok} (h : SyE aY tl q b' w) {b : Nat} {cs : Array Value} (R : Row w b cs 111) (v0 v1 v2 v3 v4 : Value) : SyE aY tl q b' (put5 w b v0 v1 v2 v3 v4) := by
  have h' : Row w b' _ 88 := h
  have hn : b' ≠ b := fun e => by
    have r1 := R.out
    have r2 := h'.out
    rw [e, r1] at r2
    injection r2 with r2
    injection r2 with _ r2
    exact absurd r2 (by decide)
  exact ⟨(put5_block w b b' _ _ _ _ _ hn).trans h'.out⟩

end Go.Proofs.YtcehablmloleaaaGreatDoor

namespace Go.Proofs.YtcehablmloleaaaGreatDoor
open Go.RowKit
set_option linter.unusedVariables false
variable {aY : Addr} {pb g c : Nat} {T : List Tok} {tl : Nat}

set_option maxRecDepth 100000 in
set_option maxHeartbeats 1600000 in
theorem let_no_any (hp : 17 ≤ pb) (t : Tok) (r : List Tok) (hn : (hdE tl r).kind ≠ 3) (w : World) (k : Nat) (h : Pp w pb g c T tl (t :: r) k) (hg : Gy w aY) :
    Calls Tryz.prog 80 #[.pointer (some ⟨pb, 0, none⟩)] w (StA aY pb g c T tl (.bad r) w) := by
  have B0 := (Below.refl w.heap.size w).alloc (Nat.le_refl _) (.cells #[.int .i64 0, .int .i64 0, .string ⟨#[]⟩, .nilIface, .nilIface] 111)
  have R0 := Row.new w #[.int .i64 0, .int .i64 0, .string ⟨#[]⟩, .nilIface, .nilIface] 111
  have HG := hide (hg.below B0)
  have hW := h.below B0
  have nz := h.row.lt
  have fa := field_at (.int .i64 t.kind) (.int .i64 t.num) (.string t.text) (.int .i64 (t.at_ : Int))
  have e3 : ((hdE tl r).kind != 3) = true := bne_iff_ne.2 hn
  clear h hg
  go_enter Tryz.func80, Tryz.ntmps80
  go_wp2_with fail
  generalize w.alloc (.cells #[.int .i64 0, .int .i64 0, .string ⟨#[]⟩, .nilIface, .nilIface] 111) = W at *
  refine (take_any hW).mono ?_
  rintro e w1 ⟨rfl, P1, T1⟩
  have R1 := R0.touchP T1 (.inr nz)
  have T01 := (Touch.of_below (lo := pb) (hi := pb + 1) B0 (Nat.le_refl _)).trans T1
  have HP := hide (peek_any P1)
  have HST := hide (fun w' (hb : Below w1.heap.size w1 w') => stuck_any (P1.below hb) (((unhide HG).touch T1 hp).below hb))
  clear P1
  dsimp only [tokV]
  go_wp2_with fail
  refine (unhide HP).mono ?_
  rintro e w2 ⟨rfl, hb2⟩
  generalize hdE tl r = u at e3
  have fk := field_kd (.int .i64 u.kind) (.int .i64 u.num) (.string u.text) (.int .i64 (u.at_ : Int))
  dsimp only [tokV]
  go_wp2_with fail
  refine (unhide HST w2 hb2).mono ?_
  rintro e w3 ⟨b, rfl, RE, hb3⟩
  have R3 := (R1.after hb2 (Nat.le_refl _)).after hb3 (Nat.le_refl _)
  have T3 := (T01.allP hb2).allP hb3
  obtain ⟨c0, c1, c2, c3, c4, cf⟩ := row5P R3
  dsimp only [errP]
  go_wp2_with fail
  exact bodyPost_ret (res_st (cs := #[]) Tryz.results80 rfl rfl (put5_row R3 (.int .i64 0) (.int .i64 0) (.string ⟨#[]⟩) .nilIface .nilIface)) rfl ⟨⟨_, _, _, _, _, b, rfl, .inl rfl, .inl rfl, RE.put5 R3 (.int .i64 0) (.int .i64 0) (.string ⟨#[]⟩) .nilIface .nilIface⟩, T3.put5 (Nat.le_refl _) (.int .i64 0) (.int .i64 0) (.string ⟨#[]⟩) .nilIface .nilIface⟩

/-- what a let is read as -/
def letX (t n : Tok) : PR → SR
  | .bad q => .bad q
  | .ok e [] => .bad []
  | .ok e (u :: q) => if see kSemi u = true then .ok ⟨t.at_, 1, n.text, some e, none⟩ q else .bad (u :: q)

set_option maxRecDepth 100000 in
set_option maxHeartbeats 1600000 in
theorem let_any (hp : 17 ≤ pb) (t n : Tok) (r : List Tok) (y : PR) (hn : n.kind = 3) (d : D (.beh kEq) r y) (w : World) (k : Nat) (h : Pp w pb g c T tl (t :: n :: r) k) (hg : Gy w aY) :
    Calls Tryz.prog 80 #[.pointer (some ⟨pb, 0, none⟩)] w (StA aY pb g c T tl (letX t n y) w) := by
  have B0 := (Below.refl w.heap.size w).alloc (Nat.le_refl _) (.cells #[.int .i64 0, .int .i64 0, .string ⟨#[]⟩, .nilIface, .nilIface] 111)
  have R0 := Row.new w #[.int .i64 0, .int .i64 0, .string ⟨#[]⟩, .nilIface, .nilIface] 111
  have HG := hide (hg.below B0)
  have hW := h.below B0
  have nz := h.row.lt
  have fa := field_at (.int .i64 t.kind) (.int .i64 t.num) (.string t.text) (.int .i64 (t.at_ : Int))
  have fk := field_kd (.int .i64 n.kind) (.int .i64 n.num) (.string n.text) (.int .i64 (n.at_ : Int))
  have ft := field_tx (.int .i64 n.kind) (.int .i64 n.num) (.string n.text) (.int .i64 (n.at_ : Int))
  have e3 : (n.kind != 3) = false := by rw [hn]; rfl
  have HD := hide d
  clear h hg
  go_enter Tryz.func80, Tryz.ntmps80
  go_wp2_with fail
  generalize w.alloc (.cells #[.int .i64 0, .int .i64 0, .string ⟨#[]⟩, .nilIface, .nilIface] 111) = W at *
  refine (take_any hW).mono ?_
  rintro e w1 ⟨rfl, P1, T1⟩
  have R1 := R0.touchP T1 (.inr nz)
  have T01 := (Touch.of_below (lo := pb) (hi := pb + 1) B0 (Nat.le_refl _)).trans T1
  have HP := hide (peek_any P1)
  have HTK := hide (fun w' (hb : Below w1.heap.size w1 w') => take_any (P1.below hb))
  clear P1 hW d hn
  dsimp only [tokV]
  go_wp2_with fail
  refine (unhide HP).mono ?_
  rintro e w2 ⟨rfl, hb2⟩
  dsimp only [tokV, hdE]
  go_wp2_with fail
  refine (unhide HTK w2 hb2).mono ?_
  rintro e w3 ⟨rfl, P3, T3⟩
  have R3 := (R1.after hb2 (Nat.le_refl _)).touchP T3 (.inr nz)
  have T13 := (Touch.of_below (lo := pb) (hi := pb + 1) hb2 (Nat.le_refl _)).trans T3
  have T03 := T01.trans T13
  have HG3 := hide (((unhide HG).touch T1 hp).touch T13 hp)
  have HB := hide (beh_any (aY := aY) hp kEq r y (unhide HD) w3 _ P3 (unhide HG3))
  clear P3
  dsimp only [tokV]
  go_wp2_with fail
  refine (unhide HB).mono ?_
  intro rr w4 hr
  cases y with
  | bad q =>
    obtain ⟨⟨v, b, rfl, hv, RE⟩, T4⟩ := hr
    have R4 := R3.touchP T4 (.inr nz)
    have T5 := T03.trans T4
    obtain ⟨c0, c1, c2, c3, c4, cf⟩ := row5P R4
    rcases hv with rfl | ⟨tv, uv, rfl⟩
    all_goals
      dsimp only [errP]
      go_wp2_with fail
      exact bodyPost_ret (res_st (cs := #[]) Tryz.results80 rfl rfl (put5_row R4 (.int .i64 0) (.int .i64 0) (.string ⟨#[]⟩) .nilIface .nilIface)) rfl ⟨⟨_, _, _, _, _, b, rfl, .inl rfl, .inl rfl, RE.put5 R4 (.int .i64 0) (.int .i64 0) (.string ⟨#[]⟩) .nilIface .nilIface⟩, T5.put5 (Nat.le_refl _) (.int .i64 0) (.int .i64 0) (.string ⟨#[]⟩) .nilIface .nilIface⟩
  | ok p q =>
    obtain ⟨⟨e, k4, rfl, he, ho, P4⟩, T4⟩ := hr
    have R4 := R3.touchP T4 (.inr nz)
    have T5 := T03.trans T4
    have HG4 := hide ((unhide HG3).touch T4 hp)
    obtain ⟨te, ue, hf⟩ := e.form
    have HE0 := hide (And.intro he (And.intro ho hf))
    rw [hf]
    have HX : (sees kSemi q = false → letX t n (.ok p q) = .bad q) ∧ (∀ u q', q = u :: q' → see kSemi u = true → letX t n (.ok p q) = .ok ⟨t.at_, 1, n.text, some p, none⟩ q') := ⟨fun h => by
        cases q with
        | nil => rfl
        | cons u q => exact if_neg (by rw [show see kSemi u = false from h]; decide), fun u q' e h => by subst e; exact if_pos h⟩
    clear he ho hf
    cases hq : sees kSemi q
    · have HE := hide (expect_no P4 (unhide HG4) kSemi hq)
      have HXX := hide (HX.1 hq)
      clear hq
      dsimp only
      go_wp2_with fail
      refine (unhide HE).mono ?_
      rintro e wz ⟨b, rfl, RE, hbz⟩
      have Rz := R4.after hbz (Nat.le_refl _)
      have Tz := T5.allP hbz
      obtain ⟨c0, c1, c2, c3, c4, cf⟩ := row5P Rz
      dsimp only [errP]
      go_wp2_with fail
      rw [unhide HXX]
      exact bodyPost_ret (res_st (cs := #[]) Tryz.results80 rfl rfl (put5_row Rz (.int .i64 (t.at_ : Int)) (.int .i64 1) (.string n.text) (.iface te ue) .nilIface)) rfl ⟨⟨_, _, _, _, _, b, rfl, .inr ⟨_, _, rfl⟩, .inl rfl, RE.put5 Rz (.int .i64 (t.at_ : Int)) (.int .i64 1) (.string n.text) (.iface te ue) .nilIface⟩, Tz.put5 (Nat.le_refl _) (.int .i64 (t.at_ : Int)) (.int .i64 1) (.string n.text) (.iface te ue) .nilIface⟩
    · obtain ⟨u, q', rfl⟩ : ∃ u q', q = u :: q' := by
        cases q with
        | nil => cases hq
        | cons u q' => exact ⟨u, q', rfl⟩
      have HE := hide (expect_ok P4 kSemi hq)
      have HXX := hide (HX.2 u q' rfl hq)
      clear hq
      dsimp only
      go_wp2_with fail
      refine (unhide HE).mono ?_
      rintro e wz ⟨rfl, Pz, Tz0⟩
      have Rz := R4.touchP Tz0 (.inr nz)
      have Tz := T5.trans Tz0
      obtain ⟨c0, c1, c2, c3, c4, cf⟩ := row5P Rz
      dsimp only
      go_wp2_with fail
      rw [unhide HXX]
      exact bodyPost_ret (res_st (cs := #[]) Tryz.results80 rfl rfl (put5_row Rz (.int .i64 (t.at_ : Int)) (.int .i64 1) (.string n.text) (.iface te ue) .nilIface)) rfl ⟨⟨some e, none, _, by rw [optX, optX, (unhide HE0).2.2]; rfl, (unhide HE0).1, trivial, ownO_put5 Rz _ _ _ _ _ (some e) (e.own_touch Tz0 (unhide HE0).2.1), trivial, Pz.put5 Rz (.int .i64 (t.at_ : Int)) (.int .i64 1) (.string n.text) (.iface te ue) .nilIface⟩, Tz.put5 (Nat.le_refl _) (.int .i64 (t.at_ : Int)) (.int .i64 1) (.string n.text) (.iface te ue) .nilIface⟩

/-- what a when is read as -/
def whenX (t : Tok) (e : Pt) : DR → SR
  | .bad q => .bad q
  | .ok g [] => .bad []
  | .ok g (u :: q) => if see kSemi u = true then .ok ⟨t.at_, 2, ofL [], some e, g⟩ q else .bad (u :: q)

def lastX (t : Tok) : DR → SR
  | .bad q => .bad q
  | .ok g [] => .bad []
  | .ok g (u :: q) => if see kSemi u = true then .ok ⟨t.at_, 3, ofL [], none, g⟩ q else .bad (u :: q)

set_option maxRecDepth 100000 in
set_option maxHeartbeats 1600000 in
theorem when_bad_any (hp : 17 ≤ pb) (t : Tok) (r q : List Tok) (d : D (.beh kWhen) (t :: r) (.bad q)) (w : World) (k : Nat) (h : Pp w pb g c T tl (t :: r) k) (hg : Gy w aY) :
    Calls Tryz.prog 81 #[.pointer (some ⟨pb, 0, none⟩)] w (StA aY pb g c T tl (.bad q) w) := by
  have B0 := (Below.refl w.heap.size w).alloc (Nat.le_refl _) (.cells #[.int .i64 0, .int .i64 0, .string ⟨#[]⟩, .nilIface, .nilIface] 111)
  have R0 := Row.new w #[.int .i64 0, .int .i64 0, .string ⟨#[]⟩, .nilIface, .nilIface] 111
  have HG := hide (hg.below B0)
  have hW := h.below B0
  have nz := h.row.lt
  have fa := field_at (.int .i64 t.kind) (.int .i64 t.num) (.string t.text) (.int .i64 (t.at_ : Int))
  have HD := hide d
  clear h hg
  go_enter Tryz.func81, Tryz.ntmps81
  go_wp2_with fail
  generalize w.alloc (.cells #[.int .i64 0, .int .i64 0, .string ⟨#[]⟩, .nilIface, .nilIface] 111) = W at *
  refine (peek_any hW).mono ?_
  rintro e w1 ⟨rfl, hb1⟩
  have P1 := hW.below hb1
  have R1 := R0.after hb1 (Nat.le_refl _)
  have T01 := (Touch.of_below (lo := pb) (hi := pb + 1) B0 (Nat.le_refl _)).allP hb1
  have HG1 := hide ((unhide HG).below hb1)
  have HB := hide (beh_any (aY := aY) hp kWhen _ _ (unhide HD) w1 _ P1 (unhide HG1))
  clear P1 hW d
  dsimp only [tokV, hdE]
  go_wp2_with fail
  refine (unhide HB).mono ?_
  rintro rr w4 ⟨⟨v, b, rfl, hv, RE⟩, T4⟩
  have R4 := R1.touchP T4 (.inr nz)
  have T5 := T01.trans T4
  obtain ⟨c0, c1, c2, c3, c4, cf⟩ := row5P R4
  rcases hv with rfl | ⟨tv, uv, rfl⟩
  all_goals
    dsimp only [errP]
    go_wp2_with fail
    exact bodyPost_ret (res_st (cs := #[]) Tryz.results81 rfl rfl (put5_row R4 (.int .i64 0) (.int .i64 0) (.string ⟨#[]⟩) .nilIface .nilIface)) rfl ⟨⟨_, _, _, _, _, b, rfl, .inl rfl, .inl rfl, RE.put5 R4 (.int .i64 0) (.int .i64 0) (.string ⟨#[]⟩) .nilIface .nilIface⟩, T5.put5 (Nat.le_refl _) (.int .i64 0) (.int .i64 0) (.string ⟨#[]⟩) .nilIface .nilIface⟩

set_option maxRecDepth 100000 in
set_option maxHeartbeats 1600000 in
theorem when_any (hp : 17 ≤ pb) (t : Tok) (r q : List Tok) (p : Pt) (y : DR) (d : D (.beh kWhen) (t :: r) (.ok p q)) (d2 : DD kArrow q y) (w : World) (k : Nat) (h : Pp w pb g c T tl (t :: r) k) (hg : Gy w aY) :
    Calls Tryz.prog 81 #[.pointer (some ⟨pb, 0, none⟩)] w (StA aY pb g c T tl (whenX t p y) w) := by
  have B0 := (Below.refl w.heap.size w).alloc (Nat.le_refl _) (.cells #[.int .i64 0, .int .i64 0, .string ⟨#[]⟩, .nilIface, .nilIface] 111)
  have R0 := Row.new w #[.int .i64 0, .int .i64 0, .string ⟨#[]⟩, .nilIface, .nilIface] 111
  have HG := hide (hg.below B0)
  have hW := h.below B0
  have nz := h.row.lt
  have fa := field_at (.int .i64 t.kind) (.int .i64 t.num) (.string t.text) (.int .i64 (t.at_ : Int))
  have HD := hide d
  have HD2 := hide d2
  clear h hg
  go_enter Tryz.func81, Tryz.ntmps81
  go_wp2_with fail
  generalize w.alloc (.cells #[.int .i64 0, .int .i64 0, .string ⟨#[]⟩, .nilIface, .nilIface] 111) = W at *
  refine (peek_any hW).mono ?_
  rintro e w1 ⟨rfl, hb1⟩
  have P1 := hW.below hb1
  have R1 := R0.after hb1 (Nat.le_refl _)
  have T01 := (Touch.of_below (lo := pb) (hi := pb + 1) B0 (Nat.le_refl _)).allP hb1
  have HG1 := hide ((unhide HG).below hb1)
  have HB := hide (beh_any (aY := aY) hp kWhen _ _ (unhide HD) w1 _ P1 (unhide HG1))
  clear P1 hW d d2
  dsimp only [tokV, hdE]
  go_wp2_with fail
  refine (unhide HB).mono ?_
  rintro rr w4 ⟨⟨e, k4, rfl, he, ho, P4⟩, T4⟩
  have R4 := R1.touchP T4 (.inr nz)
  have T5 := T01.trans T4
  have HG4 := hide ((unhide HG1).touch T4 hp)
  obtain ⟨te, ue, hf⟩ := e.form
  have HE0 := hide (And.intro he (And.intro ho hf))
  rw [hf]
  have HC := hide (decision_any (aY := aY) hp kArrow q y (unhide HD2) w4 _ P4 (unhide HG4))
  clear he ho hf P4
  dsimp only
  go_wp2_with fail
  refine (unhide HC).mono ?_
  intro rr w6 hr
  cases y with
  | bad q2 =>
    obtain ⟨⟨v, b, rfl, hv, RE⟩, T6⟩ := hr
    have R6 := R4.touchP T6 (.inr nz)
    have T7 := T5.trans T6
    obtain ⟨c0, c1, c2, c3, c4, cf⟩ := row5P R6
    rcases hv with rfl | ⟨tv, uv, rfl⟩
    all_goals
      dsimp only [errP]
      go_wp2_with fail
      exact bodyPost_ret (res_st (cs := #[]) Tryz.results81 rfl rfl (put5_row R6 (.int .i64 0) (.int .i64 0) (.string ⟨#[]⟩) .nilIface .nilIface)) rfl ⟨⟨_, _, _, _, _, b, rfl, .inl rfl, .inl rfl, RE.put5 R6 (.int .i64 0) (.int .i64 0) (.string ⟨#[]⟩) .nilIface .nilIface⟩, T7.put5 (Nat.le_refl _) (.int .i64 0) (.int .i64 0) (.string ⟨#[]⟩) .nilIface .nilIface⟩
  | ok g2 q2 =>
    obtain ⟨⟨o2, k6, rfl, ho2, own2, P6⟩, T6⟩ := hr
    have R6 := R4.touchP T6 (.inr nz)
    have T7 := T5.trans T6
    have HG6 := hide ((unhide HG4).touch T6 hp)
    have HE2 := hide (And.intro ho2 (And.intro own2 (e.own_touch T6 (unhide HE0).2.1)))
    have hif := optX_if o2
    have HO2 := hide (show optX o2 = optX o2 from rfl)
    generalize hv2 : optX o2 = v2 at hif
    have HV2 := hide hv2
    clear HO2 hv2 ho2 own2
    have HX : (sees kSemi q2 = false → whenX t p (.ok g2 q2) = .bad q2) ∧ (∀ u q', q2 = u :: q' → see kSemi u = true → whenX t p (.ok g2 q2) = .ok ⟨t.at_, 2, ofL [], some p, g2⟩ q') := ⟨fun h => by
        cases q2 with
        | nil => rfl
        | cons u q => exact if_neg (by rw [show see kSemi u = false from h]; decide), fun u q' e h => by subst e; exact if_pos h⟩
    rcases hif with rfl | ⟨tg, ug, rfl⟩
    all_goals
      cases hq : sees kSemi q2
      · have HE := hide (expect_no P6 (unhide HG6) kSemi hq)
        have HXX := hide (HX.1 hq)
        clear hq
        dsimp only
        go_wp2_with fail
        refine (unhide HE).mono ?_
        rintro e wz ⟨b, rfl, RE, hbz⟩
        have Rz := R6.after hbz (Nat.le_refl _)
        have Tz := T7.allP hbz
        obtain ⟨c0, c1, c2, c3, c4, cf⟩ := row5P Rz
        dsimp only [errP]
        go_wp2_with fail
        rw [unhide HXX]
        exact bodyPost_ret (res_st (cs := #[]) Tryz.results81 rfl rfl (put5_row Rz (.int .i64 (t.at_ : Int)) (.int .i64 2) (.string ⟨#[]⟩) (.iface te ue) _)) rfl ⟨⟨_, _, _, _, _, b, rfl, .inr ⟨_, _, rfl⟩, by first | exact .inl rfl | exact .inr ⟨_, _, rfl⟩, RE.put5 Rz (.int .i64 (t.at_ : Int)) (.int .i64 2) (.string ⟨#[]⟩) (.iface te ue) _⟩, Tz.put5 (Nat.le_refl _) (.int .i64 (t.at_ : Int)) (.int .i64 2) (.string ⟨#[]⟩) (.iface te ue) _⟩
      · obtain ⟨u, q', rfl⟩ : ∃ u q', q2 = u :: q' := by
          cases q2 with
          | nil => cases hq
          | cons u q' => exact ⟨u, q', rfl⟩
        have HE := hide (expect_ok P6 kSemi hq)
        have HXX := hide (HX.2 u q' rfl hq)
        clear hq
        dsimp only
        go_wp2_with fail
        refine (unhide HE).mono ?_
        rintro e wz ⟨rfl, Pz, Tz0⟩
        have Rz := R6.touchP Tz0 (.inr nz)
        have Tz := T7.trans Tz0
        obtain ⟨c0, c1, c2, c3, c4, cf⟩ := row5P Rz
        dsimp only
        go_wp2_with fail
        rw [unhide HXX]
        exact bodyPost_ret (res_st (cs := #[]) Tryz.results81 rfl rfl (put5_row Rz (.int .i64 (t.at_ : Int)) (.int .i64 2) (.string ⟨#[]⟩) (.iface te ue) _)) rfl ⟨⟨some e, o2, _, by rw [optX, unhide HV2, (unhide HE0).2.2]; rfl, (unhide HE0).1, (unhide HE2).1, ownO_put5 Rz _ _ _ _ _ (some e) (e.own_touch Tz0 (unhide HE2).2.2), ownO_put5 Rz _ _ _ _ _ o2 (ownO_touch Tz0 o2 (unhide HE2).2.1), Pz.put5 Rz (.int .i64 (t.at_ : Int)) (.int .i64 2) (.string ⟨#[]⟩) (.iface te ue) _⟩, Tz.put5 (Nat.le_refl _) (.int .i64 (t.at_ : Int)) (.int .i64 2) (.string ⟨#[]⟩) (.iface te ue) _⟩

set_option maxRecDepth 100000 in
set_option maxHeartbeats 1600000 in
theorem last_any (hp : 17 ≤ pb) (t : Tok) (r : List Tok) (y : DR) (d2 : DD kElse (t :: r) y) (w : World) (k : Nat) (h : Pp w pb g c T tl (t :: r) k) (hg : Gy w aY) :
    Calls Tryz.prog 82 #[.pointer (some ⟨pb, 0, none⟩)] w (StA aY pb g c T tl (lastX t y) w) := by
  have B0 := (Below.refl w.heap.size w).alloc (Nat.le_refl _) (.cells #[.int .i64 0, .int .i64 0, .string ⟨#[]⟩, .nilIface, .nilIface] 111)
  have R0 := Row.new w #[.int .i64 0, .int .i64 0, .string ⟨#[]⟩, .nilIface, .nilIface] 111
  have HG := hide (hg.below B0)
  have hW := h.below B0
  have nz := h.row.lt
  have fa := field_at (.int .i64 t.kind) (.int .i64 t.num) (.string t.text) (.int .i64 (t.at_ : Int))
  have HD2 := hide d2
  clear h hg
  go_enter Tryz.func82, Tryz.ntmps82
  go_wp2_with fail
  generalize w.alloc (.cells #[.int .i64 0, .int .i64 0, .string ⟨#[]⟩, .nilIface, .nilIface] 111) = W at *
  refine (peek_any hW).mono ?_
  rintro e w1 ⟨rfl, hb1⟩
  have P1 := hW.below hb1
  have R1 := R0.after hb1 (Nat.le_refl _)
  have T01 := (Touch.of_below (lo := pb) (hi := pb + 1) B0 (Nat.le_refl _)).allP hb1
  have HG1 := hide ((unhide HG).below hb1)
  have HC := hide (decision_any (aY := aY) hp kElse (t :: r) y (unhide HD2) w1 _ P1 (unhide HG1))
  clear P1 hW d2
  dsimp only [tokV, hdE]
  go_wp2_with fail
  refine (unhide HC).mono ?_
  intro rr w6 hr
  cases y with
  | bad q2 =>
    obtain ⟨⟨v, b, rfl, hv, RE⟩, T6⟩ := hr
    have R6 := R1.touchP T6 (.inr nz)
    have T7 := T01.trans T6
    obtain ⟨c0, c1, c2, c3, c4, cf⟩ := row5P R6
    rcases hv with rfl | ⟨tv, uv, rfl⟩
    all_goals
      dsimp only [errP]
      go_wp2_with fail
      exact bodyPost_ret (res_st (cs := #[]) Tryz.results82 rfl rfl (put5_row R6 (.int .i64 0) (.int .i64 0) (.string ⟨#[]⟩) .nilIface .nilIface)) rfl ⟨⟨_, _, _, _, _, b, rfl, .inl rfl, .inl rfl, RE.put5 R6 (.int .i64 0) (.int .i64 0) (.string ⟨#[]⟩) .nilIface .nilIface⟩, T7.put5 (Nat.le_refl _) (.int .i64 0) (.int .i64 0) (.string ⟨#[]⟩) .nilIface .nilIface⟩
  | ok g2 q2 =>
    obtain ⟨⟨o2, k6, rfl, ho2, own2, P6⟩, T6⟩ := hr
    have R6 := R1.touchP T6 (.inr nz)
    have T7 := T01.trans T6
    have HG6 := hide ((unhide HG1).touch T6 hp)
    have HE2 := hide (And.intro ho2 own2)
    have hif := optX_if o2
    generalize hv2 : optX o2 = v2 at hif
    have HV2 := hide hv2
    clear hv2 ho2 own2
    have HX : (sees kSemi q2 = false → lastX t (.ok g2 q2) = .bad q2) ∧ (∀ u q', q2 = u :: q' → see kSemi u = true → lastX t (.ok g2 q2) = .ok ⟨t.at_, 3, ofL [], none, g2⟩ q') := ⟨fun h => by
        cases q2 with
        | nil => rfl
        | cons u q => exact if_neg (by rw [show see kSemi u = false from h]; decide), fun u q' e h => by subst e; exact if_pos h⟩
    rcases hif with rfl | ⟨tg, ug, rfl⟩
    all_goals
      cases hq : sees kSemi q2
      · have HE := hide (expect_no P6 (unhide HG6) kSemi hq)
        have HXX := hide (HX.1 hq)
        clear hq
        dsimp only
        go_wp2_with fail
        refine (unhide HE).mono ?_
        rintro e wz ⟨b, rfl, RE, hbz⟩
        have Rz := R6.after hbz (Nat.le_refl _)
        have Tz := T7.allP hbz
        obtain ⟨c0, c1, c2, c3, c4, cf⟩ := row5P Rz
        dsimp only [errP]
        go_wp2_with fail
        rw [unhide HXX]
        exact bodyPost_ret (res_st (cs := #[]) Tryz.results82 rfl rfl (put5_row Rz (.int .i64 (t.at_ : Int)) (.int .i64 3) (.string ⟨#[]⟩) .nilIface _)) rfl ⟨⟨_, _, _, _, _, b, rfl, .inl rfl, by first | exact .inl rfl | exact .inr ⟨_, _, rfl⟩, RE.put5 Rz (.int .i64 (t.at_ : Int)) (.int .i64 3) (.string ⟨#[]⟩) .nilIface _⟩, Tz.put5 (Nat.le_refl _) (.int .i64 (t.at_ : Int)) (.int .i64 3) (.string ⟨#[]⟩) .nilIface _⟩
      · obtain ⟨u, q', rfl⟩ : ∃ u q', q2 = u :: q' := by
          cases q2 with
          | nil => cases hq
          | cons u q' => exact ⟨u, q', rfl⟩
        have HE := hide (expect_ok P6 kSemi hq)
        have HXX := hide (HX.2 u q' rfl hq)
        clear hq
        dsimp only
        go_wp2_with fail
        refine (unhide HE).mono ?_
        rintro e wz ⟨rfl, Pz, Tz0⟩
        have Rz := R6.touchP Tz0 (.inr nz)
        have Tz := T7.trans Tz0
        obtain ⟨c0, c1, c2, c3, c4, cf⟩ := row5P Rz
        dsimp only
        go_wp2_with fail
        rw [unhide HXX]
        exact bodyPost_ret (res_st (cs := #[]) Tryz.results82 rfl rfl (put5_row Rz (.int .i64 (t.at_ : Int)) (.int .i64 3) (.string ⟨#[]⟩) .nilIface _)) rfl ⟨⟨none, o2, _, by rw [optX, unhide HV2]; rfl, trivial, (unhide HE2).1, trivial, ownO_put5 Rz _ _ _ _ _ o2 (ownO_touch Tz0 o2 (unhide HE2).2), Pz.put5 Rz (.int .i64 (t.at_ : Int)) (.int .i64 3) (.string ⟨#[]⟩) .nilIface _⟩, Tz.put5 (Nat.le_refl _) (.int .i64 (t.at_ : Int)) (.int .i64 3) (.string ⟨#[]⟩) .nilIface _⟩

end Go.Proofs.YtcehablmloleaaaGreatDoor

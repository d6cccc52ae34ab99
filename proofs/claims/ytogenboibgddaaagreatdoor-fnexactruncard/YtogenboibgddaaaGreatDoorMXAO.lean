/-
  RVE, RVF, RVI, RVJ. Own work.
-/
import Derived.Test.YtogenboibgddaaaGreatDoorMXAI
namespace Go.Proofs.YtogenboibgddaaaGreatDoor
open Go.RowKit
set_option linter.unusedVariables false

variable {aS aO aZ aW : Addr} {B mb lb : Nat} {ap : Option Addr} {np cp : Nat} {iv : Value} {a1 : Option Addr} {n1 c1 : Nat} {a2 : Option Addr} {n2 c2 : Nat} {s : Int} {R : Rq} {S : Nat} {at_ : Nat} {st : List Vv} {sl : List (Option Vv)} {sa : Option Addr} {sc : Nat} {xs ys : List Value} {w w0 : World} {P : List Vl}

/-- the machine behind an instruction -/
def Behind (B mb lb : Nat) (pv iv q1 q2 : Value) (s : Int) (R : Rq) (S : Nat) (sv : Value) (at_ : Int) (st : List Vv) (sl : List (Option Vv)) (w w' : World) : Prop := ∃ sa sc xs ys, McO B mb lb pv iv q1 q2 s R S at_ st sl sa sc xs ys w' ∧ Kpt (ownM mb lb sv) w w' ∧ ∀ q, (Value.slice sa st.length sc).ownBlock = some q → sv.ownBlock = some q ∨ w.heap.size ≤ q

theorem row15 {w : World} {b : Nat} {pv iv q1 q2 sv lv ov : Value} {s at_ ko co : Int} {R : Rq} {t : TypeId} (r : Row w b (mcV pv s iv R q1 q2 sv lv at_ ko co ov) t) : w.cell? ⟨b, 0, none⟩ = some pv ∧ w.cell? ⟨b, 1, none⟩ = some (.int .i64 s) ∧ w.cell? ⟨b, 2, none⟩ = some iv ∧ w.cell? ⟨b, 3, none⟩ = some (.string R.cl) ∧ w.cell? ⟨b, 4, none⟩ = some (.string R.us) ∧ w.cell? ⟨b, 5, none⟩ = some (.int .i64 R.lv) ∧ w.cell? ⟨b, 6, none⟩ = some (.int .i64 R.nw) ∧ w.cell? ⟨b, 7, none⟩ = some q1 ∧ w.cell? ⟨b, 8, none⟩ = some q2 ∧ w.cell? ⟨b, 9, none⟩ = some sv ∧ w.cell? ⟨b, 10, none⟩ = some lv ∧ w.cell? ⟨b, 11, none⟩ = some (.int .i64 at_) ∧ w.cell? ⟨b, 12, none⟩ = some (.int .i64 ko) ∧ w.cell? ⟨b, 13, none⟩ = some (.int .i64 co) ∧ w.cell? ⟨b, 14, none⟩ = some ov := ⟨r.cell 0, r.cell 1, r.cell 2, r.cell 3, r.cell 4, r.cell 5, r.cell 6, r.cell 7, r.cell 8, r.cell 9, r.cell 10, r.cell 11, r.cell 12, r.cell 13, r.cell 14⟩

/-- the place is set -/
theorem McO.goto {B mb lb : Nat} {pv iv q1 q2 : Value} {s : Int} {R : Rq} {S : Nat} {at_ : Int} {st : List Vv} {sl : List (Option Vv)} {sa : Option Addr} {sc : Nat} {xs ys : List Value} {w : World} (h : McO B mb lb pv iv q1 q2 s R S at_ st sl sa sc xs ys w) (a : Int) : McO B mb lb pv iv q1 q2 s R S a st sl sa sc xs ys (w.setCell ⟨mb, 11, none⟩ (.int .i64 a)) := by
  have k : Kpt (fun k => k = mb) w (w.setCell ⟨mb, 11, none⟩ (.int .i64 a)) := Kpt.setCell (S := fun k => k = mb) (Kpt.refl _ w) (p := ⟨mb, 11, none⟩) (fun _ => rfl) _
  have hlb : lb ≠ mb := fun e => by
    have := h.row.out
    rw [← e, h.slr.out] at this
    simp at this
  refine ⟨h.row.set 11 _, own_set3 h.stk _ _ (fun q hq e => own_ne_row h.row h.stk (by decide) (by rw [hq, e])), h.slr.kpt k hlb, h.len, fun j hj => ?_, fun j hj => ?_, h.low, h.apart⟩
  · obtain ⟨y, e, hy⟩ := h.vst j hj
    exact ⟨y, e, hy.kpt k (fun b hb => hb.1)⟩
  · obtain ⟨y, e, hy⟩ := h.vsl j hj
    exact ⟨y, e, fun u hu => (hy u hu).kpt k (fun b hb => hb.1)⟩

theorem wrap_at {k : Nat} (h : k ≤ 20000) : IntKind.i64.wrap ((k : Int) + 1) = (k : Int) + 1 := by
  simp [IntKind.wrap, IntKind.bits, IntKind.signed]
  omega

theorem own_any (sa : Option Addr) (n c m d : Nat) : (Value.slice sa n c).ownBlock = (Value.slice sa m d).ownBlock := by cases sa <;> rfl

theorem far_slots {B mb lb : Nat} {pv iv q1 q2 : Value} {s : Int} {R : Rq} {S : Nat} {at_ : Int} {st : List Vv} {sl : List (Option Vv)} {sa : Option Addr} {sc : Nat} {xs ys : List Value} {w : World} (h : McO B mb lb pv iv q1 q2 s R S at_ st sl sa sc xs ys w) : ¬ (lb = mb ∨ (Value.slice sa st.length sc).ownBlock = some lb) := fun e => by
  rcases e with e | e
  · have := h.row.out
    rw [← e, h.slr.out] at this
    simp at this
  · exact h.apart e

theorem far_new {B mb lb : Nat} {pv iv q1 q2 : Value} {s : Int} {R : Rq} {S : Nat} {at_ : Int} {st : List Vv} {sl : List (Option Vv)} {sa : Option Addr} {sc : Nat} {xs ys : List Value} {w : World} (h : McO B mb lb pv iv q1 q2 s R S at_ st sl sa sc xs ys w) : ¬ (w.heap.size = mb ∨ (Value.slice sa st.length sc).ownBlock = some w.heap.size) := fun e => by
  rcases e with e | e
  · have := h.row.lt; omega
  · have := (h.stk.lt _ e).2; omega

theorem far_low {B mb lb : Nat} {pv iv q1 q2 : Value} {s : Int} {R : Rq} {S : Nat} {at_ : Int} {st : List Vv} {sl : List (Option Vv)} {sa : Option Addr} {sc : Nat} {xs ys : List Value} {w w0 : World} (h : McO B mb lb pv iv q1 q2 s R S at_ st sl sa sc xs ys w) (hB : w0.heap.size ≤ B) {b : Nat} (hb : b < w0.heap.size) : ¬ (b = mb ∨ (Value.slice sa st.length sc).ownBlock = some b) := fun e => by
  rcases e with e | e
  · have := h.low.1; omega
  · have := (h.stk.lt _ e).1; omega

theorem good_low {B mb lb : Nat} {pv iv q1 q2 : Value} {s : Int} {R : Rq} {S : Nat} {at_ : Int} {st : List Vv} {sl : List (Option Vv)} {sa : Option Addr} {sc : Nat} {xs ys : List Value} {w w0 : World} (h : McO B mb lb pv iv q1 q2 s R S at_ st sl sa sc xs ys w) (hB : w0.heap.size ≤ B) {b : Nat} (hb : b < w0.heap.size) : gdM mb lb sa b :=
  ⟨by have := h.low.1; omega, by have := h.low.2; omega, fun ad e => by
    have := (h.stk.lt ad.block (by rw [e]; rfl)).1
    omega⟩

set_option maxRecDepth 100000 in
set_option maxHeartbeats 6400000 in
theorem take_op1 (h : McO B mb lb (.slice ap np cp) iv (.slice a1 n1 c1) (.slice a2 n2 c2) s R S at_ st sl sa sc xs ys w) (hl : Below w0.heap.size w0 w) (hB : w0.heap.size ≤ B) (hn : st.length ≤ 100) (hat : at_ ≤ 20000) (k : Nat) (x : Vl) (hk : P[k]? = some x) (hP : Vls w0 ap np cp P) (hx : valB x = true ∧ x.names.length ≤ 1048576 ∧ I64 x.num) :
    Calls Tryz.prog 55 #[.pointer (some ⟨mb, 0, none⟩), .agg #[.int .i64 1, .int .i64 k]] w (fun r w' => r = .returned .nilIface ∧ Behind B mb lb (.slice ap np cp) iv (.slice a1 n1 c1) (.slice a2 n2 c2) s R S (.slice sa st.length sc) ((at_ : Int) + 1) (st ++ [poolV x]) (sl) w w') := by
  have wk := wrap_at hat
  have CI := (Below.refl w.heap.size w).alloc (Nat.le_refl _) (.cells #[.int .i64 1, .int .i64 k] 87)
  have CJ := (Below.refl _ (w.setCell ⟨mb, 11, none⟩ (.int .i64 ((at_ : Int) + 1)))).alloc (Nat.le_refl _) (.cells #[.int .i64 1, .int .i64 k] 87)
  have M0 := (h.goto ((at_ : Int) + 1)).below CJ
  have e11 : (w.alloc (.cells #[.int .i64 1, .int .i64 k] 87)).cell? ⟨mb, 11, none⟩ = some (.int .i64 at_) := (h.below CI).row.cell 11
  have ef := fun j => (h.below CI).row.frozen j
  have hmb := h.row.lt
  have hBm := h.low.1
  have LX := (hl.setCell (p := ⟨mb, 11, none⟩) (by show w0.heap.size ≤ mb; omega) (.int .i64 ((at_ : Int) + 1))).alloc (by simpa using hl.size) (.cells #[.int .i64 1, .int .i64 k] 87)
  have KX : Kpt (ownM mb lb (.slice sa st.length sc)) w ((w.setCell ⟨mb, 11, none⟩ (.int .i64 ((at_ : Int) + 1))).alloc (.cells #[.int .i64 1, .int .i64 k] 87)) := Kpt.trans ((Kpt.refl _ w).setCell (p := ⟨mb, 11, none⟩) (fun _ => .inl rfl) (.int .i64 ((at_ : Int) + 1))) (Kpt.of_below (S := fun _ => False) CJ) (fun _ _ h => h.elim)
  have RI := Row.new (w.setCell ⟨mb, 11, none⟩ (.int .i64 ((at_ : Int) + 1))) #[.int .i64 1, .int .i64 k] 87
  simp only [World.size_setCell] at RI
  obtain ⟨hkl, hxe⟩ := List.getElem?_eq_some_iff.1 hk
  obtain ⟨pb, po, rfl, hpb, an, nn, cn, p00, p10, p20, p30, hS0⟩ := hP.cells k hkl
  rw [hxe] at p00 p10 p20 hS0
  have kin : (k : Int) < (np : Int) := by have := hP.len; omega
  have p0 := (LX.cell (p := ⟨pb, po + k * 4, none⟩) hpb).trans p00
  have p1 := (LX.cell (p := ⟨pb, po + k * 4 + 1, none⟩) hpb).trans p10
  have p2 := (LX.cell (p := ⟨pb, po + k * 4 + 2, none⟩) hpb).trans p20
  have p3 := (LX.cell (p := ⟨pb, po + k * 4 + 3, none⟩) hpb).trans p30
  have hSt := hS0.below LX (Nat.le_refl _)
  have lpb := Nat.lt_of_lt_of_le hpb LX.size
  have M0R := M0.row
  have hgd : ∀ ad, an = some ad → 0 < nn → gdM mb lb sa ad.block := fun ad e h0 => by
    obtain ⟨b9, o9, e9, l9, _⟩ := hS0.cells 0 h0
    rw [e] at e9
    cases e9
    exact good_low h hB l9
  have HNE := hide (And.intro (far_new h) (far_low h hB hpb))
  have HLO := hide h.low
  clear hk hP hS0 p00 p10 p20 p30 hkl hxe
  have HM := hide M0
  have HH := hide h
  clear h M0
  go_enter Tryz.func55, Tryz.ntmps55
  go_wp2_with fail
  generalize (w.setCell ⟨mb, 11, none⟩ (Value.int IntKind.i64 ((at_ : Int) + 1))).alloc (Obj.cells #[Value.int IntKind.i64 1, Value.int IntKind.i64 k] 87) = X at *
  have D := (Below.refl X.heap.size X).drew
  have MX := (unhide HM).below D
  have keep : ∀ w', Below X.heap.size X w' → ((fun w' => w'.cell? ⟨mb, 0, none⟩ = some (.slice (some ⟨pb, po, none⟩) np cp) ∧ w'.cell? ⟨w.heap.size, 1, none⟩ = some (.int .i64 k) ∧ w'.cell? ⟨pb, po + k * 4, none⟩ = some (.int .i64 x.kind) ∧ w'.cell? ⟨pb, po + k * 4 + 1, none⟩ = some (.int .i64 x.num) ∧ w'.cell? ⟨pb, po + k * 4 + 2, none⟩ = some (.string x.text) ∧ w'.cell? ⟨pb, po + k * 4 + 3, none⟩ = some (.slice an nn cn)) w') := fun w' hb => ⟨(M0R.after hb (Nat.le_refl _)).cell 0, (RI.after hb (Nat.le_refl _)).cell 1, (hb.cell (p := ⟨pb, po + k * 4, none⟩) lpb).trans p0, (hb.cell (p := ⟨pb, po + k * 4 + 1, none⟩) lpb).trans p1, (hb.cell (p := ⟨pb, po + k * 4 + 2, none⟩) lpb).trans p2, (hb.cell (p := ⟨pb, po + k * 4 + 3, none⟩) lpb).trans p3⟩
  have KP := hide keep
  have q1 := keep _ D
  clear keep
  go_region_held3 (fun w' => w'.cell? ⟨mb, 0, none⟩ = some (.slice (some ⟨pb, po, none⟩) np cp) ∧ w'.cell? ⟨w.heap.size, 1, none⟩ = some (.int .i64 k) ∧ w'.cell? ⟨pb, po + k * 4, none⟩ = some (.int .i64 x.kind) ∧ w'.cell? ⟨pb, po + k * 4 + 1, none⟩ = some (.int .i64 x.num) ∧ w'.cell? ⟨pb, po + k * 4 + 2, none⟩ = some (.string x.text) ∧ w'.cell? ⟨pb, po + k * 4 + 3, none⟩ = some (.slice an nn cn)) (first | assumption | fail)
    (first
      | (go_at_call 88; refine (poolValue_any (G := gdM mb lb sa) x an nn cn _ hx.1 (hSt.below D (Nat.le_refl _)) hx.2.1 hx.2.2 hgd).mono ?_; rintro r w2 ⟨⟨y, rfl, hy⟩, hb2⟩; obtain ⟨t, u, rfl⟩ := hy.form; have G2 := D.trans (hb2.mono D.size); have q2 := unhide KP _ G2; have M2 := MX.below hb2)
      | (go_at_call 87; refine (push_any mb B st.length sc _ _ _ _ _ _ _ _ _ _ _ sa xs t u w2 M2.row M2.stk (by omega) (unhide HLO).1).mono ?_; rintro r w3 ⟨rfl, g, cap, R3, O3, hg, K3⟩; have hl3 := K3.size; have q3 := (show (fun w' => w'.cell? ⟨mb, 0, none⟩ = some (.slice (some ⟨pb, po, none⟩) np cp) ∧ w'.cell? ⟨w.heap.size, 1, none⟩ = some (.int .i64 k) ∧ w'.cell? ⟨pb, po + k * 4, none⟩ = some (.int .i64 x.kind) ∧ w'.cell? ⟨pb, po + k * 4 + 1, none⟩ = some (.int .i64 x.num) ∧ w'.cell? ⟨pb, po + k * 4 + 2, none⟩ = some (.string x.text) ∧ w'.cell? ⟨pb, po + k * 4 + 3, none⟩ = some (.slice an nn cn)) w3 from ⟨R3.cell 0, ((RI.after G2 (Nat.le_refl _)).kpt K3 (unhide HNE).1).cell 1, (World.cell?_of_block (K3.block pb (Nat.lt_of_lt_of_le lpb G2.size) (unhide HNE).2)).trans q2.2.2.1, (World.cell?_of_block (K3.block pb (Nat.lt_of_lt_of_le lpb G2.size) (unhide HNE).2)).trans q2.2.2.2.1, (World.cell?_of_block (K3.block pb (Nat.lt_of_lt_of_le lpb G2.size) (unhide HNE).2)).trans q2.2.2.2.2.1, (World.cell?_of_block (K3.block pb (Nat.lt_of_lt_of_le lpb G2.size) (unhide HNE).2)).trans q2.2.2.2.2.2⟩)))
  have HE := hide (M2.push hy R3 O3 hg K3)
  have HK := hide ((KX.trans (Kpt.of_below (S := fun _ => False) G2) (fun _ _ h => h.elim)).trans K3 (fun q _ h => h.elim .inl (fun e => .inr (.inr e))))
  have HN := hide (show ∀ q, (Value.slice (some ⟨g, 0, none⟩) (st.length + 1) cap).ownBlock = some q → (Value.slice sa st.length sc).ownBlock = some q ∨ w.heap.size ≤ q from fun q hq => by
    have e : g = q := by simpa [Value.ownBlock] using hq
    subst e
    exact hg.imp_right (fun h => Nat.le_trans (Nat.le_trans KX.size G2.size) h))
  clear M2 hy R3 O3 hg K3 MX G2 q1 q2 q3 KP hb2 D
  go_wp2_with fail
  go_ret
  refine ⟨rfl, some ⟨g, 0, none⟩, cap, _, ys, unhide HE, unhide HK, ?_⟩
  rw [List.length_append]
  exact unhide HN


end Go.Proofs.YtogenboibgddaaaGreatDoor

namespace Go.Proofs.YtogenboibgddaaaGreatDoor
open Go.RowKit
set_option linter.unusedVariables false

variable {aS aO aZ aW : Addr} {B mb lb : Nat} {ap : Option Addr} {np cp : Nat} {iv : Value} {a1 : Option Addr} {n1 c1 : Nat} {a2 : Option Addr} {n2 c2 : Nat} {s : Int} {R : Rq} {S : Nat} {at_ : Nat} {st : List Vv} {sl : List (Option Vv)} {sa : Option Addr} {sc : Nat} {xs ys : List Value} {w w0 : World} {P : List Vl}

set_option maxRecDepth 100000 in
set_option maxHeartbeats 6400000 in
theorem take_op2 (h : McO B mb lb (.slice ap np cp) iv (.slice a1 n1 c1) (.slice a2 n2 c2) s R S at_ st sl sa sc xs ys w) (hl : Below w0.heap.size w0 w) (hB : w0.heap.size ≤ B) (hn : st.length ≤ 100) (hat : at_ ≤ 20000) (k : Int) (hk : 0 ≤ k ∧ k < 6) (hq1 : Strs w0 a1 n1 c1 R.s1) (hq2 : Strs w0 a2 n2 c2 R.s2) (hi : I64 R.lv ∧ I64 R.nw ∧ R.s1.length ≤ 1048576 ∧ R.s2.length ≤ 1048576) :
    Calls Tryz.prog 55 #[.pointer (some ⟨mb, 0, none⟩), .agg #[.int .i64 2, .int .i64 k]] w (fun r w' => r = .returned .nilIface ∧ Behind B mb lb (.slice ap np cp) iv (.slice a1 n1 c1) (.slice a2 n2 c2) s R S (.slice sa st.length sc) ((at_ : Int) + 1) (st ++ [attrV R k]) (sl) w w') := by
  have wk := wrap_at hat
  have CI := (Below.refl w.heap.size w).alloc (Nat.le_refl _) (.cells #[.int .i64 2, .int .i64 k] 87)
  have CJ := (Below.refl _ (w.setCell ⟨mb, 11, none⟩ (.int .i64 ((at_ : Int) + 1)))).alloc (Nat.le_refl _) (.cells #[.int .i64 2, .int .i64 k] 87)
  have M0 := (h.goto ((at_ : Int) + 1)).below CJ
  have e11 : (w.alloc (.cells #[.int .i64 2, .int .i64 k] 87)).cell? ⟨mb, 11, none⟩ = some (.int .i64 at_) := (h.below CI).row.cell 11
  have ef := fun j => (h.below CI).row.frozen j
  have hmb := h.row.lt
  have hBm := h.low.1
  have LX := (hl.setCell (p := ⟨mb, 11, none⟩) (by show w0.heap.size ≤ mb; omega) (.int .i64 ((at_ : Int) + 1))).alloc (by simpa using hl.size) (.cells #[.int .i64 2, .int .i64 k] 87)
  have KX : Kpt (ownM mb lb (.slice sa st.length sc)) w ((w.setCell ⟨mb, 11, none⟩ (.int .i64 ((at_ : Int) + 1))).alloc (.cells #[.int .i64 2, .int .i64 k] 87)) := Kpt.trans ((Kpt.refl _ w).setCell (p := ⟨mb, 11, none⟩) (fun _ => .inl rfl) (.int .i64 ((at_ : Int) + 1))) (Kpt.of_below (S := fun _ => False) CJ) (fun _ _ h => h.elim)
  have RI := Row.new (w.setCell ⟨mb, 11, none⟩ (.int .i64 ((at_ : Int) + 1))) #[.int .i64 2, .int .i64 k] 87
  simp only [World.size_setCell] at RI
  have M0R := M0.row
  have hS1 := hq1.below LX (Nat.le_refl _)
  have hS2 := hq2.below LX (Nat.le_refl _)
  have good : ∀ {a : Option Addr} {n c : Nat} {ss : List ByteArray}, Strs w0 a n c ss → ∀ ad, a = some ad → 0 < n → gdM mb lb sa ad.block := fun hS ad e h0 => by
    obtain ⟨b9, o9, e9, l9, _⟩ := hS.cells 0 h0
    rw [e] at e9
    cases e9
    exact good_low h hB l9
  have HG := hide (And.intro (good hq1) (good hq2))
  have HNE := hide (far_new h)
  have HLO := hide h.low
  clear hq1 hq2 good
  have HM := hide M0
  have HH := hide h
  clear h M0
  go_enter Tryz.func55, Tryz.ntmps55
  go_wp2_with fail
  generalize (w.setCell ⟨mb, 11, none⟩ (Value.int IntKind.i64 ((at_ : Int) + 1))).alloc (Obj.cells #[Value.int IntKind.i64 2, Value.int IntKind.i64 k] 87) = X at *
  have D := (Below.refl X.heap.size X).drew
  have MX := (unhide HM).below D
  have keep : ∀ w', Below X.heap.size X w' → ((fun w' => w'.cell? ⟨mb, 3, none⟩ = some (.string R.cl) ∧ w'.cell? ⟨mb, 4, none⟩ = some (.string R.us) ∧ w'.cell? ⟨mb, 5, none⟩ = some (.int .i64 R.lv) ∧ w'.cell? ⟨mb, 6, none⟩ = some (.int .i64 R.nw) ∧ w'.cell? ⟨mb, 7, none⟩ = some (.slice a1 n1 c1) ∧ w'.cell? ⟨mb, 8, none⟩ = some (.slice a2 n2 c2) ∧ w'.cell? ⟨w.heap.size, 1, none⟩ = some (.int .i64 k)) w') := fun w' hb => ⟨(M0R.after hb (Nat.le_refl _)).cell 3, (M0R.after hb (Nat.le_refl _)).cell 4, (M0R.after hb (Nat.le_refl _)).cell 5, (M0R.after hb (Nat.le_refl _)).cell 6, (M0R.after hb (Nat.le_refl _)).cell 7, (M0R.after hb (Nat.le_refl _)).cell 8, (RI.after hb (Nat.le_refl _)).cell 1⟩
  have KP := hide keep
  have q1 := keep _ D
  clear keep
  go_region_held3 (fun w' => w'.cell? ⟨mb, 3, none⟩ = some (.string R.cl) ∧ w'.cell? ⟨mb, 4, none⟩ = some (.string R.us) ∧ w'.cell? ⟨mb, 5, none⟩ = some (.int .i64 R.lv) ∧ w'.cell? ⟨mb, 6, none⟩ = some (.int .i64 R.nw) ∧ w'.cell? ⟨mb, 7, none⟩ = some (.slice a1 n1 c1) ∧ w'.cell? ⟨mb, 8, none⟩ = some (.slice a2 n2 c2) ∧ w'.cell? ⟨w.heap.size, 1, none⟩ = some (.int .i64 k)) (first | assumption | fail)
    (first
      | (go_at_call 89; refine (attrValue_any (G := gdM mb lb sa) R.cl R.us R.lv R.nw a1 n1 c1 R.s1 a2 n2 c2 R.s2 _ hi.1 hi.2.1 (hS1.below D (Nat.le_refl _)) (hS2.below D (Nat.le_refl _)) hi.2.2.1 hi.2.2.2 (unhide HG).1 (unhide HG).2 k hk).mono ?_; rintro r w2 ⟨⟨y, rfl, hy⟩, hb2⟩; obtain ⟨t, u, rfl⟩ := hy.form; have G2 := D.trans (hb2.mono D.size); have q2 := unhide KP _ G2; have M2 := MX.below hb2)
      | (go_at_call 87; refine (push_any mb B st.length sc _ _ _ _ _ _ _ _ _ _ _ sa xs t u w2 M2.row M2.stk (by omega) (unhide HLO).1).mono ?_; rintro r w3 ⟨rfl, g, cap, R3, O3, hg, K3⟩; have hl3 := K3.size; have q3 := (show (fun w' => w'.cell? ⟨mb, 3, none⟩ = some (.string R.cl) ∧ w'.cell? ⟨mb, 4, none⟩ = some (.string R.us) ∧ w'.cell? ⟨mb, 5, none⟩ = some (.int .i64 R.lv) ∧ w'.cell? ⟨mb, 6, none⟩ = some (.int .i64 R.nw) ∧ w'.cell? ⟨mb, 7, none⟩ = some (.slice a1 n1 c1) ∧ w'.cell? ⟨mb, 8, none⟩ = some (.slice a2 n2 c2) ∧ w'.cell? ⟨w.heap.size, 1, none⟩ = some (.int .i64 k)) w3 from ⟨R3.cell 3, R3.cell 4, R3.cell 5, R3.cell 6, R3.cell 7, R3.cell 8, ((RI.after G2 (Nat.le_refl _)).kpt K3 (unhide HNE)).cell 1⟩)))
  have HE := hide (M2.push hy R3 O3 hg K3)
  have HK := hide ((KX.trans (Kpt.of_below (S := fun _ => False) G2) (fun _ _ h => h.elim)).trans K3 (fun q _ h => h.elim .inl (fun e => .inr (.inr e))))
  have HN := hide (show ∀ q, (Value.slice (some ⟨g, 0, none⟩) (st.length + 1) cap).ownBlock = some q → (Value.slice sa st.length sc).ownBlock = some q ∨ w.heap.size ≤ q from fun q hq => by
    have e : g = q := by simpa [Value.ownBlock] using hq
    subst e
    exact hg.imp_right (fun h => Nat.le_trans (Nat.le_trans KX.size G2.size) h))
  clear M2 hy R3 O3 hg K3 MX G2 q1 q2 q3 KP hb2 D
  go_wp2_with fail
  go_ret
  refine ⟨rfl, some ⟨g, 0, none⟩, cap, _, ys, unhide HE, unhide HK, ?_⟩
  rw [List.length_append]
  exact unhide HN

set_option maxRecDepth 100000 in
set_option maxHeartbeats 6400000 in
theorem take_op3 (h : McO B mb lb (.slice ap np cp) iv (.slice a1 n1 c1) (.slice a2 n2 c2) s R S at_ st sl sa sc xs ys w) (hl : Below w0.heap.size w0 w) (hB : w0.heap.size ≤ B) (hn : st.length ≤ 100) (hat : at_ ≤ 20000) (k : Nat) (hk : k < S) (v : Vv) (hv : sl.getD k none = some v) :
    Calls Tryz.prog 55 #[.pointer (some ⟨mb, 0, none⟩), .agg #[.int .i64 3, .int .i64 k]] w (fun r w' => r = .returned .nilIface ∧ Behind B mb lb (.slice ap np cp) iv (.slice a1 n1 c1) (.slice a2 n2 c2) s R S (.slice sa st.length sc) ((at_ : Int) + 1) (st ++ [v]) (sl) w w') := by
  have wk := wrap_at hat
  have CI := (Below.refl w.heap.size w).alloc (Nat.le_refl _) (.cells #[.int .i64 3, .int .i64 k] 87)
  have CJ := (Below.refl _ (w.setCell ⟨mb, 11, none⟩ (.int .i64 ((at_ : Int) + 1)))).alloc (Nat.le_refl _) (.cells #[.int .i64 3, .int .i64 k] 87)
  have M0 := (h.goto ((at_ : Int) + 1)).below CJ
  have e11 : (w.alloc (.cells #[.int .i64 3, .int .i64 k] 87)).cell? ⟨mb, 11, none⟩ = some (.int .i64 at_) := (h.below CI).row.cell 11
  have ef := fun j => (h.below CI).row.frozen j
  have hmb := h.row.lt
  have hBm := h.low.1
  have LX := (hl.setCell (p := ⟨mb, 11, none⟩) (by show w0.heap.size ≤ mb; omega) (.int .i64 ((at_ : Int) + 1))).alloc (by simpa using hl.size) (.cells #[.int .i64 3, .int .i64 k] 87)
  have KX : Kpt (ownM mb lb (.slice sa st.length sc)) w ((w.setCell ⟨mb, 11, none⟩ (.int .i64 ((at_ : Int) + 1))).alloc (.cells #[.int .i64 3, .int .i64 k] 87)) := Kpt.trans ((Kpt.refl _ w).setCell (p := ⟨mb, 11, none⟩) (fun _ => .inl rfl) (.int .i64 ((at_ : Int) + 1))) (Kpt.of_below (S := fun _ => False) CJ) (fun _ _ h => h.elim)
  have RI := Row.new (w.setCell ⟨mb, 11, none⟩ (.int .i64 ((at_ : Int) + 1))) #[.int .i64 3, .int .i64 k] 87
  simp only [World.size_setCell] at RI
  have M0R := M0.row
  obtain ⟨y, hye, hyv⟩ := M0.vsl k hk
  have hy := hyv v hv
  obtain ⟨t, u, rfl⟩ := hy.form
  have cy := (M0.slr.cell k).trans (show ys.toArray[k]? = some (.iface t u) by simpa using hye)
  have kin : (k : Int) < (S : Int) := by omega
  have lS := M0.slr.lt
  have HNE := hide (far_new h)
  have HFL := hide (far_slots h)
  have HLO := hide h.low
  clear hye hyv hv
  have HM := hide M0
  have HH := hide h
  clear h M0
  go_enter Tryz.func55, Tryz.ntmps55
  go_wp2_with fail
  generalize (w.setCell ⟨mb, 11, none⟩ (Value.int IntKind.i64 ((at_ : Int) + 1))).alloc (Obj.cells #[Value.int IntKind.i64 3, Value.int IntKind.i64 k] 87) = X at *
  have D := (Below.refl X.heap.size X).drew
  have M2 := (unhide HM).below D
  have G2 := D
  have q1 : (fun w' => w'.cell? ⟨mb, 10, none⟩ = some (.slice (some ⟨lb, 0, none⟩) S S) ∧ w'.cell? ⟨w.heap.size, 1, none⟩ = some (.int .i64 k) ∧ w'.cell? ⟨lb, k, none⟩ = some (.iface t u)) X.drew := ⟨M0R.cell 10, RI.cell 1, cy⟩
  replace hy := hy.below D (Nat.le_refl _)
  go_region_held3 (fun w' => w'.cell? ⟨mb, 10, none⟩ = some (.slice (some ⟨lb, 0, none⟩) S S) ∧ w'.cell? ⟨w.heap.size, 1, none⟩ = some (.int .i64 k) ∧ w'.cell? ⟨lb, k, none⟩ = some (.iface t u)) (first | assumption | fail)
    (first
      | (go_at_call 87; refine (push_any mb B st.length sc _ _ _ _ _ _ _ _ _ _ _ sa xs t u _ M2.row M2.stk (by omega) (unhide HLO).1).mono ?_; rintro r w3 ⟨rfl, g, cap, R3, O3, hg, K3⟩; have hl3 := K3.size; have q3 := (show (fun w' => w'.cell? ⟨mb, 10, none⟩ = some (.slice (some ⟨lb, 0, none⟩) S S) ∧ w'.cell? ⟨w.heap.size, 1, none⟩ = some (.int .i64 k) ∧ w'.cell? ⟨lb, k, none⟩ = some (.iface t u)) w3 from ⟨R3.cell 10, ((RI.after D (Nat.le_refl _)).kpt K3 (unhide HNE)).cell 1, (World.cell?_of_block (K3.block lb (Nat.lt_of_lt_of_le lS D.size) (unhide HFL))).trans cy⟩)))
  have HE := hide (M2.push hy R3 O3 hg K3)
  have HK := hide ((KX.trans (Kpt.of_below (S := fun _ => False) G2) (fun _ _ h => h.elim)).trans K3 (fun q _ h => h.elim .inl (fun e => .inr (.inr e))))
  have HN := hide (show ∀ q, (Value.slice (some ⟨g, 0, none⟩) (st.length + 1) cap).ownBlock = some q → (Value.slice sa st.length sc).ownBlock = some q ∨ w.heap.size ≤ q from fun q hq => by
    have e : g = q := by simpa [Value.ownBlock] using hq
    subst e
    exact hg.imp_right (fun h => Nat.le_trans (Nat.le_trans KX.size G2.size) h))
  clear M2 hy R3 O3 hg K3 G2 q1 q3 D
  go_wp2_with fail
  go_ret
  refine ⟨rfl, some ⟨g, 0, none⟩, cap, _, ys, unhide HE, unhide HK, ?_⟩
  rw [List.length_append]
  exact unhide HN


end Go.Proofs.YtogenboibgddaaaGreatDoor

namespace Go.Proofs.YtogenboibgddaaaGreatDoor
open Go.RowKit
set_option linter.unusedVariables false

variable {aS aO aZ aW : Addr} {B mb lb : Nat} {ap : Option Addr} {np cp : Nat} {iv : Value} {a1 : Option Addr} {n1 c1 : Nat} {a2 : Option Addr} {n2 c2 : Nat} {s : Int} {R : Rq} {S : Nat} {at_ : Nat} {st : List Vv} {sl : List (Option Vv)} {sa : Option Addr} {sc : Nat} {xs ys : List Value} {w w0 : World} {P : List Vl}

/-- a slot is set -/
theorem McO.store {B mb lb : Nat} {pv iv q1 q2 : Value} {s : Int} {R : Rq} {S : Nat} {at_ : Int} {st : List Vv} {sl : List (Option Vv)} {sa : Option Addr} {sc : Nat} {xs ys : List Value} {w : World} (h : McO B mb lb pv iv q1 q2 s R S at_ st sl sa sc xs ys w) {k : Nat} (hk : k < S) {x : Value} {v : Vv} (hx : VIs (gdM mb lb sa) w x v) : McO B mb lb pv iv q1 q2 s R S at_ st (sl.set k (some v)) sa sc xs (ys.set k x) (w.setCell ⟨lb, k, none⟩ x) := by
  have kp : Kpt (fun b => b = lb) w (w.setCell ⟨lb, k, none⟩ x) := Kpt.setCell (S := fun b => b = lb) (Kpt.refl _ w) (p := ⟨lb, k, none⟩) (fun _ => rfl) _
  have hlb : mb ≠ lb := fun e => far_slots h (.inl e.symm)
  refine ⟨h.row.kpt kp hlb, own_set3 h.stk _ _ (fun q hq e => h.apart (by rw [hq, e])), ?_, ⟨by rw [List.length_set]; exact h.len.1, by rw [List.length_set]; exact h.len.2⟩, fun j hj => ?_, fun j hj => ?_, h.low, h.apart⟩
  · have := h.slr.set k x
    rw [List.setIfInBounds_toArray] at this
    exact this
  · obtain ⟨y, e, hy⟩ := h.vst j hj
    exact ⟨y, e, hy.kpt kp (fun b hb => hb.2.1)⟩
  · by_cases ej : k = j
    · subst ej
      refine ⟨x, by rw [List.getElem?_set_self (by rw [h.len.1]; exact hk)], fun u hu => ?_⟩
      rw [List.getD_eq_getElem?_getD, List.getElem?_set_self (by rw [h.len.2]; exact hk)] at hu
      cases hu
      exact hx.kpt kp (fun b hb => hb.2.1)
    · obtain ⟨y, e, hy⟩ := h.vsl j hj
      refine ⟨y, by rw [List.getElem?_set_ne ej]; exact e, fun u hu => (hy u ?_).kpt kp (fun b hb => hb.2.1)⟩
      rw [List.getD_eq_getElem?_getD, List.getElem?_set_ne ej, ← List.getD_eq_getElem?_getD] at hu
      exact hu

set_option maxRecDepth 100000 in
set_option maxHeartbeats 6400000 in
theorem take_op4 (h : McO B mb lb (.slice ap np cp) iv (.slice a1 n1 c1) (.slice a2 n2 c2) s R S at_ st sl sa sc xs ys w) (hl : Below w0.heap.size w0 w) (hB : w0.heap.size ≤ B) (hn : st.length ≤ 100) (hat : at_ ≤ 20000) (k : Nat) (hk : k < S) (zs : List Vv) (v : Vv) (hz : st = zs ++ [v]) :
    Calls Tryz.prog 55 #[.pointer (some ⟨mb, 0, none⟩), .agg #[.int .i64 4, .int .i64 k]] w (fun r w' => r = .returned .nilIface ∧ Behind B mb lb (.slice ap np cp) iv (.slice a1 n1 c1) (.slice a2 n2 c2) s R S (.slice sa st.length sc) ((at_ : Int) + 1) (zs) (sl.set k (some v)) w w') := by
  have wk := wrap_at hat
  have CI := (Below.refl w.heap.size w).alloc (Nat.le_refl _) (.cells #[.int .i64 4, .int .i64 k] 87)
  have CJ := (Below.refl _ (w.setCell ⟨mb, 11, none⟩ (.int .i64 ((at_ : Int) + 1)))).alloc (Nat.le_refl _) (.cells #[.int .i64 4, .int .i64 k] 87)
  have M0 := (h.goto ((at_ : Int) + 1)).below CJ
  have e11 : (w.alloc (.cells #[.int .i64 4, .int .i64 k] 87)).cell? ⟨mb, 11, none⟩ = some (.int .i64 at_) := (h.below CI).row.cell 11
  have ef := fun j => (h.below CI).row.frozen j
  have hmb := h.row.lt
  have hBm := h.low.1
  have LX := (hl.setCell (p := ⟨mb, 11, none⟩) (by show w0.heap.size ≤ mb; omega) (.int .i64 ((at_ : Int) + 1))).alloc (by simpa using hl.size) (.cells #[.int .i64 4, .int .i64 k] 87)
  have KX : Kpt (ownM mb lb (.slice sa st.length sc)) w ((w.setCell ⟨mb, 11, none⟩ (.int .i64 ((at_ : Int) + 1))).alloc (.cells #[.int .i64 4, .int .i64 k] 87)) := Kpt.trans ((Kpt.refl _ w).setCell (p := ⟨mb, 11, none⟩) (fun _ => .inl rfl) (.int .i64 ((at_ : Int) + 1))) (Kpt.of_below (S := fun _ => False) CJ) (fun _ _ h => h.elim)
  have RI := Row.new (w.setCell ⟨mb, 11, none⟩ (.int .i64 ((at_ : Int) + 1))) #[.int .i64 4, .int .i64 k] 87
  simp only [World.size_setCell] at RI
  subst hz
  obtain ⟨ws, x, rfl, hwl, hx⟩ := M0.last
  obtain ⟨t, u, rfl⟩ := hx.form
  have hzl : zs.length ≤ 100 := by simp at hn; omega
  have e9 : (zs ++ [v]).length = zs.length + 1 := by simp
  have HP := hide (show Row _ mb (mcV (.slice ap np cp) s iv R (.slice a1 n1 c1) (.slice a2 n2 c2) (.slice sa (zs.length + 1) sc) (.slice (some ⟨lb, 0, none⟩) S S) ((at_ : Int) + 1) 0 0 (.slice none 0 0)) 63 ∧ World.ownsRow _ B 138 1 (.slice sa (zs.length + 1) sc) (zs.length + 1) (ws ++ [.iface t u]) from ⟨by have := M0.row; rw [e9] at this; exact this, by have := M0.stk; rw [e9] at this; exact this⟩)
  have HWL := hide hwl
  have HX := hide hx
  have kin : (k : Int) < (S : Int) := by omega
  have M0R := M0.row
  have hlm : lb ≠ mb := fun e => far_slots h (.inl e)
  have hwl2 : w.heap.size ≠ lb := fun e => by have := h.slr.lt; omega
  have hwm : w.heap.size ≠ mb := by omega
  clear hwl e9 hx
  have HM := hide M0
  have HH := hide h
  clear h M0
  go_enter Tryz.func55, Tryz.ntmps55
  go_wp2_with fail
  generalize (w.setCell ⟨mb, 11, none⟩ (Value.int IntKind.i64 ((at_ : Int) + 1))).alloc (Obj.cells #[Value.int IntKind.i64 4, Value.int IntKind.i64 k] 87) = X at *
  have D := (Below.refl X.heap.size X).drew
  have MX := (unhide HM).below D
  have q1 : (fun w' => w'.cell? ⟨mb, 10, none⟩ = some (.slice (some ⟨lb, 0, none⟩) S S) ∧ w'.cell? ⟨w.heap.size, 1, none⟩ = some (.int .i64 k)) X.drew := ⟨M0R.cell 10, RI.cell 1⟩
  go_region_held3 (fun w' => w'.cell? ⟨mb, 10, none⟩ = some (.slice (some ⟨lb, 0, none⟩) S S) ∧ w'.cell? ⟨w.heap.size, 1, none⟩ = some (.int .i64 k)) (first | assumption | fail)
    (first
      | (go_at_call 90; refine (pop_any mb B zs.length sc _ _ _ _ _ _ _ _ _ _ _ sa ws t u _ ((unhide HP).1.after D (Nat.le_refl _)) (owns_blocks2 (unhide HP).2 (fun q hq => D.block q ((unhide HP).2.lt q hq).2)) (by omega)).mono ?_; rintro r w2 ⟨rfl, R2, O2, K2⟩; have M2 := MX.pop (unhide HWL) R2 O2 K2; have hx2 := ((unhide HX).below D (Nat.le_refl _)).kpt K2 (fun b hb => hb.1); have RI2 := (RI.after D (Nat.le_refl _)).kpt K2 hwm; have q2 : (fun w' => w'.cell? ⟨mb, 10, none⟩ = some (.slice (some ⟨lb, 0, none⟩) S S) ∧ w'.cell? ⟨w.heap.size, 1, none⟩ = some (.int .i64 k)) w2 := ⟨R2.cell 10, RI2.cell 1⟩; have q3 : (fun w' => w'.cell? ⟨mb, 10, none⟩ = some (.slice (some ⟨lb, 0, none⟩) S S) ∧ w'.cell? ⟨w.heap.size, 1, none⟩ = some (.int .i64 k)) (w2.setCell ⟨lb, k, none⟩ (.iface t u)) := ⟨(R2.setFar (p := ⟨lb, k, none⟩) (fun e => hlm e.symm) _).cell 10, (RI2.setFar (p := ⟨lb, k, none⟩) hwl2 _).cell 1⟩; obtain ⟨y, hye, _⟩ := M2.vsl k hk; have cy := (M2.slr.cell k).trans (show ys.toArray[k]? = some y by simpa using hye); have fy := (fun j => M2.slr.frozen j))
      | fail)
  have HE := hide (M2.store hk hx2)
  have HK := hide (((KX.trans (Kpt.of_below (S := fun _ => False) D) (fun _ _ h => h.elim)).trans K2 (fun q _ h => .inl h)).setCell (p := ⟨lb, k, none⟩) (fun _ => .inr (.inl rfl)) (.iface t u))
  have HN := hide (show ∀ q, (Value.slice sa zs.length sc).ownBlock = some q → (Value.slice sa (zs ++ [v]).length sc).ownBlock = some q ∨ w.heap.size ≤ q from fun q hq => .inl ((own_any _ _ _ _ _).trans hq))
  clear M2 hx2 R2 O2 K2 RI2 q1 q2 q3 MX D hye cy fy
  go_wp2_with fail
  go_ret
  exact ⟨rfl, sa, sc, ws, _, unhide HE, unhide HK, unhide HN⟩


end Go.Proofs.YtogenboibgddaaaGreatDoor

namespace Go.Proofs.YtogenboibgddaaaGreatDoor
open Go.RowKit
set_option linter.unusedVariables false

variable {aS aO aZ aW : Addr} {B mb lb : Nat} {ap : Option Addr} {np cp : Nat} {iv : Value} {a1 : Option Addr} {n1 c1 : Nat} {a2 : Option Addr} {n2 c2 : Nat} {s : Int} {R : Rq} {S : Nat} {at_ : Nat} {st : List Vv} {sl : List (Option Vv)} {sa : Option Addr} {sc : Nat} {xs ys : List Value} {w w0 : World} {P : List Vl}

set_option maxRecDepth 100000 in
set_option maxHeartbeats 6400000 in
theorem grant_any (n : Nat) (hn : n ≤ 900) (az : Int) (zs : List Value) (a : Option Addr) (k c : Nat) (ss : List ByteArray) (hR : Row w mb (mcV (.slice ap np cp) s iv R (.slice a1 n1 c1) (.slice a2 n2 c2) (.slice sa (n + 1) sc) (.slice (some ⟨lb, 0, none⟩) S S) (az) 0 0 (.slice none 0 0)) 63) (hO : w.ownsRow B 138 1 (.slice sa (n + 1) sc) (n + 1) (zs ++ [.iface 167 (.slice a k c)])) (hS : Strs w a k c ss) (hls : ss.length ≤ 1048576) (hg : ∀ ad, a = some ad → 0 < k → ad.block ≠ mb) :
    Calls Tryz.prog 91 #[.pointer (some ⟨mb, 0, none⟩)] w fun r w' => r = .returned (.tuple #[]) ∧ ∃ y cy, Row w' mb (mcV (.slice ap np cp) s iv R (.slice a1 n1 c1) (.slice a2 n2 c2) (.slice sa n sc) (.slice (some ⟨lb, 0, none⟩) S S) (az) 2 0 (.slice y ss.length cy)) 63 ∧ w'.ownsRow w.heap.size 9 1 (.slice y ss.length cy) ss.length (ss.map Value.string) ∧ Kpt (fun k => k = mb) w w' := by
  have tms := tm_set
  have HP := hide (pop_any mb B n sc _ _ _ _ _ _ _ _ _ _ _ sa zs _ _ w hR hO hn)
  have HS := hide hS
  have hmb := hR.lt
  clear hR hO hS
  go_enter Tryz.func91, Tryz.ntmps91
  go_wp2_with fail
  refine (unhide HP).mono ?_
  rintro r w1 ⟨rfl, R1, O1, K1⟩
  have S1 := (unhide HS).kpt K1 hg
  have HO := hide O1
  clear HP O1
  dsimp only
  go_wp2_with fail
  refine (cloneS_any a k c ss w1 S1 hls).mono ?_
  rintro r w2 ⟨⟨y, cy, rfl, O2⟩, hb2⟩
  have R2 := R1.after hb2 (Nat.le_refl _)
  obtain ⟨g0, g1, g2, g3, g4, g5, g6, g7, g8, g9, g10, g11, g12, g13, g14⟩ := row15 R2
  have f0 := fun j => R2.frozen j
  have A1 := R2.set 12 (.int .i64 2)
  have A2 := A1.set 13 (.int .i64 0)
  have f1 := fun j => A1.frozen j
  have f2 := fun j => A2.frozen j
  have HE := hide (A2.set 14 (.slice y ss.length cy))
  have ne : ∀ q, (Value.slice y ss.length cy).ownBlock = some q → q ≠ mb := fun q hq e => own_ne_row R2 O2 (by decide) (by rw [hq, e])
  have HO2 := hide (owns_mono (own_set3 (own_set3 (own_set3 O2 ⟨mb, 12, none⟩ (.int .i64 2) ne) ⟨mb, 13, none⟩ (.int .i64 0) ne) ⟨mb, 14, none⟩ (.slice y ss.length cy) ne) K1.size)
  have HK := hide ((((K1.trans (Kpt.of_below (S := fun _ => False) hb2) (fun _ _ h => h.elim)).setCell (p := ⟨mb, 12, none⟩) (fun _ => rfl) (.int .i64 2)).setCell (p := ⟨mb, 13, none⟩) (fun _ => rfl) (.int .i64 0)).setCell (p := ⟨mb, 14, none⟩) (fun _ => rfl) (.slice y ss.length cy))
  clear A1 A2 R1 R2 O2 K1 hb2 ne S1
  dsimp only
  go_wp2_with fail
  go_end0
  exact ⟨rfl, y, cy, unhide HE, unhide HO2, unhide HK⟩

set_option maxRecDepth 100000 in
set_option maxHeartbeats 6400000 in
theorem take_op25 (h : McO B mb lb (.slice ap np cp) iv (.slice a1 n1 c1) (.slice a2 n2 c2) s R S at_ st sl sa sc xs ys w) (hl : Below w0.heap.size w0 w) (hB : w0.heap.size ≤ B) (hn : st.length ≤ 100) (hat : at_ ≤ 20000) (zs : List Vv) (ss : List ByteArray) (hz : st = zs ++ [.set ss]) :
    Calls Tryz.prog 55 #[.pointer (some ⟨mb, 0, none⟩), .agg #[.int .i64 25, .int .i64 0]] w (fun r w' => r = .returned .nilIface ∧ ∃ y cy, Row w' mb (mcV (.slice ap np cp) s iv R (.slice a1 n1 c1) (.slice a2 n2 c2) (.slice sa zs.length sc) (.slice (some ⟨lb, 0, none⟩) S S) ((at_ : Int) + 1) 2 0 (.slice y ss.length cy)) 63 ∧ w'.ownsRow w.heap.size 9 1 (.slice y ss.length cy) ss.length (ss.map Value.string) ∧ Kpt (ownM mb lb (.slice sa st.length sc)) w w') := by
  have wk := wrap_at hat
  have CI := (Below.refl w.heap.size w).alloc (Nat.le_refl _) (.cells #[.int .i64 25, .int .i64 0] 87)
  have CJ := (Below.refl _ (w.setCell ⟨mb, 11, none⟩ (.int .i64 ((at_ : Int) + 1)))).alloc (Nat.le_refl _) (.cells #[.int .i64 25, .int .i64 0] 87)
  have M0 := (h.goto ((at_ : Int) + 1)).below CJ
  have e11 : (w.alloc (.cells #[.int .i64 25, .int .i64 0] 87)).cell? ⟨mb, 11, none⟩ = some (.int .i64 at_) := (h.below CI).row.cell 11
  have ef := fun j => (h.below CI).row.frozen j
  have hmb := h.row.lt
  have hBm := h.low.1
  have LX := (hl.setCell (p := ⟨mb, 11, none⟩) (by show w0.heap.size ≤ mb; omega) (.int .i64 ((at_ : Int) + 1))).alloc (by simpa using hl.size) (.cells #[.int .i64 25, .int .i64 0] 87)
  have KX : Kpt (ownM mb lb (.slice sa st.length sc)) w ((w.setCell ⟨mb, 11, none⟩ (.int .i64 ((at_ : Int) + 1))).alloc (.cells #[.int .i64 25, .int .i64 0] 87)) := Kpt.trans ((Kpt.refl _ w).setCell (p := ⟨mb, 11, none⟩) (fun _ => .inl rfl) (.int .i64 ((at_ : Int) + 1))) (Kpt.of_below (S := fun _ => False) CJ) (fun _ _ h => h.elim)
  have RI := Row.new (w.setCell ⟨mb, 11, none⟩ (.int .i64 ((at_ : Int) + 1))) #[.int .i64 25, .int .i64 0] 87
  simp only [World.size_setCell] at RI
  subst hz
  obtain ⟨ws, x, rfl, hwl, hx⟩ := M0.last
  obtain ⟨a9, k9, c9, rfl, hS9, hl9, hg9⟩ := hx
  have hzl : zs.length ≤ 100 := by simp at hn; omega
  have e9 : (zs ++ [Vv.set ss]).length = zs.length + 1 := by simp
  have HP := hide (show Row _ mb (mcV (.slice ap np cp) s iv R (.slice a1 n1 c1) (.slice a2 n2 c2) (.slice sa (zs.length + 1) sc) (.slice (some ⟨lb, 0, none⟩) S S) ((at_ : Int) + 1) 0 0 (.slice none 0 0)) 63 ∧ World.ownsRow _ B 138 1 (.slice sa (zs.length + 1) sc) (zs.length + 1) (ws ++ [.iface 167 (.slice a9 k9 c9)]) from ⟨by have := M0.row; rw [e9] at this; exact this, by have := M0.stk; rw [e9] at this; exact this⟩)
  have HS9 := hide hS9
  have HG9 := hide hg9
  clear hwl e9 hS9 hg9
  have HM := hide M0
  have HH := hide h
  clear h M0
  go_enter Tryz.func55, Tryz.ntmps55
  go_wp2_with fail
  generalize (w.setCell ⟨mb, 11, none⟩ (Value.int IntKind.i64 ((at_ : Int) + 1))).alloc (Obj.cells #[Value.int IntKind.i64 25, Value.int IntKind.i64 0] 87) = X at *
  refine (grant_any zs.length (by omega) _ ws a9 k9 c9 ss (unhide HP).1 (unhide HP).2 (unhide HS9) hl9 (fun ad e h0 => (unhide HG9 ad e h0).1)).mono ?_
  rintro r w2 ⟨rfl, y, cy, R2, O2, K2⟩
  have HE := hide R2
  have HO := hide (owns_mono O2 KX.size)
  have HK := hide (KX.trans K2 (fun q _ h => .inl h))
  clear R2 O2 K2
  dsimp only
  go_wp2_with fail
  go_ret
  exact ⟨rfl, y, cy, unhide HE, unhide HO, unhide HK⟩


end Go.Proofs.YtogenboibgddaaaGreatDoor

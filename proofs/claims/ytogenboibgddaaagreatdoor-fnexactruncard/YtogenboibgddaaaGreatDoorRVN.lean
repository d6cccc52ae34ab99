/-
  The program's machine runs. Own work.
-/
import Derived.Test.YtogenboibgddaaaGreatDoorMXAN
import Derived.Test.YtogenboibgddaaaGreatDoorMXAK
namespace Go.Proofs.YtogenboibgddaaaGreatDoor
open Go.RowKit
set_option linter.unusedVariables false

variable {aS aO aZ aW : Addr}

/-- what a run stands on -/
structure RunE (w0 : World) (B mb lb : Nat) (ap : Option Addr) (np cp : Nat) (ai : Option Addr) (ni ci : Nat) (a1 : Option Addr) (n1 c1 : Nat) (a2 : Option Addr) (n2 c2 : Nat) (P : List Vl) (I : List Is1) (R : Rq) (S : Nat) (aS aO aZ aW : Addr) (K : List (Option Vs)) : Prop where
  env : EnvR w0 ap np cp a1 n1 c1 a2 n2 c2 P R aS aO aZ aW
  ins : Iss w0 ai ni ci I
  okI : ∀ i ∈ I, insB i = true
  low : w0.heap.size ≤ B
  len : I.length ≤ 20000
  kst : Kst (P.map Vl.kind) S I 0 K

/-- the machine is running -/
def LoopR (w0 : World) (B mb lb : Nat) (pv iv q1 q2 : Value) (s : Int) (R : Rq) (S : Nat) (P : List Vl) (I : List Is1) (K : List (Option Vs)) (X : Rn) (sv : Value) (w : World) (tb rb : Nat) (wr : World) : Prop := ∃ (at_ : Nat) (st : List Vv) (sl : List (Option Vv)) (n pk : Nat) (v : Vs) (sa : Option Addr) (sc : Nat) (xs ys : List Value),
  Hid ((K.getD at_ none = some v ∧ OkS v st sl ∧ v.slots.length = S ∧ at_ < I.length) ∧ (n ≤ at_ ∧ pk ≤ 100 ∧ st.length ≤ pk) ∧ ∃ f, I.length - at_ ≤ f ∧ X = runR R P I f at_ st sl n pk) ∧ McO B mb lb pv iv q1 q2 s R S at_ st sl sa sc xs ys wr ∧ Row wr tb #[.int .i64 0, .int .i64 0, .slice none 0 0, .int .i64 n, .int .i64 pk] 34 ∧ Row wr rb #[.int .i64 0, .int .i64 0, .slice none 0 0, .int .i64 0, .int .i64 0] 34 ∧ Below w0.heap.size w0 wr ∧ Kpt (ownM mb lb sv) w wr ∧ (∀ q, (Value.slice sa st.length sc).ownBlock = some q → sv.ownBlock = some q ∨ w.heap.size ≤ q)

/-- it stands -/
def LoopF (w0 : World) (B mb lb : Nat) (pv iv q1 q2 : Value) (s : Int) (R : Rq) (S : Nat) (X : Rn) (sv : Value) (w : World) (tb rb : Nat) (wr : World) : Prop := ∃ (n pk : Nat) (ko co at' : Int) (ss : List ByteArray) (y : Option Addr) (cy : Nat) (sw : Value),
  Hid (ko ≠ 0 ∧ X = ⟨(ko, co, ss), n, pk⟩) ∧ Row wr mb (mcV pv s iv R q1 q2 sw (.slice (some ⟨lb, 0, none⟩) S S) at' ko co (.slice y ss.length cy)) 63 ∧ wr.ownsRow w.heap.size 9 1 (.slice y ss.length cy) ss.length (ss.map Value.string) ∧ Row wr tb #[.int .i64 0, .int .i64 0, .slice none 0 0, .int .i64 n, .int .i64 pk] 34 ∧ Row wr rb #[.int .i64 0, .int .i64 0, .slice none 0 0, .int .i64 0, .int .i64 0] 34 ∧ Below w0.heap.size w0 wr ∧ Kpt (ownM mb lb sv) w wr

theorem ret_inj {a b : Value} (h : Ending.returned a = .returned b) : a = b := by cases h; rfl

theorem TkA.form {B mb lb : Nat} {pv iv q1 q2 : Value} {s : Int} {R : Rq} {S : Nat} {P : List Vl} {i : Is1} {at_ : Nat} {st : List Vv} {sl : List (Option Vv)} {sa : Option Addr} {sc : Nat} {ys : List Value} {w : World} {r : Ending} {w' : World} (h : TkA aS aO aZ aW B mb lb pv iv q1 q2 s R S P i at_ st sl sa sc ys w r w') : ∃ v, r = .returned v ∧ TkA aS aO aZ aW B mb lb pv iv q1 q2 s R S P i at_ st sl sa sc ys w (.returned v) w' := by
  have h' := h
  rcases h with ⟨_, e, _⟩ | ⟨_, e, _⟩ | ⟨_, _, _, ⟨e, _⟩, _⟩ | ⟨_, _, _, _, _, e, _⟩
  all_goals (subst e; exact ⟨_, rfl, h'⟩)

theorem row5T {w : World} {b : Nat} {v0 v1 v2 v3 v4 : Value} {t : TypeId} (R : Row w b #[v0, v1, v2, v3, v4] t) : w.cell? ⟨b, 0, none⟩ = some v0 ∧ w.cell? ⟨b, 1, none⟩ = some v1 ∧ w.cell? ⟨b, 2, none⟩ = some v2 ∧ w.cell? ⟨b, 3, none⟩ = some v3 ∧ w.cell? ⟨b, 4, none⟩ = some v4 := ⟨R.cell 0, R.cell 1, R.cell 2, R.cell 3, R.cell 4⟩

/-- how far it is to the end -/
def mzR (mb M : Nat) (wr : World) : Nat := match wr.cell? ⟨mb, 11, none⟩, wr.cell? ⟨mb, 12, none⟩ with
  | some (.int _ a), some (.int _ k) => if k = 0 then M + 1 - a.toNat else 0
  | _, _ => 0

theorem mz_fin {mb M : Nat} {W : World} {pv iv q1 q2 sv lv ov : Value} {s at_ ko co : Int} {R : Rq} {t : TypeId} (r : Row W mb (mcV pv s iv R q1 q2 sv lv at_ ko co ov) t) (h : ko ≠ 0) : mzR mb M W = 0 := by
  have e1 : W.cell? ⟨mb, 11, none⟩ = some (.int .i64 at_) := r.cell 11
  have e2 : W.cell? ⟨mb, 12, none⟩ = some (.int .i64 ko) := r.cell 12
  rw [mzR, e1, e2]
  exact if_neg h

theorem mz_run {mb M : Nat} {W : World} {pv iv q1 q2 sv lv ov : Value} {s co : Int} {a : Nat} {R : Rq} {t : TypeId} (r : Row W mb (mcV pv s iv R q1 q2 sv lv a 0 co ov) t) : mzR mb M W = M + 1 - a := by
  have e1 : W.cell? ⟨mb, 11, none⟩ = some (.int .i64 a) := r.cell 11
  have e2 : W.cell? ⟨mb, 12, none⟩ = some (.int .i64 0) := r.cell 12
  rw [mzR, e1, e2]
  simp

theorem max_ite (a b : Nat) : max (a : Int) (b : Int) = if a < b then (b : Int) else (a : Int) := by split <;> omega

/-- a round's end: the steps and the height are written -/
theorem end_row {w1 : World} {tb n pk l : Nat} (RT1 : Row w1 tb #[.int .i64 0, .int .i64 0, .slice none 0 0, .int .i64 n, .int .i64 pk] 34) : Row ((w1.setCell ⟨tb, 3, none⟩ (.int .i64 ((n : Int) + 1))).setCell ⟨tb, 4, none⟩ (.int .i64 (if pk < l then (l : Int) else (pk : Int)))).drew tb #[.int .i64 0, .int .i64 0, .slice none 0 0, .int .i64 ((n + 1 : Nat) : Int), .int .i64 ((max pk l : Nat) : Int)] 34 := by
  have h := ((RT1.set 3 (.int .i64 ((n : Int) + 1))).set 4 (.int .i64 (if pk < l then (l : Int) else (pk : Int)))).after (Below.refl _ _).drew (Nat.le_refl _)
  have e : ((max pk l : Nat) : Int) = if pk < l then (l : Int) else (pk : Int) := by
    split
    · rw [Nat.max_eq_right (by omega)]
    · rw [Nat.max_eq_left (by omega)]
  rw [e, Int.natCast_add]
  exact h

/-- a set does not lie in a row that holds no text -/
theorem VIs.far {G : Nat → Prop} {w : World} {x : Value} {v : Vv} {tb : Nat} {cs : Array Value} {t : TypeId} (h : VIs G w x v) (r : Row w tb cs t) (hns : ∀ (j : Nat) (y : ByteArray), cs[j]? ≠ some (.string y)) : VIs (fun b => G b ∧ b ≠ tb) w x v := by
  cases v with
  | bool b => exact h
  | int n => exact h
  | text s => exact h
  | set ss =>
    obtain ⟨a, n, c, h1, h2, h3, h4⟩ := h
    refine ⟨a, n, c, h1, h2, h3, fun ad e h0 => ⟨h4 ad e h0, fun eb => ?_⟩⟩
    obtain ⟨b, off, ha, _, hc⟩ := h2.cells 0 h0
    rw [e] at ha
    cases ha
    have eb2 : b = tb := eb
    subst eb2
    rw [r.cell] at hc
    exact hns _ _ hc

theorem own_end {w1 : World} {B n tb : Nat} {e : TypeId} {x : Value} {xs : List Value} {u v : Value} (h : w1.ownsRow B e 1 x n xs) (hn : ∀ q, x.ownBlock = some q → q ≠ tb) : ((w1.setCell ⟨tb, 3, none⟩ u).setCell ⟨tb, 4, none⟩ v).drew.ownsRow B e 1 x n xs :=
  owns_blocks2 (own_set3 (own_set3 h ⟨tb, 3, none⟩ u hn) ⟨tb, 4, none⟩ v hn) (fun q _ => rfl)

theorem mco_end {B mb lb : Nat} {pv iv q1 q2 : Value} {s : Int} {R : Rq} {S : Nat} {at_ : Int} {st : List Vv} {sl : List (Option Vv)} {sa : Option Addr} {sc : Nat} {xs ys : List Value} {w1 : World} {tb n pk : Nat} {u v : Value} (h : McO B mb lb pv iv q1 q2 s R S at_ st sl sa sc xs ys w1) (r : Row w1 tb #[.int .i64 0, .int .i64 0, .slice none 0 0, .int .i64 n, .int .i64 pk] 34) : McO B mb lb pv iv q1 q2 s R S at_ st sl sa sc xs ys ((w1.setCell ⟨tb, 3, none⟩ u).setCell ⟨tb, 4, none⟩ v).drew := by
  have hm : tb ≠ mb := fun e => by
    subst e
    have := r.out.symm.trans h.row.out
    simp at this
  have hlb : tb ≠ lb := fun e => by
    subst e
    have := r.out.symm.trans h.slr.out
    simp at this
  have hso : ∀ q, (Value.slice sa st.length sc).ownBlock = some q → q ≠ tb := fun q hq e => own_ne_row r h.stk (by decide) (by rw [hq, e])
  have k : Kpt (fun b => b = tb) w1 ((w1.setCell ⟨tb, 3, none⟩ u).setCell ⟨tb, 4, none⟩ v).drew := (Kpt.setCell (S := fun b => b = tb) (Kpt.setCell (S := fun b => b = tb) (Kpt.refl _ w1) (p := ⟨tb, 3, none⟩) (fun _ => rfl) u) (p := ⟨tb, 4, none⟩) (fun _ => rfl) v).trans (Kpt.of_below (S := fun _ => False) (Below.refl _ _).drew) (fun _ _ h => h.elim)
  have hns : ∀ (j : Nat) (x : ByteArray), (#[Value.int .i64 0, .int .i64 0, .slice none 0 0, .int .i64 n, .int .i64 pk])[j]? ≠ some (.string x) := fun j x e => by
    rcases Nat.lt_or_ge j 5 with hj | hj
    · rcases (show j = 0 ∨ j = 1 ∨ j = 2 ∨ j = 3 ∨ j = 4 by omega) with rfl | rfl | rfl | rfl | rfl <;> simp at e
    · rw [Array.getElem?_eq_none (by simpa using hj)] at e; cases e
  have vh : ∀ {y : Value} {z : Vv}, VIs (gdM mb lb sa) w1 y z → VIs (gdM mb lb sa) ((w1.setCell ⟨tb, 3, none⟩ u).setCell ⟨tb, 4, none⟩ v).drew y z := fun hv => ((hv.far r hns).kpt k (fun b hb => hb.2)).good (fun b _ hb => hb.1)
  refine ⟨h.row.kpt k (fun e => hm e.symm), own_end h.stk hso, h.slr.kpt k (fun e => hlb e.symm), h.len, fun j hj => ?_, fun j hj => ?_, h.low, h.apart⟩
  · obtain ⟨y, e, hy⟩ := h.vst j hj
    exact ⟨y, e, vh hy⟩
  · obtain ⟨y, e, hy⟩ := h.vsl j hj
    exact ⟨y, e, fun z hz => vh (hy z hz)⟩

theorem far_end {w1 : World} {b tb : Nat} {cs : Array Value} {t : TypeId} {u v : Value} (r : Row w1 b cs t) (h : b ≠ tb) : Row ((w1.setCell ⟨tb, 3, none⟩ u).setCell ⟨tb, 4, none⟩ v).drew b cs t :=
  ((r.setFar (p := ⟨tb, 3, none⟩) h u).setFar (p := ⟨tb, 4, none⟩) h v).after (Below.refl _ _).drew (Nat.le_refl _)

theorem kpt_end {S : Nat → Prop} {w w1 : World} {tb : Nat} {u v : Value} (k : Kpt S w w1) (h : w.heap.size ≤ tb) : Kpt S w ((w1.setCell ⟨tb, 3, none⟩ u).setCell ⟨tb, 4, none⟩ v).drew :=
  ((k.setCell (p := ⟨tb, 3, none⟩) (fun e => absurd e (by show ¬ (tb < w.heap.size); omega)) u).setCell (p := ⟨tb, 4, none⟩) (fun e => absurd e (by show ¬ (tb < w.heap.size); omega)) v).trans (Kpt.of_below (S := fun _ => False) (Below.refl _ _).drew) (fun _ _ h => h.elim)

theorem below_end {w0 w1 : World} {tb : Nat} {u v : Value} (k : Below w0.heap.size w0 w1) (h : w0.heap.size ≤ tb) : Below w0.heap.size w0 ((w1.setCell ⟨tb, 3, none⟩ u).setCell ⟨tb, 4, none⟩ v).drew :=
  ((k.setCell (p := ⟨tb, 3, none⟩) h u).setCell (p := ⟨tb, 4, none⟩) h v).drew

set_option maxRecDepth 100000 in
set_option maxHeartbeats 6400000 in
theorem run_any (w0 : World) (B mb lb : Nat) (ap : Option Addr) (np cp : Nat) (ai : Option Addr) (ni ci : Nat) (a1 : Option Addr) (n1 c1 : Nat) (a2 : Option Addr) (n2 c2 : Nat) (P : List Vl) (I : List Is1) (s : Int) (R : Rq) (S : Nat) (K : List (Option Vs)) (w : World) (ys : List Value) (E : RunE w0 B mb lb ap np cp ai ni ci a1 n1 c1 a2 n2 c2 P I R S aS aO aZ aW K) (h0 : 0 < I.length) (hk0 : K.getD 0 none = some ⟨[], List.replicate S 0⟩) (hM : McO B mb lb (.slice ap np cp) (.slice ai ni ci) (.slice a1 n1 c1) (.slice a2 n2 c2) s R S (0 : Nat) [] (List.replicate S none) none 0 [] ys w) (hl : Below w0.heap.size w0 w) :
    Calls Tryz.prog 28 #[.pointer (some ⟨mb, 0, none⟩)] w fun r w' => ∃ o n pk x cx, runR R P I I.length 0 [] (List.replicate S none) 0 0 = ⟨o, n, pk⟩ ∧ r = .returned (.agg #[.int .i64 o.1, .int .i64 o.2.1, .slice x o.2.2.length cx, .int .i64 n, .int .i64 pk]) ∧ w'.ownsRow w.heap.size 9 1 (.slice x o.2.2.length cx) o.2.2.length (o.2.2.map Value.string) ∧ Kpt (fun k => k = mb ∨ k = lb) w w' := by
  have CT := ((Below.refl w.heap.size w).alloc (Nat.le_refl _) (.cells #[.int .i64 0, .int .i64 0, .slice none 0 0, .int .i64 0, .int .i64 0] 34)).alloc (by simp) (.cells #[.int .i64 0, .int .i64 0, .slice none 0 0, .int .i64 0, .int .i64 0] 34)
  have RT0 := Row.new (w.alloc (.cells #[.int .i64 0, .int .i64 0, .slice none 0 0, .int .i64 0, .int .i64 0] 34)) #[.int .i64 0, .int .i64 0, .slice none 0 0, .int .i64 0, .int .i64 0] 34
  simp only [World.size_alloc] at RT0
  have hmb := hM.row.lt
  generalize hX : runR R P I I.length 0 [] (List.replicate S none) 0 0 = X
  have HI := hide (show LoopR w0 B mb lb (.slice ap np cp) (.slice ai ni ci) (.slice a1 n1 c1) (.slice a2 n2 c2) s R S P I K X (.slice none 0 0) w (w.heap.size + 1) w.heap.size ((w.alloc (.cells #[.int .i64 0, .int .i64 0, .slice none 0 0, .int .i64 0, .int .i64 0] 34)).alloc (.cells #[.int .i64 0, .int .i64 0, .slice none 0 0, .int .i64 0, .int .i64 0] 34)) from ⟨0, [], List.replicate S none, 0, 0, ⟨[], List.replicate S 0⟩, none, 0, [], ys, hide ⟨⟨hk0, ⟨rfl, by simp, fun j hj => .inl (by simp)⟩, by simp, h0⟩, ⟨Nat.le_refl _, by omega, Nat.le_refl _⟩, I.length, by omega, hX.symm⟩, hM.below CT, RT0, (Row.new w _ _).alloc _, hl.trans (CT.mono hl.size), Kpt.of_below CT, fun q hq => by cases hq⟩)
  have HE := hide E
  clear hM hl hk0 hX E
  go_enter Tryz.func28, Tryz.ntmps28
  go_wp2_with fail
  go_loopw [4] (fun _ wr => True ∧ (LoopR w0 B mb lb (.slice ap np cp) (.slice ai ni ci) (.slice a1 n1 c1) (.slice a2 n2 c2) s R S P I K X (.slice none 0 0) w (w.heap.size + 1) w.heap.size wr ∨ LoopF w0 B mb lb (.slice ap np cp) (.slice ai ni ci) (.slice a1 n1 c1) (.slice a2 n2 c2) s R S X (.slice none 0 0) w (w.heap.size + 1) w.heap.size wr)) (fun _ wr => mzR mb I.length wr)
  case atStart => exact ⟨trivial, .inl (unhide HI)⟩
  case round =>
    obtain ⟨_, hR | hF⟩ := hrel
    · obtain ⟨at_, st, sl, n, pk, v, sa, sc, xs, zs, HS, M, RT, RR, LB, KP, NX⟩ := hR
      obtain ⟨g0, g1, g2, g3, g4, g5, g6, g7, g8, g9, g10, g11, g12, g13, g14⟩ := row15 M.row
      obtain ⟨⟨hkv, hok, hsl, hlt⟩, ⟨hna, hpk, hstk⟩, f1, hf1, hX⟩ := unhide HS
      obtain ⟨f2, rfl⟩ : ∃ f2, f1 = f2 + 1 := ⟨f1 - 1, by omega⟩
      obtain ⟨v2, hkv2, hst2, hnx⟩ := (unhide HE).kst at_ (Nat.zero_le _) hlt
      obtain rfl : v2 = v := Option.some.inj (hkv2.symm.trans hkv)
      have hgi : I.getD at_ ⟨0, 0⟩ = I[at_] := by rw [List.getD_eq_getElem?_getD, List.getElem?_eq_getElem hlt]; rfl
      rw [hgi] at hst2 hnx
      obtain ⟨ib, io, hai, hil, i0, i1⟩ := (unhide HE).ins.cells at_ hlt
      subst hai
      have j0 := (LB.cell (p := ⟨ib, io + at_ * 2, none⟩) hil).trans i0
      have j1 := (LB.cell (p := ⟨ib, io + at_ * 2 + 1, none⟩) hil).trans i1
      have atin : (at_ : Int) < (ni : Int) := by have := (unhide HE).ins.len; omega
      have at2 : at_ ≤ 20000 := by have := (unhide HE).len; omega
      have D := (Below.refl wr.heap.size wr).drew
      have HT := hide ((take_any (unhide HE).env (M.below D) (LB.trans (D.mono LB.size)) (unhide HE).low at2 ((unhide HE).okI _ (List.getElem_mem hlt)) hst2 hok hsl (by omega)).mono (fun r w' h => h.form))
      have nt : ∀ {b : Nat} {cs : Array Value}, Row wr b cs 34 → ¬ ownM mb lb (.slice sa st.length sc) b := fun {b cs} r e => by
        rcases e with e | e | e
        · subst e
          have := r.out.symm.trans M.row.out
          simp at this
        · subst e
          have := r.out.symm.trans M.slr.out
          simp at this
        · exact own_ne_row r M.stk (by decide) e
      have HNT := hide (And.intro (nt RT) (nt RR))
      have HNXX := hide NX
      have HII := hide ((unhide HE).okI _ (List.getElem_mem hlt))
      have HMR := hide (mz_run (M := I.length) M.row)
      have HKP := hide KP
      have HLO := hide (show ∀ b, b < w0.heap.size → ¬ ownM mb lb (.slice sa st.length sc) b from fun b hb e => by
        have := (unhide HE).low
        rcases e with e | e | e
        · have := M.low.1; omega
        · have := M.low.2; omega
        · have := (M.stk.lt _ e).1; omega)
      have HWS := hide (show w.heap.size ≤ wr.drew.heap.size from KP.size)
      have HMB := hide (show w0.heap.size ≤ mb by have := (unhide HE).low; have := M.low.1; omega)
      have HNX2 := hide (show ∀ q, q < w.heap.size → ownM mb lb (.slice sa st.length sc) q → ownM mb lb (.slice none 0 0) q from fun q hq h => h.imp_right (fun h => h.imp_right (fun h => (NX q h).resolve_right (by omega))))
      have HW0 := hide (show w0.heap.size ≤ w.heap.size + 1 by have := (unhide HE).low; have := M.low.1; omega)
      have hnm : (Tryz.f55.name == "runtime.NumGoroutine") = false := by kernel_rfl
      have hbd : Tryz.f55.body.isNone = false := by kernel_rfl
      clear nt
      have HX := hide hX
      have HF1 := hide hf1
      have HNX := hide hnx
      have HL := hide hlt
      have HOK := hide hok
      have HGI := hide hgi
      have HP := hide (And.intro hst2 (And.intro hkv (And.intro hsl (And.intro hpk hstk))))
      have HM := hide M
      have HRT := hide RT
      have HRR := hide RR
      have hnb : n ≤ 20000 := by omega
      have hpb : pk ≤ 100 := hpk
      have HNA := hide hna
      clear hkv hok hsl hna hpk hstk hX hf1 hkv2 hst2 hnx hgi hil i0 i1 HS
      generalize I[at_] = i at *
      clear hlt
      obtain ⟨t0, t1, t2, t3, t4⟩ := row5T RT
      clear RT RR M
      go_wp2_with fail
      go_region_law (first
        | (refine step_callR2 rfl 55 _ Tryz.func55 hnm hbd _ _ _ rfl (.pointer (some ⟨mb, 0, none⟩)) (.agg #[.int .i64 i.op, .int .i64 i.arg]) rfl rfl _ (unhide HT) ?_; intro v1 w1 hv1)
        | fail)
      all_goals
        rcases hv1 with ⟨hop, hr, hF⟩ | ⟨hop, hr, us, ss, hus, hF⟩ | ⟨hop, c, hsr, ⟨hr, hc⟩, us, ws, hul, M1, K1⟩ | ⟨hop, a', st', sl', hsr, hr, hBh⟩
        · obtain rfl := ret_inj hr
          obtain ⟨at', y, cy, R1, O1, K1⟩ := hF
          have RT1 := (((unhide HRT).after D (Nat.le_refl _)).kpt K1 (unhide HNT).1)
          have RR1 := (((unhide HRR).after D (Nat.le_refl _)).kpt K1 (unhide HNT).2)
          obtain ⟨t0, t1, t2, t3, t4⟩ := row5T RT1
          have tf := fun j => RT1.frozen j
          obtain ⟨g0, g1, g2, g3, g4, g5, g6, g7, g8, g9, g10, g11, g12, g13, g14⟩ := row15 R1
          have RT2 := RT1.set 3 (.int .i64 ((n : Int) + 1))
          obtain ⟨z0, z1, z2, z3, z4⟩ := row5T RT2
          have zf := fun j => RT2.frozen j
          have hbm : mb ≠ w.heap.size + 1 := fun e => (unhide HNT).1 (.inl e.symm)
          have R2 := R1.setFar (p := ⟨w.heap.size + 1, 3, none⟩) hbm (.int .i64 ((n : Int) + 1))
          obtain ⟨x0, x1, x2, x3, x4, x5, x6, x7, x8, x9, x10, x11, x12, x13, x14⟩ := row15 R2
          have LB1 := below_kpt (LB.trans (D.mono LB.size)) K1 (unhide HLO)
          have HX1 := hide (show X = ⟨(1, 0, []), n + 1, pk⟩ by rw [unhide HX, runR, unhide HGI, if_pos hop])
          have HW := hide (show LoopF w0 B mb lb (.slice ap np cp) (.slice (some ⟨ib, io, none⟩) ni ci) (.slice a1 n1 c1) (.slice a2 n2 c2) s R S X (.slice none 0 0) w (w.heap.size + 1) w.heap.size ((w1.setCell ⟨w.heap.size + 1, 3, none⟩ (.int .i64 ((n : Int) + 1))).setCell ⟨w.heap.size + 1, 4, none⟩ (.int .i64 (if pk < st.length then (st.length : Int) else (pk : Int)))).drew from ⟨n + 1, pk, 1, 0, at', [], y, cy, _, hide ⟨by decide, unhide HX1⟩, far_end R1 hbm, own_end (owns_mono O1 (unhide HWS)) (fun q hq e => own_ne_row RT1 O1 (by decide) (by rw [hq, e])), by have := end_row (l := st.length) RT1; rw [Nat.max_eq_left (unhide HP).2.2.2.2] at this; exact this, far_end RR1 (by omega), below_end LB1 (unhide HW0), kpt_end (((unhide HKP).trans (Kpt.of_below (S := fun _ => False) D) (fun _ _ h => h.elim)).trans K1 (unhide HNX2)) (by omega)⟩)
          have HME := hide (mz_fin (M := I.length) (far_end (u := .int .i64 ((n : Int) + 1)) (v := .int .i64 (if pk < st.length then (st.length : Int) else (pk : Int))) R1 hbm) (by decide))
          clear R1 O1 K1 RT1 RR1 RT2 R2 LB1
          go_wp2_with fail
          go_region
          go_wp2_with fail
          go_roundw
          case rel => (try simp only [max_ite]); exact ⟨trivial, .inr (unhide HW)⟩
          case measure => (try simp only [max_ite]); rw [unhide HME, unhide HMR]; have := unhide HL; omega
        · obtain rfl := ret_inj hr
          have hul : us.length ≤ pk := by have := (unhide HP).2.2.2.2; rw [hus, List.length_append] at this; omega
          have htp : topS st = .set ss := by rw [hus]; simp [topS]
          have HTP := hide htp
          have HUL := hide hul
          clear htp hus hul
          obtain ⟨at', y, cy, R1, O1, K1⟩ := hF
          have RT1 := (((unhide HRT).after D (Nat.le_refl _)).kpt K1 (unhide HNT).1)
          have RR1 := (((unhide HRR).after D (Nat.le_refl _)).kpt K1 (unhide HNT).2)
          obtain ⟨t0, t1, t2, t3, t4⟩ := row5T RT1
          have tf := fun j => RT1.frozen j
          obtain ⟨g0, g1, g2, g3, g4, g5, g6, g7, g8, g9, g10, g11, g12, g13, g14⟩ := row15 R1
          have RT2 := RT1.set 3 (.int .i64 ((n : Int) + 1))
          obtain ⟨z0, z1, z2, z3, z4⟩ := row5T RT2
          have zf := fun j => RT2.frozen j
          have hbm : mb ≠ w.heap.size + 1 := fun e => (unhide HNT).1 (.inl e.symm)
          have R2 := R1.setFar (p := ⟨w.heap.size + 1, 3, none⟩) hbm (.int .i64 ((n : Int) + 1))
          obtain ⟨x0, x1, x2, x3, x4, x5, x6, x7, x8, x9, x10, x11, x12, x13, x14⟩ := row15 R2
          have LB1 := below_kpt (LB.trans (D.mono LB.size)) K1 (unhide HLO)
          have HX1 := hide (show X = ⟨(2, 0, ss), n + 1, pk⟩ by rw [unhide HX, runR, unhide HGI, if_neg (by omega), if_pos hop, unhide HTP])
          have HW := hide (show LoopF w0 B mb lb (.slice ap np cp) (.slice (some ⟨ib, io, none⟩) ni ci) (.slice a1 n1 c1) (.slice a2 n2 c2) s R S X (.slice none 0 0) w (w.heap.size + 1) w.heap.size ((w1.setCell ⟨w.heap.size + 1, 3, none⟩ (.int .i64 ((n : Int) + 1))).setCell ⟨w.heap.size + 1, 4, none⟩ (.int .i64 (if pk < us.length then (us.length : Int) else (pk : Int)))).drew from ⟨n + 1, pk, 2, 0, at', ss, y, cy, _, hide ⟨by decide, unhide HX1⟩, far_end R1 hbm, own_end (owns_mono O1 (unhide HWS)) (fun q hq e => own_ne_row RT1 O1 (by decide) (by rw [hq, e])), by have := end_row (l := us.length) RT1; rw [Nat.max_eq_left (unhide HUL)] at this; exact this, far_end RR1 (by omega), below_end LB1 (unhide HW0), kpt_end (((unhide HKP).trans (Kpt.of_below (S := fun _ => False) D) (fun _ _ h => h.elim)).trans K1 (unhide HNX2)) (by omega)⟩)
          have HME := hide (mz_fin (M := I.length) (far_end (u := .int .i64 ((n : Int) + 1)) (v := .int .i64 (if pk < us.length then (us.length : Int) else (pk : Int))) R1 hbm) (by decide))
          clear R1 O1 K1 RT1 RR1 RT2 R2 LB1
          go_wp2_with fail
          go_region
          go_wp2_with fail
          go_roundw
          case rel => (try simp only [max_ite]); exact ⟨trivial, .inr (unhide HW)⟩
          case measure => (try simp only [max_ite]); rw [unhide HME, unhide HMR]; have := unhide HL; omega
        · obtain rfl := ret_inj hr
          obtain ⟨ea, he⟩ := errV_form (aS := aS) (aO := aO) (aZ := aZ) (aW := aW) hc
          have HEA := hide he
          rw [he]
          have R1 := M1.row
          have RT1 := (((unhide HRT).after D (Nat.le_refl _)).kpt K1 (unhide HNT).1)
          have RR1 := (((unhide HRR).after D (Nat.le_refl _)).kpt K1 (unhide HNT).2)
          have LB1 := below_kpt (LB.trans (D.mono LB.size)) K1 (unhide HLO)
          have HSE := hide ((unhide HE).env.sent.below LB1 (Nat.le_refl _))
          obtain ⟨g0, g1, g2, g3, g4, g5, g6, g7, g8, g9, g10, g11, g12, g13, g14⟩ := row15 R1
          have HCE := hide (show Calls Tryz.prog 56 #[.iface 216 (.pointer (some ea))] w1 fun e w' => e = .returned (.int .i64 c) ∧ w' = w1 by
            have := evalCode_any c w1 (unhide HSE) (by omega)
            rw [he] at this
            exact this)
          have hbm : mb ≠ w.heap.size + 1 := fun e => (unhide HNT).1 (.inl e.symm)
          have hbr : w.heap.size ≠ mb := fun e => (unhide HNT).2 (.inl e)
          have A1 := R1.set 12 (.int .i64 3)
          have A2 := A1.set 13 (.int .i64 c)
          have A3 : Row (((w1.setCell ⟨mb, 12, none⟩ (.int .i64 3)).setCell ⟨mb, 13, none⟩ (.int .i64 c)).setCell ⟨mb, 14, none⟩ (.slice none 0 0)) mb (mcV (.slice ap np cp) s (.slice (some ⟨ib, io, none⟩) ni ci) R (.slice a1 n1 c1) (.slice a2 n2 c2) (.slice sa us.length sc) (.slice (some ⟨lb, 0, none⟩) S S) ((at_ : Int) + 1) 3 c (.slice none 0 0)) 63 := A2.set 14 (.slice none 0 0)
          have k0 := fun j => R1.frozen j
          have k1 := fun j => A1.frozen j
          have k2 := fun j => A2.frozen j
          have RTa := ((RT1.setFar (p := ⟨mb, 12, none⟩) (fun e => hbm e.symm) (.int .i64 3)).setFar (p := ⟨mb, 13, none⟩) (fun e => hbm e.symm) (.int .i64 c)).setFar (p := ⟨mb, 14, none⟩) (fun e => hbm e.symm) (.slice none 0 0)
          have RRa := ((RR1.setFar (p := ⟨mb, 12, none⟩) hbr (.int .i64 3)).setFar (p := ⟨mb, 13, none⟩) hbr (.int .i64 c)).setFar (p := ⟨mb, 14, none⟩) hbr (.slice none 0 0)
          obtain ⟨t0, t1, t2, t3, t4⟩ := row5T RTa
          have tf := fun j => RTa.frozen j
          have RT2 := RTa.set 3 (.int .i64 ((n : Int) + 1))
          obtain ⟨z0, z1, z2, z3, z4⟩ := row5T RT2
          have zf := fun j => RT2.frozen j
          have R2 := A3.setFar (p := ⟨w.heap.size + 1, 3, none⟩) hbm (.int .i64 ((n : Int) + 1))
          obtain ⟨x0, x1, x2, x3, x4, x5, x6, x7, x8, x9, x10, x11, x12, x13, x14⟩ := row15 R2
          have hul2 : us.length ≤ pk := Nat.le_trans hul (unhide HP).2.2.2.2
          have LBa := ((LB1.setCell (p := ⟨mb, 12, none⟩) (unhide HMB) (.int .i64 3)).setCell (p := ⟨mb, 13, none⟩) (unhide HMB) (.int .i64 c)).setCell (p := ⟨mb, 14, none⟩) (unhide HMB) (.slice none 0 0)
          have KPa := (((((unhide HKP).trans (Kpt.of_below (S := fun _ => False) D) (fun _ _ h => h.elim)).trans K1 (unhide HNX2)).setCell (p := ⟨mb, 12, none⟩) (fun _ => .inl rfl) (.int .i64 3)).setCell (p := ⟨mb, 13, none⟩) (fun _ => .inl rfl) (.int .i64 c)).setCell (p := ⟨mb, 14, none⟩) (fun _ => .inl rfl) (.slice none 0 0)
          have HX1 := hide (show X = ⟨(3, c, []), n + 1, pk⟩ by rw [unhide HX, runR, unhide HGI, if_neg hop.1, if_neg hop.2, hsr])
          have HW := hide (show LoopF w0 B mb lb (.slice ap np cp) (.slice (some ⟨ib, io, none⟩) ni ci) (.slice a1 n1 c1) (.slice a2 n2 c2) s R S X (.slice none 0 0) w (w.heap.size + 1) w.heap.size (((((w1.setCell ⟨mb, 12, none⟩ (.int .i64 3)).setCell ⟨mb, 13, none⟩ (.int .i64 c)).setCell ⟨mb, 14, none⟩ (.slice none 0 0)).setCell ⟨w.heap.size + 1, 3, none⟩ (.int .i64 ((n : Int) + 1))).setCell ⟨w.heap.size + 1, 4, none⟩ (.int .i64 (if pk < us.length then (us.length : Int) else (pk : Int)))).drew from ⟨n + 1, pk, 3, c, (at_ : Int) + 1, [], none, 0, _, hide ⟨by decide, unhide HX1⟩, far_end A3 hbm, World.ownsRow_nil _ _ _ _, by have := end_row (l := us.length) RTa; rw [Nat.max_eq_left hul2] at this; exact this, far_end RRa (by omega), below_end LBa (unhide HW0), kpt_end KPa (by omega)⟩)
          have HME := hide (mz_fin (M := I.length) (far_end (u := .int .i64 ((n : Int) + 1)) (v := .int .i64 (if pk < us.length then (us.length : Int) else (pk : Int))) A3 hbm) (by decide))
          clear he M1 R1 K1 RT1 RR1 A1 A2 A3 RTa RRa RT2 R2 LB1 LBa KPa hul hul2 hsr hop
          go_wp2_with fail
          refine (unhide HCE).mono ?_
          rintro r w9 ⟨rfl, rfl⟩
          dsimp only
          go_wp2_with fail
          go_region
          go_wp2_with fail
          go_roundw
          case rel => (try simp only [max_ite]); exact ⟨trivial, .inr (unhide HW)⟩
          case measure => (try simp only [max_ite]); rw [unhide HME, unhide HMR]; have := unhide HL; omega
        · obtain rfl := ret_inj hr
          obtain ⟨sa2, sc2, xs2, ys2, M1, K1, N1⟩ := hBh
          have R1 := M1.row
          have RT1 := (((unhide HRT).after D (Nat.le_refl _)).kpt K1 (unhide HNT).1)
          have RR1 := (((unhide HRR).after D (Nat.le_refl _)).kpt K1 (unhide HNT).2)
          obtain ⟨t0, t1, t2, t3, t4⟩ := row5T RT1
          have tf := fun j => RT1.frozen j
          obtain ⟨g0, g1, g2, g3, g4, g5, g6, g7, g8, g9, g10, g11, g12, g13, g14⟩ := row15 R1
          have RT2 := RT1.set 3 (.int .i64 ((n : Int) + 1))
          obtain ⟨z0, z1, z2, z3, z4⟩ := row5T RT2
          have zf := fun j => RT2.frozen j
          have hbm : mb ≠ w.heap.size + 1 := fun e => (unhide HNT).1 (.inl e.symm)
          have R2 := R1.setFar (p := ⟨w.heap.size + 1, 3, none⟩) hbm (.int .i64 ((n : Int) + 1))
          obtain ⟨x0, x1, x2, x3, x4, x5, x6, x7, x8, x9, x10, x11, x12, x13, x14⟩ := row15 R2
          have LB1 := below_kpt (LB.trans (D.mono LB.size)) K1 (unhide HLO)
          obtain ⟨ok2, han⟩ := stepR_ok (fun x hx => ((unhide HE).env.vals x hx).1) (unhide HII) (unhide HP).1 (unhide HP).2.2.1 (unhide HOK) hop.1 hop.2 _ _ _ hsr
          obtain ⟨hal, hka⟩ := unhide HNX _ han
          have hgt := next_gt (unhide HP).1 _ han
          have h100 := stepV_height (unhide HP).1
          have hsl2 := (stepV_slots (PK := P.map Vl.kind) (S := S) (M := I.length) (at_ := at_) (i := i) (s := v2)).trans (unhide HP).2.2.1
          have hst' : st'.length ≤ 100 := by rw [← ok2.1, List.length_map] at h100; exact h100
          have HW := hide (show LoopR w0 B mb lb (.slice ap np cp) (.slice (some ⟨ib, io, none⟩) ni ci) (.slice a1 n1 c1) (.slice a2 n2 c2) s R S P I K X (.slice none 0 0) w (w.heap.size + 1) w.heap.size ((w1.setCell ⟨w.heap.size + 1, 3, none⟩ (.int .i64 ((n : Int) + 1))).setCell ⟨w.heap.size + 1, 4, none⟩ (.int .i64 (if pk < st'.length then (st'.length : Int) else (pk : Int)))).drew from ⟨a', st', sl', n + 1, max pk st'.length, _, sa2, sc2, xs2, ys2, hide ⟨⟨hka, ok2, hsl2, hal⟩, ⟨by have := unhide HNA; omega, Nat.max_le.2 ⟨hpb, hst'⟩, Nat.le_max_right _ _⟩, f2, by have := unhide HF1; omega, by rw [unhide HX, runR, unhide HGI, if_neg hop.1, if_neg hop.2, hsr]⟩, mco_end M1 RT1, end_row RT1, far_end RR1 (by omega), below_end LB1 (unhide HW0), kpt_end (((unhide HKP).trans (Kpt.of_below (S := fun _ => False) D) (fun _ _ h => h.elim)).trans K1 (unhide HNX2)) (by omega), fun q hq => ((N1 q hq).elim (fun h => (unhide HNXX q h)) (fun h => .inr (Nat.le_trans (unhide HWS) h)))⟩)
          have HME := hide (mz_run (M := I.length) (far_end (u := .int .i64 ((n : Int) + 1)) (v := .int .i64 (if pk < st'.length then (st'.length : Int) else (pk : Int))) R1 hbm))
          have HGT := hide hgt
          clear M1 R1 K1 N1 RT1 RR1 RT2 R2 LB1 ok2 han hal hka hgt h100 hsl2 hst' hsr hop
          go_wp2_with fail
          go_region
          go_wp2_with fail
          go_roundw
          case rel => (try simp only [max_ite]); exact ⟨trivial, .inl (unhide HW)⟩
          case measure => (try simp only [max_ite]); rw [unhide HME, unhide HMR]; have := unhide HL; have := unhide HGT; omega
    · obtain ⟨n, pk, ko, co, at', ss, y, cy, sw, HS, R1, O1, RT, RR, LB, KP⟩ := hF
      obtain ⟨g0, g1, g2, g3, g4, g5, g6, g7, g8, g9, g10, g11, g12, g13, g14⟩ := row15 R1
      have hko : (ko == 0) = false := by simp [(unhide HS).1]
      obtain ⟨t0, t1, t2, t3, t4⟩ := row5T RT
      have T1 := RT.set 0 (.int .i64 ko)
      have T2 := T1.set 1 (.int .i64 co)
      have T3 := T2.set 2 (.slice y ss.length cy)
      have f0 := fun j => RT.frozen j
      have f1 := fun j => T1.frozen j
      have f2 := fun j => T2.frozen j
      obtain ⟨v0, v1, v2, v3, v4⟩ := row5T T3
      have R3 := ((RR.setFar (p := ⟨w.heap.size + 1, 0, none⟩) (by show w.heap.size ≠ w.heap.size + 1; omega) (.int .i64 ko)).setFar (p := ⟨w.heap.size + 1, 1, none⟩) (by show w.heap.size ≠ w.heap.size + 1; omega) (.int .i64 co)).setFar (p := ⟨w.heap.size + 1, 2, none⟩) (by show w.heap.size ≠ w.heap.size + 1; omega) (.slice y ss.length cy)
      obtain ⟨u0, u1, u2, u3, u4⟩ := row5T R3
      have Q1 := R3.set 0 (.int .i64 ko)
      have Q2 := Q1.set 1 (.int .i64 co)
      have Q3 := Q2.set 2 (.slice y ss.length cy)
      have Q4 := Q3.set 3 (.int .i64 n)
      have Q5 := Q4.set 4 (.int .i64 pk)
      have k0 := fun j => R3.frozen j
      have k1 := fun j => Q1.frozen j
      have k2 := fun j => Q2.frozen j
      have k3 := fun j => Q3.frozen j
      have k4 := fun j => Q4.frozen j
      obtain ⟨p0, p1, p2, p3, p4⟩ := row5T Q5
      have ne1 : ∀ q, (Value.slice y ss.length cy).ownBlock = some q → q ≠ w.heap.size + 1 := fun q hq e => own_ne_row RT O1 (by decide) (by rw [hq, e])
      have ne2 : ∀ q, (Value.slice y ss.length cy).ownBlock = some q → q ≠ w.heap.size := fun q hq e => own_ne_row RR O1 (by decide) (by rw [hq, e])
      have HO := hide (own_set3 (own_set3 (own_set3 (own_set3 (own_set3 (own_set3 (own_set3 (own_set3 O1 ⟨w.heap.size + 1, 0, none⟩ (.int .i64 ko) ne1) ⟨w.heap.size + 1, 1, none⟩ (.int .i64 co) ne1) ⟨w.heap.size + 1, 2, none⟩ (.slice y ss.length cy) ne1) ⟨w.heap.size, 0, none⟩ (.int .i64 ko) ne2) ⟨w.heap.size, 1, none⟩ (.int .i64 co) ne2) ⟨w.heap.size, 2, none⟩ (.slice y ss.length cy) ne2) ⟨w.heap.size, 3, none⟩ (.int .i64 n) ne2) ⟨w.heap.size, 4, none⟩ (.int .i64 pk) ne2)
      have K1 : Kpt (fun k => k = mb ∨ k = lb) w wr := (Kpt.refl _ w).trans KP (fun q _ h => h.elim .inl (fun h => h.elim .inr (fun h => by cases h)))
      have HK := hide (Kpt.setCell (Kpt.setCell (Kpt.setCell (Kpt.setCell (Kpt.setCell (Kpt.setCell (Kpt.setCell (Kpt.setCell K1 (p := ⟨w.heap.size + 1, 0, none⟩) (fun h => absurd h (by show ¬ (w.heap.size + 1 < w.heap.size); omega)) (.int .i64 ko)) (p := ⟨w.heap.size + 1, 1, none⟩) (fun h => absurd h (by show ¬ (w.heap.size + 1 < w.heap.size); omega)) (.int .i64 co)) (p := ⟨w.heap.size + 1, 2, none⟩) (fun h => absurd h (by show ¬ (w.heap.size + 1 < w.heap.size); omega)) (.slice y ss.length cy)) (p := ⟨w.heap.size, 0, none⟩) (fun h => absurd h (by show ¬ (w.heap.size < w.heap.size); omega)) (.int .i64 ko)) (p := ⟨w.heap.size, 1, none⟩) (fun h => absurd h (by show ¬ (w.heap.size < w.heap.size); omega)) (.int .i64 co)) (p := ⟨w.heap.size, 2, none⟩) (fun h => absurd h (by show ¬ (w.heap.size < w.heap.size); omega)) (.slice y ss.length cy)) (p := ⟨w.heap.size, 3, none⟩) (fun h => absurd h (by show ¬ (w.heap.size < w.heap.size); omega)) (.int .i64 n)) (p := ⟨w.heap.size, 4, none⟩) (fun h => absurd h (by show ¬ (w.heap.size < w.heap.size); omega)) (.int .i64 pk))
      have HXE := hide (unhide HS).2
      clear T1 T2 T3 R3 Q1 Q2 Q3 Q4 Q5 RT RR R1 ne1 ne2 K1 KP LB O1
      go_wp2_with fail
      exact bodyPost_ret (v := .agg #[.int .i64 ko, .int .i64 co, .slice y ss.length cy, .int .i64 n, .int .i64 pk]) (by simp [results, Tryz.results28, go_sem, p0, p1, p2, p3, p4]) rfl ⟨(ko, co, ss), n, pk, y, cy, unhide HXE, rfl, unhide HO, unhide HK⟩

end Go.Proofs.YtogenboibgddaaaGreatDoor

/-
  GL, GM, HF. Own work.
-/
import Derived.Test.YtcehablmloleaaaGreatDoorMXAP
import Derived.Test.YtcehablmloleaaaGreatDoorHD
import Derived.Deep.AppendLies
namespace Go.Proofs.YtcehablmloleaaaGreatDoor
open Go.RowKit
set_option linter.unusedVariables false
variable {aY : Addr} {pb g c : Nat} {T : List Tok} {tl : Nat}

theorem Row.touchP {w w' : World} {b lo hi : Nat} {cs : Array Value} {t : TypeId} (h : Row w b cs t) (T : Touch lo hi w w') (hd : b < lo ∨ hi ≤ b) : Row w' b cs t := ⟨(T.block b h.lt hd).trans h.out⟩

def PR.two (i : Nat) (op : Int) (p : Pt) : PR → PR
  | .ok f q => .ok (.bin i op p f) q
  | .bad q => .bad q

set_option maxRecDepth 100000 in
set_option maxHeartbeats 1600000 in
theorem binary_any (hp : 17 ≤ pb) (lv : Nat) (op : Int) (tx : ByteArray) (e0 : Ex) (p0 : Pt) (t : Tok) (r : List Tok) (x : PR) (w : World) (k : Nat) (h : Pp w pb g c T tl (t :: r) k) (hg : Gy w aY) (h0 : Er e0 p0) (o0 : e0.own (pb + 1) w) (IH : CS aY pb g c T tl (.opd lv) r x) :
    Calls Tryz.prog 119 #[.pointer (some ⟨pb, 0, none⟩), .agg #[.int .i64 op, .int .i64 (lv : Int), .string tx], e0.val] w (PrA aY pb g c T tl (x.two t.at_ op p0) w) := by
  have HI : Hid (∀ w' k', Pp w' pb g c T tl r k' → Gy w' aY → Calls Tryz.prog 117 #[.pointer (some ⟨pb, 0, none⟩), .int .i64 (lv : Int)] w' (PrA aY pb g c T tl x w')) := hide (fun w' k' h' => IH w' k' h')
  have fa := field_at (.int .i64 t.kind) (.int .i64 t.num) (.string t.text) (.int .i64 (t.at_ : Int))
  obtain ⟨tz, uz, hz⟩ := e0.form
  rw [hz]
  have B0 := (Below.refl w.heap.size w).alloc (Nat.le_refl _) (.cells #[.int .i64 op, .int .i64 (lv : Int), .string tx] 202)
  have RO := Row.new w #[.int .i64 op, .int .i64 (lv : Int), .string tx] 202
  have HT := hide (take_any (h.below B0))
  have HG := hide (hg.below B0)
  have HZ := hide hz
  have H0 := hide (And.intro h0 o0)
  have nz := h.row.lt
  clear h hg IH h0 o0 hz
  go_enter Tryz.func119, Tryz.ntmps119
  go_wp2_with fail
  generalize hW : w.alloc (.cells #[.int .i64 op, .int .i64 (lv : Int), .string tx] 202) = W at *
  clear hW
  refine (unhide HT).mono ?_
  rintro e w1 ⟨rfl, P1, T1⟩
  have RO1 := RO.touchP T1 (.inr nz)
  have T01 := (Touch.of_below (lo := pb) (hi := pb + 1) B0 (Nat.le_refl _)).trans T1
  obtain ⟨s0, s1, s2, sf⟩ := row3 RO1
  dsimp only [tokV]
  go_wp2_with fail
  refine (unhide HI w1 _ P1 ((unhide HG).touch T1 hp)).mono ?_
  intro rr w2 hr
  clear P1 s0 s1 s2 sf
  cases x with
  | bad q =>
    obtain ⟨⟨v, b, rfl, hv, R2⟩, T2⟩ := hr
    rcases hv with rfl | ⟨tv, uv, rfl⟩
    all_goals
      dsimp only [errP]
      go_wp2_with fail
      go_ret2
      exact ⟨⟨.nilIface, b, rfl, .inl rfl, R2⟩, T01.trans T2⟩
  | ok p q =>
    obtain ⟨⟨e, k2, rfl, he, ho, P2⟩, T2⟩ := hr
    obtain ⟨te, ue, hf⟩ := e.form
    have HO := hide (And.intro he ho)
    rw [hf]
    have HF := hide hf
    clear he ho hf
    obtain ⟨s0, s1, s2, sf⟩ := row3 (RO1.touchP T2 (.inr nz))
    dsimp only
    go_wp2_with fail
    go_ret2
    exact ⟨⟨.bin t.at_ op e0 e, k2, by rw [Ex.val, unhide HF, unhide HZ]; rfl, ⟨rfl, rfl, (unhide H0).1, (unhide HO).1⟩, ⟨e0.own_touch (T01.trans T2) (unhide H0).2, (unhide HO).2⟩, P2⟩, T01.trans T2⟩

end Go.Proofs.YtcehablmloleaaaGreatDoor

namespace Go.Proofs.YtcehablmloleaaaGreatDoor
open Go.RowKit
set_option linter.unusedVariables false
variable {aY : Addr} {pb g c : Nat} {T : List Tok} {tl : Nat}

theorem least_ex {P : Nat → Prop} : ∀ n, P n → ∃ m, P m ∧ ∀ i, P i → m ≤ i := by
  intro n
  induction n using Nat.strongRecOn with
  | ind n ih =>
    intro h
    by_cases hx : ∃ i, i < n ∧ P i
    · obtain ⟨i, hi, hp⟩ := hx
      exact ih i hi hp
    · exact ⟨n, h, fun i hi => by
        by_cases hl : i < n
        · exact absurd ⟨i, hl, hi⟩ hx
        · omega⟩

open Classical in
/-- the least number with a property -/
noncomputable def leastN (P : Nat → Prop) : Nat := if h : ∃ m, P m ∧ ∀ i, P i → m ≤ i then Classical.choose h else 0

theorem leastN_spec {P : Nat → Prop} (h : ∃ n, P n) : P (leastN P) := by
  obtain ⟨n, hn⟩ := h
  have hx := least_ex n hn
  rw [leastN, dif_pos hx]
  exact (Classical.choose_spec hx).1

theorem leastN_le {P : Nat → Prop} {n : Nat} (h : P n) : leastN P ≤ n := by
  have hx := least_ex n h
  rw [leastN, dif_pos hx]
  exact (Classical.choose_spec hx).2 n h

theorem leastN_lt {P Q : Nat → Prop} {n : Nat} (h : n < leastN P) (hq : Q n) : leastN Q < leastN P := Nat.lt_of_le_of_lt (leastN_le hq) h

theorem opHd_hd (k : Nat) (tl : Nat) (ts : List Tok) : opHd k ts = opOf k (hdE tl ts) := by
  cases ts with
  | nil =>
    show none = _
    rw [opOf, Eq.comm, Option.map_eq_none_iff, List.find?_eq_none]
    intro p _
    show ¬ see p.1 (eT tl) = true
    rw [show see p.1 (eT tl) = false from rfl]
    decide
  | cons t r => rfl

/-- how far a chain is -/
def ChI (aY : Addr) (pb g c : Nat) (T : List Tok) (tl : Nat) (lv : Nat) (ts : List Tok) (x : PR) (w : World) (n : Nat) (v e : Value) (wr : World) : Prop :=
  ((∃ q b, e = errP b ∧ isIf v ∧ x = .bad q ∧ SyE aY tl q b wr ∧ n = 0) ∨
   (∃ e0 p0 r k, e = .nilIface ∧ v = Ex.val e0 ∧ Er e0 p0 ∧ e0.own (pb + 1) wr ∧ Pp wr pb g c T tl r k ∧ D (.more lv p0) r x ∧ r.length < ts.length ∧ n = r.length + 1)) ∧ Touch pb (pb + 1) w wr

set_option maxRecDepth 100000 in
set_option maxHeartbeats 3200000 in
theorem chain_step (hp : 17 ≤ pb) (lv : Nat) (ts : List Tok) (x : PR) (d : D (.chain lv) ts x) (IH : ∀ r x, D (.opd lv) r x → r.length ≤ ts.length → CS aY pb g c T tl (.opd lv) r x) : CS aY pb g c T tl (.chain lv) ts x := by
  intro w kk h hg
  show Calls Tryz.prog 111 #[.pointer (some ⟨pb, 0, none⟩), .int .i64 (lv : Int)] w (PrA aY pb g c T tl x w)
  have key : ∃ y, D (.opd lv) ts y ∧ (∀ q, y = .bad q → x = .bad q) ∧ (∀ e r, y = .ok e r → D (.more lv e) r x ∧ r.length < ts.length) := by
    cases d with
    | chain_bad d => exact ⟨_, d, fun q e => (by cases e; rfl), fun e r h => by cases h⟩
    | chain d d2 => exact ⟨_, d, fun q e => (by cases e), fun e r h => by cases h; exact ⟨d2, d.less rfl⟩⟩
  obtain ⟨y, dy, hy1, hy2⟩ := key
  have HS : Hid (Calls Tryz.prog 117 #[.pointer (some ⟨pb, 0, none⟩), .int .i64 (lv : Int)] w (PrA aY pb g c T tl y w)) := hide (IH _ _ dy (Nat.le_refl _) w kk h hg)
  have HY := hide (And.intro hy1 hy2)
  have HG := hide hg
  have HI := hide IH
  clear h hg IH hy1 hy2 dy d
  go_enter Tryz.func111, Tryz.ntmps111
  go_wp2_with fail
  refine (unhide HS).mono ?_
  intro r w1 hr
  have HC : Hid (∃ v e, r = .returned (.tuple #[v, e]) ∧ isIf v ∧ isIf e ∧ ∃ n, ChI aY pb g c T tl lv ts x w n v e w1) := by
    cases y with
    | bad q =>
      obtain ⟨⟨v, b, rfl, hv, R⟩, T1⟩ := hr
      exact ⟨v, _, rfl, hv, .inr ⟨_, _, rfl⟩, 0, .inl ⟨q, b, rfl, hv, (unhide HY).1 q rfl, R, rfl⟩, T1⟩
    | ok p q =>
      obtain ⟨⟨e, k2, rfl, he, ho, P2⟩, T2⟩ := hr
      obtain ⟨d2, hl⟩ := (unhide HY).2 p q rfl
      exact ⟨_, _, rfl, e.val_if, .inl rfl, q.length + 1, .inr ⟨e, p, q, k2, rfl, rfl, he, ho, P2, d2, hl, rfl⟩, T2⟩
  obtain ⟨v, e, rfl, hv, he, n, hn⟩ := unhide HC
  clear HC hr
  have HN := hide hn
  clear hn
  dsimp only
  go_wp2_with fail
  go_loopw [6, 7] (fun v e wr => ∃ n, ChI aY pb g c T tl lv ts x w n v e wr) (fun v e wr => leastN (fun n => ChI aY pb g c T tl lv ts x w n v e wr))
  case atStart => exact ⟨n, unhide HN⟩
  case round =>
    clear HN hv he
    have hl := leastN_spec hrel
    have HM := hide (show ∀ n v' e' w', n < leastN (fun n => ChI aY pb g c T tl lv ts x w n u6 u7 wr) → ChI aY pb g c T tl lv ts x w n v' e' w' → leastN (fun n => ChI aY pb g c T tl lv ts x w n v' e' w') < leastN (fun n => ChI aY pb g c T tl lv ts x w n u6 u7 wr) from fun n v' e' w' h1 h2 => leastN_lt h1 h2)
    generalize hme : leastN (fun n => ChI aY pb g c T tl lv ts x w n u6 u7 wr) = m at hl HM
    have HME := hide hme
    clear hme
    clear hrel
    obtain ⟨⟨q, b, rfl, hv, hx, R, hm⟩ | ⟨e0, p0, r, k, rfl, rfl, he, ho, P1, dm, hlr, hm⟩, T1⟩ := hl
    · have HX := hide hx
      clear hx hm HM
      rcases hv with rfl | ⟨tv, uv, rfl⟩
      all_goals
        dsimp only [errP]
        go_wp2_with fail
        go_ret2
        rw [unhide HX]
        exact ⟨⟨.nilIface, b, rfl, .inl rfl, R⟩, T1⟩
    · have HO := hide (operatorOf_any (aY := aY) lv P1 ((unhide HG).touch T1 hp))
      have HP := hide P1
      have HE := hide (And.intro he ho)
      have Hm := hide (And.intro hlr hm)
      have key : (opOf lv (hdE tl r) = none ∧ x = .ok p0 r) ∨ (∃ t r' op y, r = t :: r' ∧ opOf lv t = some op ∧ D (.opd lv) r' y ∧ (∀ q, y = .bad q → x = .bad q) ∧ (∀ f q, y = .ok f q → D (.more lv (.bin t.at_ op p0 f)) q x ∧ q.length < r'.length)) := by
        cases dm with
        | more_no h => exact .inl ⟨by rw [← opHd_hd]; exact h, rfl⟩
        | @more_bad _ _ t r q op h d => exact .inr ⟨t, r, op, _, rfl, h, d, fun q e => (by cases e; rfl), fun f q e => by cases e⟩
        | @more _ _ f t r q op x h d d2 => exact .inr ⟨t, r, op, _, rfl, h, d, fun q e => (by cases e), fun f q e => by cases e; exact ⟨d2, d.less rfl⟩⟩
      clear he ho hlr hm dm P1
      obtain ⟨tz, uz, hz⟩ := e0.form
      rcases key with ⟨hn, hx⟩ | ⟨t, r', op, y, rfl, hop, dy, hy1, hy2⟩
      · have HX := hide hx
        have HN := hide hn
        have HZ := hide hz
        rw [hz]
        clear hx hn hz HM
        go_wp2_with fail
        refine (unhide HO).mono ?_
        rintro rr w2 ⟨hoa, hb2⟩
        rw [OpA, unhide HN] at hoa
        subst hoa
        dsimp only
        go_wp2_with fail
        go_ret2
        rw [unhide HX]
        have hb3 := hb2.alloc hb2.size (.cells #[.int .i64 0, .int .i64 0, .string ⟨#[]⟩] 202)
        exact ⟨⟨e0, k, by rw [unhide HZ]; rfl, (unhide HE).1, e0.own_touch (Touch.of_below hb3 (Nat.le_refl _)) (unhide HE).2, (unhide HP).below hb3⟩, T1.allP hb3⟩
      · have HN := hide (show opOf lv (hdE tl (t :: r')) = some op from hop)
        have HZ := hide hz
        have HY := hide (And.intro hy1 hy2)
        have HB := hide (fun w' tx (hb : Below wr.heap.size wr w') => binary_any hp lv op tx e0 p0 t r' y w' k ((unhide HP).below hb) (((unhide HG).touch T1 hp).below hb) (unhide HE).1 (e0.own_touch (Touch.of_below hb (Nat.le_refl _)) (unhide HE).2) (unhide HI r' y dy (by have := (unhide Hm).1; simp at this; omega)))
        rw [hz] at HB HME ⊢
        clear hop hz hy1 hy2 dy
        go_wp2_with fail
        refine (unhide HO).mono ?_
        rintro rr w2 ⟨hoa, hb2⟩
        rw [OpA, unhide HN] at hoa
        obtain ⟨tx, rfl⟩ := hoa
        dsimp only
        have hb3 := hb2.alloc hb2.size (.cells #[.int .i64 op, .int .i64 (lv : Int), .string tx] 202)
        go_wp2_with fail
        refine (unhide HB _ tx hb3).mono ?_
        intro rr w4 hr
        have HC : Hid (∃ v e, rr = .returned (.tuple #[v, e]) ∧ isIf v ∧ isIf e ∧ ∃ n, n < m ∧ ChI aY pb g c T tl lv ts x w n v e w4) := by
          have h1 := (unhide Hm).1
          have h2 := (unhide Hm).2
          simp only [List.length_cons] at h1 h2
          cases y with
          | bad q =>
            obtain ⟨⟨v, b, rfl, hv, R⟩, T3⟩ := hr
            exact ⟨v, _, rfl, hv, .inr ⟨_, _, rfl⟩, 0, by omega, .inl ⟨q, b, rfl, hv, (unhide HY).1 q rfl, R, rfl⟩, (T1.allP hb3).trans T3⟩
          | ok f q =>
            obtain ⟨⟨e, k2, rfl, he, ho, P2⟩, T3⟩ := hr
            obtain ⟨d2, hl⟩ := (unhide HY).2 f q rfl
            exact ⟨_, _, rfl, e.val_if, .inl rfl, q.length + 1, by omega, .inr ⟨e, _, q, k2, rfl, rfl, he, ho, P2, d2, by omega, rfl⟩, (T1.allP hb3).trans T3⟩
        obtain ⟨v, e, rfl, hv, he, n', hn', hn⟩ := unhide HC
        have HN2 := hide (And.intro hn' hn)
        clear HC hr hn hn' hb3 hb2
        dsimp only
        go_wp2_with fail
        go_roundw
        case rel => exact ⟨n', (unhide HN2).2⟩
        case measure => rw [unhide HME]; exact unhide HM n' _ _ _ (unhide HN2).1 (unhide HN2).2

end Go.Proofs.YtcehablmloleaaaGreatDoor

namespace Go.Proofs.YtcehablmloleaaaGreatDoor
open Go.RowKit
set_option linter.unusedVariables false

/-- the stack as it lies -/
def stC (st : List Sy) : List Value := st.reverse.map fun y => Value.string (syB y)

theorem stC_cons (x : Sy) (st : List Sy) : stC (x :: st) = stC st ++ [.string (syB x)] := by simp [stC]

/-- how far the look is -/
def UnI (T : List Tok) (res : Option (List Tok)) (B : Nat) (w : World) (n : Nat) (v a : Value) (wr : World) : Prop :=
  ∃ st k g c, v = .slice (some ⟨g, 0, none⟩) st.length c ∧ a = .int .i64 ((k : Nat) : Int) ∧ wr.ownsRow w.heap.size 9 1 v st.length (stC st) ∧ Run n st (T.drop k) res ∧ k ≤ T.length ∧ InvS B st (T.drop k) ∧ (∀ y ∈ st, okY y) ∧ Below w.heap.size w wr

theorem owns_pop {w : World} {B n g c : Nat} {e : TypeId} {xs : List Value} {x : Value} (h : w.ownsRow B e 1 (.slice (some ⟨g, 0, none⟩) (n + 1) c) (n + 1) (xs ++ [x])) : w.ownsRow B e 1 (.slice (some ⟨g, 0, none⟩) n c) n xs := by
  have hl : xs.length = n := by have := h.1; simp at this; omega
  refine ⟨by simp [hl], ?_⟩
  rcases h.2 with ⟨h0, _⟩ | ⟨g', cap, cur, hv, h1, h2, h3, h4, h5, h6⟩
  · cases h0
  · simp only [Value.slice.injEq, Option.some.injEq, Addr.mk.injEq, and_true, true_and] at hv
    obtain ⟨rfl, rfl⟩ := hv
    refine .inr ⟨g, c, cur, rfl, h1, h2, by omega, h4, h5, ?_⟩
    rw [Nat.mul_one] at h6 ⊢
    have := congrArg (List.take n) h6
    rw [List.take_take, Nat.min_eq_left (by omega), List.take_left' hl] at this
    exact this

theorem owns_top {w : World} {B n g c : Nat} {e : TypeId} {xs : List Value} {x : Value} (h : w.ownsRow B e 1 (.slice (some ⟨g, 0, none⟩) (n + 1) c) (n + 1) (xs ++ [x])) : w.cell? ⟨g, n, none⟩ = some x := by
  have hl : xs.length = n := by have := h.1; simp at this; omega
  rw [h.cellAt n (by omega), List.getElem?_append_right (by omega), hl]
  simp

theorem Run.exp_inv {n : Nat} {x : Sy} {st m : List Sy} {ts : List Tok} {res : Option (List Tok)} (h : Run n (x :: st) ts res) (he : expandS x (tkh ts) = some m) : ∃ n', n = n' + 1 ∧ Run n' (m ++ st) ts res := by
  cases h with
  | exp h d => rw [h] at he; injection he with he; rw [← he]; exact ⟨_, rfl, d⟩
  | scope => cases he
  | scope_nil => cases he
  | scope_no => cases he
  | term => cases he
  | term_nil => cases he
  | term_no => cases he

def fitS (x : Sy) (t : Tok) : Prop := match x with
  | .scope => okSc t
  | .t s => tk t = s
  | _ => False

theorem Run.none_inv {n : Nat} {x : Sy} {st : List Sy} {t : Tok} {ts : List Tok} {res : Option (List Tok)} (h : Run n (x :: st) (t :: ts) res) (he : expandS x (tk t) = none) : (fitS x t ∧ ∃ n', n = n' + 1 ∧ Run n' st ts res) ∨ (¬ fitS x t ∧ res = some (t :: ts)) := by
  cases h with
  | exp h d => rw [show tkh (t :: ts) = tk t from rfl, he] at h; cases h
  | scope h d => exact .inl ⟨h, _, rfl, d⟩
  | scope_no h => exact .inr ⟨h, rfl⟩
  | term h d => exact .inl ⟨h, _, rfl, d⟩
  | term_no h => exact .inr ⟨h, rfl⟩

theorem Run.nil_inv {n : Nat} {x : Sy} {st : List Sy} {res : Option (List Tok)} (h : Run n (x :: st) [] res) (he : expandS x [] = none) : res = some [] := by
  cases h with
  | exp h d => rw [show tkh [] = [] from rfl, he] at h; cases h
  | scope_nil => rfl
  | term_nil => rfl

theorem none_is {x : Sy} {t : List UInt8} (h : expandS x t = none) : x = .scope ∨ ∃ s, x = .t s := by
  cases x <;> first | exact .inl rfl | exact .inr ⟨_, rfl⟩ | (exfalso; revert h; simp only [expandS]; (repeat' split) <;> simp)

theorem tk_ne {t : Tok} (h : okTk t) : tk t ≠ [] ∧ tk t ≠ [83, 67, 79, 80, 69] ∧ (tk t = kTEXT → t.kind = 2) := by
  rcases h with h | h | h | ⟨h, h'⟩
  · simp [tk, h, kNUM, kTEXT]
  · simp [tk, h, kTEXT]
  · simp [tk, h, kNAME, kTEXT]
  · have e : tk t = toL t.text := by unfold tk; rw [if_neg (by omega), if_neg (by omega), if_neg (by omega)]
    rw [e]
    have hd : ∀ s ∈ allW, s ≠ [] ∧ s ≠ [83, 67, 79, 80, 69] ∧ s ≠ kTEXT := by decide
    have := hd _ h'
    exact ⟨this.1, this.2.1, fun h => absurd h this.2.2⟩

theorem okY_ne {s : List UInt8} (h : okY (.t s)) : s ≠ [83, 67, 79, 80, 69] := by
  rcases h with h | rfl | rfl | rfl
  · have hd : ∀ s ∈ allW, s ≠ [83, 67, 79, 80, 69] := by decide
    exact hd _ h
  · decide
  · decide
  · decide

set_option maxRecDepth 100000 in
set_option maxHeartbeats 6400000 in
theorem unfit_any (T : List Tok) (a : Option Addr) (c lo : Nat) (w : World) (hT : w.ownsRow lo 42 4 (.slice a T.length c) T.length (tokC T)) (ho : ∀ t ∈ T, okTk t) (hl : T.length ≤ 4000) (res : Option (List Tok)) (hr : Ru [.policy] T res) :
    Calls Tryz.prog 14 #[.slice a T.length c] w fun r w' => r = .returned (.int .i64 (unX T res)) ∧ Below w.heap.size w w' := by
  obtain ⟨i, hi, hz0, hz1, hz2⟩ := info_parts infoS
  have B0 := (Below.refl w.heap.size w).alloc (Nat.le_refl _) (.cells #[.string ⟨#[80, 111, 108, 105, 99, 121]⟩] 9)
  have HN0 : Hid (∃ n, UnI T res (3 + 14 * T.length) w n (.slice (some ⟨w.heap.size, 0, none⟩) 1 1) (.int .i64 0) (w.alloc (.cells #[.string ⟨#[80, 111, 108, 105, 99, 121]⟩] 9))) := by
    obtain ⟨n, hn⟩ := hr
    exact hide ⟨n, [.policy], 0, w.heap.size, 1, rfl, rfl, own_lit w #[.string ⟨#[80, 111, 108, 105, 99, 121]⟩] 1 rfl (by unfold maxLen; omega), by simpa using hn, Nat.zero_le _, .inl (by simp [wtS, Sy.wt]), fun y hy => by rw [List.mem_singleton.1 hy]; trivial, B0⟩
  have HT := hide hT
  have HO := hide ho
  clear hr hT ho B0
  go_enter Tryz.func14, Tryz.ntmps14
  go_wp2_with fail
  go_loopw [3, 4] (fun v a wr => ∃ n, UnI T res (3 + 14 * T.length) w n v a wr) (fun v a wr => leastN (fun n => UnI T res (3 + 14 * T.length) w n v a wr))
  case atStart => exact unhide HN0
  case round =>
    clear HN0
    have hls := leastN_spec hrel
    have HM := hide (show ∀ n v' a' w', n < leastN (fun n => UnI T res (3 + 14 * T.length) w n u3 u4 wr) → UnI T res (3 + 14 * T.length) w n v' a' w' → leastN (fun n => UnI T res (3 + 14 * T.length) w n v' a' w') < leastN (fun n => UnI T res (3 + 14 * T.length) w n u3 u4 wr) from fun n v' a' w' h1 h2 => leastN_lt h1 h2)
    generalize hme : leastN (fun n => UnI T res (3 + 14 * T.length) w n u3 u4 wr) = m at hls HM
    have HME := hide hme
    clear hme hrel
    obtain ⟨st, k, g, cp, rfl, rfl, hown, hrun, hk, hinv, hoy, B1⟩ := hls
    have HV := hide hinv.len
    cases st with
    | nil =>
      have hlast : (k < T.length ∧ unX T res = (k : Int)) ∨ (¬ k < T.length ∧ unX T res = -1) := by
        generalize hd : T.drop k = q at hrun
        cases hrun with
        | fin => right; exact ⟨by have := congrArg List.length hd; simp at this; omega, rfl⟩
        | @over t r => left; have := congrArg List.length hd; simp at this; exact ⟨by omega, by simp [unX]; omega⟩
      clear hrun hinv hoy HM HME HV
      rcases hlast with ⟨h1, h2⟩ | ⟨h1, h2⟩
      · have ih : (k : Int) < (T.length : Int) := by omega
        have H2 := hide h2
        clear h2 h1
        go_wp2_with fail
        go_ret
        exact ⟨by rw [unhide H2]; rfl, B1⟩
      · have ih : ¬ ((k : Int) < (T.length : Int)) := by omega
        have H2 := hide h2
        clear h2 h1
        go_wp2_with fail
        go_ret
        exact ⟨by rw [unhide H2]; rfl, B1⟩
    | cons x st =>
      rw [stC_cons] at hown
      have htop := owns_top hown
      have hpop := owns_pop hown
      have Hb := hide (show st.length ≤ 60000 by have := unhide HV; simp at this; omega)
      have hb6 := unhide Hb
      have ew : wrap64 (((st.length + 1 : Nat) : Int) - 1) = (st.length : Int) := by simp [wrap64]; omega
      have HRN := hide hrun
      have HIN := hide hinv
      have HOY := hide hoy
      have hcap : st.length + 1 ≤ cp := by
        rcases hown.2 with ⟨h0, _⟩ | ⟨g', cap, cur, hv, h1, h2, h3, _⟩
        · cases h0
        · simp only [Value.slice.injEq] at hv
          obtain ⟨_, _, rfl⟩ := hv
          simpa using h3
      have hc0 : cp ≠ 0 := by omega
      clear hrun hinv hoy hown
      by_cases hkt : k < T.length
      · have ikt : (k : Int) < (T.length : Int) := by omega
        have hdr := List.drop_eq_getElem_cons hkt
        obtain ⟨e0, e1, e2, e3⟩ := tokC_at T k hkt
        obtain ⟨xa, ca, hfa, hca⟩ := owns_form2 (unhide HT)
        obtain ⟨ga, hga, _, hcells⟩ := hca (by omega)
        have ea : a = some ⟨ga, 0, none⟩ := by injection hfa with h1; rw [h1]; exact hga
        subst ea
        have galt : ga < w.heap.size := ((unhide HT).lt ga rfl).2
        have key : ∀ w', Below w.heap.size w w' → ∀ j u, (tokC T)[j]? = some u → w'.cell? ⟨ga, j, none⟩ = some u := fun w' hb j u hu => (hb.cell (p := ⟨ga, j, none⟩) galt).trans (hcells j u hu)
        have q0 := key wr B1 _ _ e0
        have q1 := key wr B1 _ _ e1
        have q2 := key wr B1 _ _ e2
        have q3 := key wr B1 _ _ e3
        have HK2 := hide (fun w' hb => key w' hb _ _ e2)
        clear e0 e1 e2 e3 key hcells hfa hca
        have HDR := hide hdr
        have HOT := hide (unhide HO T[k] (List.getElem_mem hkt))
        clear hdr
        generalize T[k] = tt at q0 q1 q2 q3 HK2 HDR HOT
        have Hkt := hide hkt
        clear hkt
        go_wp2_with fail
        refine (l2kind_any tt wr).mono ?_
        rintro r w2 ⟨rfl, hb2⟩
        have B2 := B1.trans (hb2.mono B1.size)
        have hpop2 := owns_blocksN hpop (fun q hq => hb2.block q (hpop.lt q hq).2)
        have HTK := hide (show tkh (T.drop k) = tk tt by rw [unhide HDR]; rfl)
        have HEX := hide (expand_any x (unhide HOY x (List.mem_cons_self ..)) (tk tt) w2)
        rw [← unhide HTK] at HEX ⊢
        cases hex : expandS x (tkh (T.drop k)) with
        | some mm =>
          rw [hex] at HEX
          have HEXX := hide hex
          clear hex hpop htop q0 q1 q2 q3
          dsimp only
          go_wp2_with fail
          refine (unhide HEX).mono ?_
          rintro r w3 ⟨⟨am, cm, rfl, hom⟩, hb3⟩
          have B3 := B2.trans (hb3.mono B2.size)
          have hpop3 := owns_blocksN hpop2 (fun q hq => hb3.block q (hpop2.lt q hq).2)
          dsimp only
          go_wp2_with fail
          obtain ⟨wo, rfl⟩ : ∃ wo, wo = wr := ⟨_, rfl⟩
          obtain ⟨n', hm', hrn'⟩ := (unhide HRN).exp_inv (unhide HEXX)
          have HRN' := hide (And.intro hm' hrn')
          have HIN' := hide ((unhide HIN).exp (unhide HEXX))
          have HOY' := hide (show ∀ y ∈ mm ++ st, okY y from fun y hy => by
            rcases List.mem_append.1 hy with h | h
            · exact exp_ok (unhide HEXX) y h
            · exact unhide HOY y (List.mem_cons_of_mem _ h))
          have hml : mm.length ≤ 70000 := by have := (unhide HIN').len; simp at this; omega
          have HML := hide (show mm.length + st.length ≤ 70000 by have := (unhide HIN').len; simp at this; omega)
          have eml : wrap64 ((mm.length : Int) - 1) = (mm.length : Int) - 1 := by simp [wrap64]; omega
          have hgm : ∃ gm, (mm.length ≠ 0 → am = some ⟨gm, 0, none⟩) ∧ gm ≠ g ∧ (∀ j (hj : j < mm.length), w3.cell? ⟨gm, j, none⟩ = some (.string (syB mm[j]))) := by
            have glt : g < w2.heap.size := (hpop2.lt g rfl).2
            rcases hom.2 with ⟨_, h0⟩ | ⟨gm, cap, cur, hv, h1, h2, _⟩
            · exact ⟨w2.heap.size, fun h => absurd h0 h, by omega, fun j hj => absurd hj (by omega)⟩
            · simp only [Value.slice.injEq] at hv
              obtain ⟨hv1, _, _⟩ := hv
              refine ⟨gm, fun _ => hv1, by omega, fun j hj => ?_⟩
              subst hv1
              rw [hom.cellAt j (by omega), List.getElem?_map, List.getElem?_eq_getElem hj]
              rfl
          obtain ⟨gm, hgm1, hgm2, hgm3⟩ := hgm
          have HGM := hide (And.intro hgm1 hgm3)
          have hpopS : w3.ownsRow w.heap.size 9 1 (.slice (some ⟨g, 0, none⟩) (mm.drop mm.length ++ st).length cp) (mm.drop mm.length ++ st).length (stC (mm.drop mm.length ++ st)) := by rw [List.drop_length]; exact hpop3
          rw [eml]
          clear hgm1 hgm3 hom hm' hrn' hpop2 hpop3 eml
          go_loopw [3, 9] (fun v iv wi => ∃ (p g' c' : Nat), p ≤ mm.length ∧ iv = .int .i64 ((p : Int) - 1) ∧ v = .slice (some ⟨g', 0, none⟩) (mm.drop p ++ st).length c' ∧ wi.ownsRow w.heap.size 9 1 (.slice (some ⟨g', 0, none⟩) (mm.drop p ++ st).length c') (mm.drop p ++ st).length (stC (mm.drop p ++ st)) ∧ gm ≠ g' ∧ (∀ j (hj : j < mm.length), wi.cell? ⟨gm, j, none⟩ = some (.string (syB mm[j])) ∧ gm < wi.heap.size) ∧ Below w.heap.size w wi) (fun _ iv _ => (intOf iv + 1).toNat)
          case atStart => exact ⟨mm.length, g, cp, Nat.le_refl _, rfl, by rw [List.drop_length]; rfl, hpopS, hgm2, fun j hj => ⟨(unhide HGM).2 j hj, by
              have := (unhide HGM).2 j hj
              unfold World.cell? at this
              by_cases hq : gm < w3.heap.size
              · exact hq
              · rw [Array.getElem?_eq_none (by show w3.heap.size ≤ gm; omega)] at this; cases this⟩, B3⟩
          case round =>
            obtain ⟨p, g', c', hp, rfl, rfl, hso, hgg, hmc, B5⟩ := hrel
            have HMC := hide hmc
            clear hpopS hmc
            by_cases hp0 : p = 0
            · subst hp0
              have ig : ¬ ((0 : Int) ≤ ((0 : Nat) : Int) - 1) := by omega
              have HNN := hide (show UnI T res (3 + 14 * T.length) w n' (.slice (some ⟨g', 0, none⟩) (mm ++ st).length c') (.int .i64 ((k : Nat) : Int)) wr from ⟨mm ++ st, k, g', c', rfl, rfl, by simpa using hso, (unhide HRN').2, hk, unhide HIN', unhide HOY', B5⟩)
              go_wp2_with fail
              rw [List.drop_zero]
              exact ⟨⟨n', unhide HNN⟩, by rw [unhide HME]; exact unhide HM n' _ _ _ (by have := (unhide HRN').1; omega) (unhide HNN)⟩
            · have ig : (0 : Int) ≤ (p : Int) - 1 := by omega
              obtain ⟨q, rfl⟩ : ∃ q, p = q + 1 := ⟨p - 1, by omega⟩
              have hq : q < mm.length := by omega
              obtain ⟨hcm, hglt⟩ := unhide HMC q hq
              have ham := (unhide HGM).1 (by omega)
              have Hdr := hide (List.drop_eq_getElem_cons hq)
              have eq1 : (((q + 1 : Nat) : Int) - 1) = (q : Int) := by omega
              have iq : (q : Int) < (mm.length : Int) := by omega
              have ew1 : wrap64 ((q : Int) - 1) = (q : Int) - 1 := by simp [wrap64]; omega
              subst ham
              have hso2 := hso.alloc (.cells #[.string (syB mm[q])] 9)
              have Hln := hide (show (mm.drop (q + 1) ++ st).length ≤ 70000 by have := unhide HML; simp; omega)
              have hln := unhide Hln
              have hB5 := B5.size
              generalize hss : mm.drop (q + 1) ++ st = ss at *
              have HSS := hide hss
              generalize hxx : mm[q] = xx at *
              have HXX := hide hxx
              clear hss hxx hp0 ig
              rw [eq1]
              have ig : (0 : Int) ≤ (q : Int) := by omega
              go_wp2_with (at_builtin; refine wpList_append_lies _ rfl _ _ 47 rfl w.heap.size 9 i (.string ByteArray.empty) 1 16 Tryz.underlying47 hi hz0 hz1 hz2 rfl (by decide) _ _ _ rfl hso2 ⟨wr.heap.size, 0, none⟩ 1 1 [.string (syB xx)] rfl rfl (cell_one_new wr _ _) ?c2 (by decide) ?c3 ?c4 ?c5 (wr.heap.size + 1) (by simp) ?_)
              case c2 => rfl
              case c3 => unfold maxLen; omega
              case c4 => omega
              case c5 => omega
              intro gk cap1 w4 Ok hgrow hat hgl
              have B6 := (B5.alloc hB5 (.cells #[.string (syB xx)] 9)).grown hgrow (by simp; omega) (fun q hq => (hso.lt q hq).1)
              have key2 : ∃ (p g2 c2 : Nat), p ≤ mm.length ∧ Value.int .i64 ((q : Int) - 1) = .int .i64 ((p : Int) - 1) ∧ Value.slice (some ⟨gk, 0, none⟩) (ss.length + 1) cap1 = .slice (some ⟨g2, 0, none⟩) (mm.drop p ++ st).length c2 ∧ w4.ownsRow w.heap.size 9 1 (.slice (some ⟨g2, 0, none⟩) (mm.drop p ++ st).length c2) (mm.drop p ++ st).length (stC (mm.drop p ++ st)) ∧ gm ≠ g2 ∧ (∀ j (hj : j < mm.length), w4.cell? ⟨gm, j, none⟩ = some (.string (syB mm[j])) ∧ gm < w4.heap.size) ∧ Below w.heap.size w w4 := by
                have e : mm.drop q ++ st = xx :: ss := by rw [unhide Hdr, ← unhide HSS]; rfl
                refine ⟨q, gk, cap1, by omega, rfl, by rw [e]; rfl, ?_, ?_, fun j hj => ⟨?_, ?_⟩, B6⟩
                · rw [e, stC_cons, List.length_cons]; exact Ok
                · rcases hat with h | h
                  · have : g' = gk := by simpa [Value.ownBlock] using h
                    omega
                  · omega
                · have hx := hgrow.block gm (by simp; omega) (fun h => hgg (by simpa [Value.ownBlock] using h))
                  have hy := hx.trans (Below.heap_alloc wr _ gm hglt)
                  have hz := (unhide HMC j hj).1
                  unfold World.cell? at hz ⊢
                  rw [hy]; exact hz
                · have := hgrow.size
                  simp at this
                  omega
              have HK := hide key2
              clear key2 Ok hgrow hat hso hso2 B6 hcm
              go_wp2_with fail
              go_roundw
              case rel => exact ⟨_, _, _, _, _, _, _, _, _, _, _, _, _, unhide HK, rfl⟩
              case measure => simp [intOf]
        | none =>
          rw [hex] at HEX
          have HEXX := hide hex
          clear hex hpop htop q0 q1 q2 q3
          have HFI := hide ((show Run _ _ _ _ from by have := unhide HRN; rw [unhide HDR] at this; exact this).none_inv (show expandS x (tk tt) = none by rw [← unhide HTK]; exact unhide HEXX))
          dsimp only
          go_wp2_with fail
          refine (unhide HEX).mono ?_
          rintro r w3 ⟨rfl, hb3⟩
          have B3 := B2.trans (hb3.mono B2.size)
          have hpop3 := owns_blocksN hpop2 (fun q hq => hb3.block q (hpop2.lt q hq).2)
          have qt : w3.cell? ⟨ga, k * 4 + 2, none⟩ = some (.string tt.text) := unhide HK2 w3 B3
          dsimp only
          clear hpop2
          by_cases hfi : fitS x tt
          · have HN := hide (show ∃ n', n' < m ∧ UnI T res (3 + 14 * T.length) w n' (.slice (some ⟨g, 0, none⟩) st.length cp) (.int .i64 ((k : Int) + 1)) w3 by
              rcases unhide HFI with ⟨_, n', hm, hrn⟩ | h
              · refine ⟨n', by omega, st, k + 1, g, cp, rfl, by rw [Int.natCast_add]; rfl, hpop3, hrn, by have := unhide Hkt; omega, ?_, fun y hy => unhide HOY y (List.mem_cons_of_mem _ hy), B3⟩
                have := unhide HIN
                rw [unhide HDR] at this
                exact this.pop
              · exact absurd hfi h.1)
            rcases none_is (unhide HEXX) with rfl | ⟨s, rfl⟩
            · have hk2 := hfi.1
              have e1 : ((ofL (tkh (T.drop k))).toList == [84, 69, 88, 84]) = true := by rw [eqL, unhide HTK]; exact decide_eq_true (by simp [tk, hk2, kTEXT])
              have e2 : (tt.text.toList == []) = false := by
                have := hfi.2
                rw [← ofL_toL tt.text, eqL]
                exact decide_eq_false (fun e => this (by rw [← ofL_toL tt.text, e]))
              clear hk2 hfi hpop3
              rw [show syB .scope = ⟨#[83, 67, 79, 80, 69]⟩ from rfl]
              go_wp2_with fail
              exact ⟨⟨_, (unhide HN).choose_spec.2⟩, by rw [unhide HME]; exact unhide HM _ _ _ _ (unhide HN).choose_spec.1 (unhide HN).choose_spec.2⟩
            · have e0 : ((ofL (tkh (T.drop k))).toList == (syB (.t s)).toList) = true := by rw [unhide HTK, show syB (.t s) = ofL s from rfl, show tk tt = s from hfi]; simp
              have e1 : ((ofL (tkh (T.drop k))).toList == []) = false := by rw [eqL, unhide HTK]; exact decide_eq_false (tk_ne (unhide HOT)).1
              have e2 : ((syB (.t s)).toList == [83, 67, 79, 80, 69]) = false := by rw [show syB (.t s) = ofL s from rfl, eqL]; exact decide_eq_false (okY_ne (unhide HOY _ (List.mem_cons_self ..)))
              clear hfi hpop3
              go_wp2_with fail
              exact ⟨⟨_, (unhide HN).choose_spec.2⟩, by rw [unhide HME]; exact unhide HM _ _ _ _ (unhide HN).choose_spec.1 (unhide HN).choose_spec.2⟩
          · have HU := hide (show unX T res = (k : Int) by
              rcases unhide HFI with h | h
              · exact absurd h.1 hfi
              · rw [h.2, ← unhide HDR]; simp [unX]; omega)
            rcases none_is (unhide HEXX) with rfl | ⟨s, rfl⟩
            · have e3 : ((ofL (tkh (T.drop k))).toList == []) = false := by rw [eqL, unhide HTK]; exact decide_eq_false (tk_ne (unhide HOT)).1
              have e4 : ((ofL (tkh (T.drop k))).toList == [83, 67, 79, 80, 69]) = false := by rw [eqL, unhide HTK]; exact decide_eq_false (tk_ne (unhide HOT)).2.1
              rw [show syB .scope = ⟨#[83, 67, 79, 80, 69]⟩ from rfl]
              by_cases hk2 : tt.kind = 2
              · have e1 : ((ofL (tkh (T.drop k))).toList == [84, 69, 88, 84]) = true := by rw [eqL, unhide HTK]; exact decide_eq_true (by simp [tk, hk2, kTEXT])
                have e2 : tt.text = ⟨#[]⟩ := Classical.byContradiction fun h => hfi ⟨hk2, h⟩
                rw [e2] at qt
                clear hk2 hfi hpop3 e2
                go_wp2_with fail
                go_ret
                exact ⟨by rw [unhide HU]; rfl, B3⟩
              · have e1 : ((ofL (tkh (T.drop k))).toList == [84, 69, 88, 84]) = false := by rw [eqL, unhide HTK]; exact decide_eq_false (fun h => hk2 ((tk_ne (unhide HOT)).2.2 h))
                clear hk2 hfi hpop3
                go_wp2_with fail
                go_ret
                exact ⟨by rw [unhide HU]; rfl, B3⟩
            · have e0 : ((ofL (tkh (T.drop k))).toList == (syB (.t s)).toList) = false := by rw [unhide HTK, show syB (.t s) = ofL s from rfl, eqL, ByteArray.toList_eq]; exact decide_eq_false hfi
              have e1 : ((ofL (tkh (T.drop k))).toList == []) = false := by rw [eqL, unhide HTK]; exact decide_eq_false (tk_ne (unhide HOT)).1
              have e2 : ((syB (.t s)).toList == [83, 67, 79, 80, 69]) = false := by rw [show syB (.t s) = ofL s from rfl, eqL]; exact decide_eq_false (okY_ne (unhide HOY _ (List.mem_cons_self ..)))
              clear hfi hpop3
              go_wp2_with fail
              go_ret
              exact ⟨by rw [unhide HU]; rfl, B3⟩
      · have ikt : ¬ ((k : Int) < (T.length : Int)) := by omega
        have Hkt := hide (show k = T.length by omega)
        have HDN := hide (show T.drop k = [] by rw [unhide Hkt, List.drop_length])
        have HTK := hide (show tkh (T.drop k) = [] by rw [unhide HDN]; rfl)
        clear hkt
        have B2 := B1
        have hpop2 := hpop
        have HEX := hide (show Calls Tryz.prog 30 #[.string (syB x), .string ⟨#[]⟩] wr (ExA (expandS x (tkh (T.drop k))) wr) from by rw [unhide HTK]; exact expand_any x (unhide HOY x (List.mem_cons_self ..)) [] wr)
        clear hpop
        cases hex : expandS x (tkh (T.drop k)) with
        | some mm =>
          rw [hex] at HEX
          have HEXX := hide hex
          clear hex
          go_wp2_with fail
          refine (unhide HEX).mono ?_
          rintro r w3 ⟨⟨am, cm, rfl, hom⟩, hb3⟩
          have B3 := B2.trans (hb3.mono B2.size)
          have hpop3 := owns_blocksN hpop2 (fun q hq => hb3.block q (hpop2.lt q hq).2)
          dsimp only
          go_wp2_with fail
          obtain ⟨wo, rfl⟩ : ∃ wo, wo = wr := ⟨_, rfl⟩
          obtain ⟨n', hm', hrn'⟩ := (unhide HRN).exp_inv (unhide HEXX)
          have HRN' := hide (And.intro hm' hrn')
          have HIN' := hide ((unhide HIN).exp (unhide HEXX))
          have HOY' := hide (show ∀ y ∈ mm ++ st, okY y from fun y hy => by
            rcases List.mem_append.1 hy with h | h
            · exact exp_ok (unhide HEXX) y h
            · exact unhide HOY y (List.mem_cons_of_mem _ h))
          have hml : mm.length ≤ 70000 := by have := (unhide HIN').len; simp at this; omega
          have HML := hide (show mm.length + st.length ≤ 70000 by have := (unhide HIN').len; simp at this; omega)
          have eml : wrap64 ((mm.length : Int) - 1) = (mm.length : Int) - 1 := by simp [wrap64]; omega
          have hgm : ∃ gm, (mm.length ≠ 0 → am = some ⟨gm, 0, none⟩) ∧ gm ≠ g ∧ (∀ j (hj : j < mm.length), w3.cell? ⟨gm, j, none⟩ = some (.string (syB mm[j]))) := by
            have glt : g < wo.heap.size := (hpop2.lt g rfl).2
            rcases hom.2 with ⟨_, h0⟩ | ⟨gm, cap, cur, hv, h1, h2, _⟩
            · exact ⟨wo.heap.size, fun h => absurd h0 h, by omega, fun j hj => absurd hj (by omega)⟩
            · simp only [Value.slice.injEq] at hv
              obtain ⟨hv1, _, _⟩ := hv
              refine ⟨gm, fun _ => hv1, by omega, fun j hj => ?_⟩
              subst hv1
              rw [hom.cellAt j (by omega), List.getElem?_map, List.getElem?_eq_getElem hj]
              rfl
          obtain ⟨gm, hgm1, hgm2, hgm3⟩ := hgm
          have HGM := hide (And.intro hgm1 hgm3)
          have hpopS : w3.ownsRow w.heap.size 9 1 (.slice (some ⟨g, 0, none⟩) (mm.drop mm.length ++ st).length cp) (mm.drop mm.length ++ st).length (stC (mm.drop mm.length ++ st)) := by rw [List.drop_length]; exact hpop3
          rw [eml]
          clear hgm1 hgm3 hom hm' hrn' hpop2 hpop3 eml
          go_loopw [3, 9] (fun v iv wi => ∃ (p g' c' : Nat), p ≤ mm.length ∧ iv = .int .i64 ((p : Int) - 1) ∧ v = .slice (some ⟨g', 0, none⟩) (mm.drop p ++ st).length c' ∧ wi.ownsRow w.heap.size 9 1 (.slice (some ⟨g', 0, none⟩) (mm.drop p ++ st).length c') (mm.drop p ++ st).length (stC (mm.drop p ++ st)) ∧ gm ≠ g' ∧ (∀ j (hj : j < mm.length), wi.cell? ⟨gm, j, none⟩ = some (.string (syB mm[j])) ∧ gm < wi.heap.size) ∧ Below w.heap.size w wi) (fun _ iv _ => (intOf iv + 1).toNat)
          case atStart => exact ⟨mm.length, g, cp, Nat.le_refl _, rfl, by rw [List.drop_length]; rfl, hpopS, hgm2, fun j hj => ⟨(unhide HGM).2 j hj, by
              have := (unhide HGM).2 j hj
              unfold World.cell? at this
              by_cases hq : gm < w3.heap.size
              · exact hq
              · rw [Array.getElem?_eq_none (by show w3.heap.size ≤ gm; omega)] at this; cases this⟩, B3⟩
          case round =>
            obtain ⟨p, g', c', hp, rfl, rfl, hso, hgg, hmc, B5⟩ := hrel
            have HMC := hide hmc
            clear hpopS hmc
            by_cases hp0 : p = 0
            · subst hp0
              have ig : ¬ ((0 : Int) ≤ ((0 : Nat) : Int) - 1) := by omega
              have HNN := hide (show UnI T res (3 + 14 * T.length) w n' (.slice (some ⟨g', 0, none⟩) (mm ++ st).length c') (.int .i64 ((k : Nat) : Int)) wr from ⟨mm ++ st, k, g', c', rfl, rfl, by simpa using hso, (unhide HRN').2, hk, unhide HIN', unhide HOY', B5⟩)
              go_wp2_with fail
              rw [List.drop_zero]
              exact ⟨⟨n', unhide HNN⟩, by rw [unhide HME]; exact unhide HM n' _ _ _ (by have := (unhide HRN').1; omega) (unhide HNN)⟩
            · have ig : (0 : Int) ≤ (p : Int) - 1 := by omega
              obtain ⟨q, rfl⟩ : ∃ q, p = q + 1 := ⟨p - 1, by omega⟩
              have hq : q < mm.length := by omega
              obtain ⟨hcm, hglt⟩ := unhide HMC q hq
              have ham := (unhide HGM).1 (by omega)
              have Hdr := hide (List.drop_eq_getElem_cons hq)
              have eq1 : (((q + 1 : Nat) : Int) - 1) = (q : Int) := by omega
              have iq : (q : Int) < (mm.length : Int) := by omega
              have ew1 : wrap64 ((q : Int) - 1) = (q : Int) - 1 := by simp [wrap64]; omega
              subst ham
              have hso2 := hso.alloc (.cells #[.string (syB mm[q])] 9)
              have Hln := hide (show (mm.drop (q + 1) ++ st).length ≤ 70000 by have := unhide HML; simp; omega)
              have hln := unhide Hln
              have hB5 := B5.size
              generalize hss : mm.drop (q + 1) ++ st = ss at *
              have HSS := hide hss
              generalize hxx : mm[q] = xx at *
              have HXX := hide hxx
              clear hss hxx hp0 ig
              rw [eq1]
              have ig : (0 : Int) ≤ (q : Int) := by omega
              go_wp2_with (at_builtin; refine wpList_append_lies _ rfl _ _ 47 rfl w.heap.size 9 i (.string ByteArray.empty) 1 16 Tryz.underlying47 hi hz0 hz1 hz2 rfl (by decide) _ _ _ rfl hso2 ⟨wr.heap.size, 0, none⟩ 1 1 [.string (syB xx)] rfl rfl (cell_one_new wr _ _) ?d2 (by decide) ?d3 ?d4 ?d5 (wr.heap.size + 1) (by simp) ?_)
              case d2 => rfl
              case d3 => unfold maxLen; omega
              case d4 => omega
              case d5 => omega
              intro gk cap1 w4 Ok hgrow hat hgl
              have B6 := (B5.alloc hB5 (.cells #[.string (syB xx)] 9)).grown hgrow (by simp; omega) (fun q hq => (hso.lt q hq).1)
              have key2 : ∃ (p g2 c2 : Nat), p ≤ mm.length ∧ Value.int .i64 ((q : Int) - 1) = .int .i64 ((p : Int) - 1) ∧ Value.slice (some ⟨gk, 0, none⟩) (ss.length + 1) cap1 = .slice (some ⟨g2, 0, none⟩) (mm.drop p ++ st).length c2 ∧ w4.ownsRow w.heap.size 9 1 (.slice (some ⟨g2, 0, none⟩) (mm.drop p ++ st).length c2) (mm.drop p ++ st).length (stC (mm.drop p ++ st)) ∧ gm ≠ g2 ∧ (∀ j (hj : j < mm.length), w4.cell? ⟨gm, j, none⟩ = some (.string (syB mm[j])) ∧ gm < w4.heap.size) ∧ Below w.heap.size w w4 := by
                have e : mm.drop q ++ st = xx :: ss := by rw [unhide Hdr, ← unhide HSS]; rfl
                refine ⟨q, gk, cap1, by omega, rfl, by rw [e]; rfl, ?_, ?_, fun j hj => ⟨?_, ?_⟩, B6⟩
                · rw [e, stC_cons, List.length_cons]; exact Ok
                · rcases hat with h | h
                  · have : g' = gk := by simpa [Value.ownBlock] using h
                    omega
                  · omega
                · have hx := hgrow.block gm (by simp; omega) (fun h => hgg (by simpa [Value.ownBlock] using h))
                  have hy := hx.trans (Below.heap_alloc wr _ gm hglt)
                  have hz := (unhide HMC j hj).1
                  unfold World.cell? at hz ⊢
                  rw [hy]; exact hz
                · have := hgrow.size
                  simp at this
                  omega
              have HK := hide key2
              clear key2 Ok hgrow hat hso hso2 B6 hcm
              go_wp2_with fail
              go_roundw
              case rel => exact unhide HK
              case measure => simp [intOf]
        | none =>
          rw [hex] at HEX
          have HEXX := hide hex
          clear hex
          have HU := hide (show unX T res = (k : Int) by
            have h := unhide HRN
            rw [unhide HDN] at h
            rw [h.nil_inv (by have := unhide HEXX; rw [unhide HDN] at this; exact this)]
            have := unhide Hkt
            simp [unX]; omega)
          go_wp2_with fail
          refine (unhide HEX).mono ?_
          rintro r w3 ⟨rfl, hb3⟩
          have B3 := B2.trans (hb3.mono B2.size)
          dsimp only
          clear hpop2
          rcases none_is (unhide HEXX) with rfl | ⟨s, rfl⟩
          · rw [show syB .scope = ⟨#[83, 67, 79, 80, 69]⟩ from rfl]
            go_wp2_with fail
            go_ret
            exact ⟨by rw [unhide HU]; rfl, B3⟩
          · have e2 : ((syB (.t s)).toList == [83, 67, 79, 80, 69]) = false := by rw [show syB (.t s) = ofL s from rfl, eqL]; exact decide_eq_false (okY_ne (unhide HOY _ (List.mem_cons_self ..)))
            go_wp2_with fail
            go_ret
            exact ⟨by rw [unhide HU]; rfl, B3⟩

end Go.Proofs.YtcehablmloleaaaGreatDoor

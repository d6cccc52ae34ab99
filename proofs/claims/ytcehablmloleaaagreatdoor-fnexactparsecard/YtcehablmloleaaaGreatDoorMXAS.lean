/-
  GP, GQ, GN, HH, HI. Own work.
-/
import Derived.Test.YtcehablmloleaaaGreatDoorMXAR
import Derived.Test.YtcehablmloleaaaGreatDoorMXAN
namespace Go.Proofs.YtcehablmloleaaaGreatDoor
open Go.RowKit
set_option linter.unusedVariables false
variable {aY : Addr} {pb g c : Nat} {T : List Tok} {tl : Nat}

/-- what scopes answers -/
def ScO (aY : Addr) (pb g c : Nat) (T : List Tok) (tl : Nat) (R : List ByteArray × Bool × List Tok) (w : World) (r : Ending) (w' : World) : Prop :=
  ((R.2.1 = true ∧ ∃ a cx k, r = .returned (.tuple #[.slice a R.1.length cx, .nilIface]) ∧ w'.ownsRow w.heap.size 9 1 (.slice a R.1.length cx) R.1.length (R.1.map Value.string) ∧ Pp w' pb g c T tl R.2.2 k ∧ R.1.length ≤ 4000) ∨
   (R.2.1 = false ∧ ∃ b, r = .returned (.tuple #[.slice none 0 0, errP b]) ∧ SyE aY tl R.2.2 b w')) ∧ Touch pb (pb + 1) w w'

/-- how far the names are -/
def ScN (pb g c : Nat) (T : List Tok) (tl : Nat) (R : List ByteArray × Bool × List Tok) (w : World) (n : Nat) (v : Value) (wr : World) : Prop :=
  ∃ a cx A r k, v = .slice a A.length cx ∧ wr.ownsRow w.heap.size 9 1 v A.length (A.map Value.string) ∧ Pp wr pb g c T tl r k ∧ scI r A = R ∧ n = r.length ∧ A.length + r.length ≤ T.length ∧ Touch pb (pb + 1) w wr

theorem scI_no {r : List Tok} {tl : Nat} (h : ¬ okSc (hdE tl r)) (A : List ByteArray) : scI r A = (A, false, r) := by
  match r with
  | [] => rfl
  | [t] => rw [scI, if_neg (show ¬ okSc t from h)]
  | t :: u :: q => rw [scI, if_neg (show ¬ okSc t from h)]

theorem scI_end {t : Tok} {r : List Tok} (h : okSc t) (hs : sees kComma r = false) (A : List ByteArray) : scI (t :: r) A = (A ++ [t.text], true, r) := by
  match r with
  | [] => rw [scI, if_pos h]
  | u :: q => rw [scI, if_pos h, if_neg (by rw [show see kComma u = false from hs]; decide)]

theorem scI_go {t u : Tok} {r : List Tok} (h : okSc t) (hs : see kComma u = true) (A : List ByteArray) : scI (t :: u :: r) A = scI r (A ++ [t.text]) := by
  rw [scI, if_pos h, if_pos hs]

theorem field_tx (a b c d : Value) (w : World) : (Instr.field 42 (.agg #[a, b, c, d]) 2).run Tryz.prog w = .ok c w := by
  simp [Instr.field, run_underlying Tryz.underlying42, Sem.run_bind, part, asAgg, isAgg, go_sem]

theorem Touch.grownP {lo hi : Nat} {w w1 w2 : World} {o : Obj} {row : Option Nat} (t : Touch lo hi w w1) (hg : (w1.alloc o).grownBy w2 row) (hr : ∀ k, row = some k → w.heap.size ≤ k) : Touch lo hi w w2 := by
  have h0 := t.allP ((Below.refl w1.heap.size w1).alloc (Nat.le_refl _) o)
  exact ⟨hg.os.trans h0.os, hg.tape.trans h0.tape, hg.output.trans h0.output, Nat.le_trans h0.size hg.size, fun k h1 h2 => (hg.block k (Nat.lt_of_lt_of_le h1 h0.size) (fun e => by have := hr k e.symm; omega)).trans (h0.block k h1 h2)⟩

theorem Pp.grownP {w w2 : World} {k : Nat} {ts : List Tok} {lo n : Nat} {v : Value} {xs : List Value} {o : Obj} (h : Pp w pb g c T tl ts k) (hr : ∀ q, v.ownBlock = some q → lo ≤ q) (hg : (w.alloc o).grownBy w2 v.ownBlock) (hv : w.ownsRow lo 9 1 v n xs) : Pp w2 pb g c T tl ts k := by
  have key : ∀ q, q < w.heap.size → v.ownBlock ≠ some q → w2.heap[q]? = w.heap[q]? := fun q h1 h2 => (hg.block q (by simp; omega) (fun e => h2 e.symm)).trans (Below.heap_alloc w o q h1)
  exact ⟨⟨(key pb h.row.lt (own_ne_row h.row hv (by decide))).trans h.row.out⟩, owns_blocksN h.toks (fun q hq => key q (h.toks.lt q hq).2 (fun e => own_ne_ownN hv h.toks (by decide) q e hq)), h.drop, h.len, h.small⟩

set_option maxRecDepth 100000 in
set_option maxHeartbeats 6400000 in
theorem scopes_any (hp : 17 ≤ pb) (ts : List Tok) (w : World) (k : Nat) (h : Pp w pb g c T tl ts k) (hg : Gy w aY) :
    Calls Tryz.prog 138 #[.pointer (some ⟨pb, 0, none⟩)] w (ScO aY pb g c T tl (scR ts) w) := by
  have HS := hide (sees_any h kRbr)
  have HH := hide h
  have HG := hide hg
  have nz := h.row.lt
  have hlen := h.len
  cases hs : sees kRbr ts
  case true =>
    have HE := hide hs
    have HR := hide (show scR ts = ([], true, ts) by rw [scR, hs]; rfl)
    clear hs h hg hlen
    go_enter Tryz.func138, Tryz.ntmps138
    go_wp2_with fail
    refine (unhide HS).mono ?_
    rintro e w1 ⟨rfl, hb⟩
    rw [unhide HE]
    dsimp only
    go_wp2_with fail
    go_ret2
    rw [unhide HR]
    exact ⟨.inl ⟨rfl, none, 0, k, rfl, World.ownsRow_nil _ _ _ _, (unhide HH).below hb, by simp⟩, Touch.of_below hb (Nat.le_refl _)⟩
  case false =>
    have HE := hide hs
    have HR := hide (show scI ts [] = scR ts by rw [scR, hs]; rfl)
    have Hl := hide (show ts.length ≤ T.length by omega)
    have Hs := hide h.small
    clear hs h hg hlen
    obtain ⟨i, hi, hz0, hz1, hz2⟩ := info_parts infoS
    go_enter Tryz.func138, Tryz.ntmps138
    go_wp2_with fail
    refine (unhide HS).mono ?_
    rintro e w1 ⟨rfl, hb⟩
    rw [unhide HE]
    dsimp only
    go_wp2_with fail
    go_loopw [4] (fun v wr => ∃ n, ScN pb g c T tl (scR ts) w n v wr) (fun v wr => leastN (fun n => ScN pb g c T tl (scR ts) w n v wr))
    case atStart => exact ⟨ts.length, none, 0, [], ts, k, rfl, World.ownsRow_nil _ _ _ _, (unhide HH).below hb, unhide HR, rfl, by simpa using unhide Hl, Touch.of_below hb (Nat.le_refl _)⟩
    case round =>
      clear HH HS HE HR hb
      have hl := leastN_spec hrel
      have HM := hide (show ∀ n v' w', n < leastN (fun n => ScN pb g c T tl (scR ts) w n u4 wr) → ScN pb g c T tl (scR ts) w n v' w' → leastN (fun n => ScN pb g c T tl (scR ts) w n v' w') < leastN (fun n => ScN pb g c T tl (scR ts) w n u4 wr) from fun n v' w' h1 h2 => leastN_lt h1 h2)
      generalize hme : leastN (fun n => ScN pb g c T tl (scR ts) w n u4 wr) = m at hl HM
      have HME := hide hme
      clear hme hrel
      obtain ⟨a, cx, A, r, k1, rfl, hown, P1, hsc, hm, hAr, T1⟩ := hl
      have HP := hide (peek_any P1)
      have HQ := hide P1
      have HSC := hide hsc
      have Hm := hide (And.intro hm hAr)
      have HG1 := hide ((unhide HG).touch T1 hp)
      have hz := T1.size
      clear P1 hsc hm hAr
      by_cases hok : okSc (hdE tl r)
      · obtain ⟨t, r', rfl⟩ : ∃ t r', r = t :: r' := by
          cases r with
          | nil => exact absurd hok.1 (show ¬ (0 : Int) = 2 by decide)
          | cons t r' => exact ⟨t, r', rfl⟩
        have hok' : okSc t := hok
        have e1 : (t.kind != 2) = false := by rw [hok'.1]; rfl
        have e2 : (t.text.toList == []) = false := by
          cases hc : (t.text.toList == [])
          · rfl
          · have : t.text.toList = (ofL []).toList := by rw [beq_iff_eq] at hc; rw [hc, ByteArray.toList_eq]; rfl
            exact absurd ((eqS_iff _ _).1 (beq_iff_eq.2 this)) hok'.2
        have HK := hide hok'
        clear hok hok'
        go_wp2_with fail
        refine (unhide HP).mono ?_
        rintro e w2 ⟨rfl, hb2⟩
        dsimp only [tokV, hdE]
        have hb3 := hb2.alloc hb2.size (.cells #[.int .i64 t.kind, .int .i64 t.num, .string t.text, .int .i64 (t.at_ : Int)] 42)
        have HT := hide (take_any ((unhide HQ).below hb3))
        have T3 := T1.allP hb3
        have hown3 : (w2.alloc (.cells #[.int .i64 t.kind, .int .i64 t.num, .string t.text, .int .i64 (t.at_ : Int)] 42)).ownsRow w.heap.size 9 1 (.slice a A.length cx) A.length (A.map Value.string) := owns_blocksN hown (fun q hq => hb3.block q (hown.lt q hq).2)
        have ft := field_tx (.int .i64 t.kind) (.int .i64 t.num) (.string t.text) (.int .i64 (t.at_ : Int))
        go_wp2_with fail
        generalize w2.alloc (.cells #[.int .i64 t.kind, .int .i64 t.num, .string t.text, .int .i64 (t.at_ : Int)] 42) = W3 at HT T3 hown3 ⊢
        refine (unhide HT).mono ?_
        rintro e w4 ⟨rfl, P4, T4⟩
        have T5 := T3.trans T4
        have hown4 : w4.ownsRow w.heap.size 9 1 (.slice a A.length cx) A.length (A.map Value.string) := owns_blocksN hown3 (fun q hq => T4.block q (hown3.lt q hq).2 (.inr (by have := (hown3.lt q hq).1; omega)))
        clear hown hown3 hb3 hb2 T3 T4 T1
        have hz4 := T5.size
        have hA : A.length ≤ 4000 := by have := (unhide Hm).2; have := unhide Hs; simp at *; omega
        dsimp only [tokV]
        go_wp2_with (at_builtin; refine wpList_append_own _ rfl _ _ 47 rfl w.heap.size 9 i (.string ByteArray.empty) 1 16 Tryz.underlying47 hi hz0 hz1 hz2 rfl (by decide) _ _ _ rfl (hown4.alloc _) ⟨w4.heap.size, 0, none⟩ 1 1 [.string t.text] rfl rfl ?c1 ?c2 ?c3 ?c4 ?c5 ?_)
        case c1 => exact cell_one_new _ _ _
        case c2 => intro u hu; simp at hu; subst hu; rfl
        case c3 => unfold maxLen; omega
        case c4 => omega
        case c5 => simp; omega
        intro v' w5 hown' hgrow _
        have P5 := P4.grownP (fun q hq => (hown4.lt q hq).1) hgrow hown4
        have T6 := T5.grownP hgrow (fun q hq => (hown4.lt q hq).1)
        obtain ⟨x', cx', hf⟩ := owns_form hown'
        rw [hf] at hown' ⊢
        clear hgrow hown4 hf P4 T5
        have HS := hide (sees_any P5 kComma)
        have HQ5 := hide P5
        clear P5
        go_wp2_with fail
        refine (unhide HS).mono ?_
        rintro e w6 ⟨rfl, hb6⟩
        have hown6 : w6.ownsRow w.heap.size 9 1 (.slice x' (A.length + 1) cx') (A.length + 1) (A.map Value.string ++ [.string t.text]) := owns_blocksN hown' (fun q hq => hb6.block q (hown'.lt q hq).2)
        have T7 := T6.allP hb6
        have HL := hide (show A.length + 1 ≤ 4000 by have := (unhide Hm).2; have := unhide Hs; simp at *; omega)
        cases hs : sees kComma r'
        · have HR := hide (show scR ts = (A ++ [t.text], true, r') by rw [← unhide HSC, scI_end (unhide HK) hs])
          clear hs hown'
          dsimp only
          go_wp2_with fail
          go_ret2
          rw [unhide HR]
          exact ⟨.inl ⟨rfl, x', cx', _, by simp, by simpa using hown6, (unhide HQ5).below hb6, by simpa using unhide HL⟩, T7⟩
        · obtain ⟨u, r2, rfl⟩ : ∃ u r2, r' = u :: r2 := by
            cases r' with
            | nil => cases hs
            | cons u r2 => exact ⟨u, r2, rfl⟩
          have HR := hide (show scI r2 (A ++ [t.text]) = scR ts by rw [← unhide HSC, scI_go (unhide HK) hs])
          have HT2 := hide (take_any ((unhide HQ5).below hb6))
          clear hs hown'
          dsimp only
          go_wp2_with fail
          refine (unhide HT2).mono ?_
          rintro e w7 ⟨rfl, P7, T8⟩
          have hown7 : w7.ownsRow w.heap.size 9 1 (.slice x' (A.length + 1) cx') (A.length + 1) (A.map Value.string ++ [.string t.text]) := owns_blocksN hown6 (fun q hq => T8.block q (hown6.lt q hq).2 (.inr (by have := (hown6.lt q hq).1; omega)))
          have HN := hide (show ScN pb g c T tl (scR ts) w r2.length (.slice x' (A.length + 1) cx') w7 from ⟨x', cx', A ++ [t.text], r2, _, by simp, by simpa using hown7, P7, unhide HR, rfl, by have := (unhide Hm).2; simp at this ⊢; omega, T7.trans T8⟩)
          clear hown6 hown7 P7 T8 T7
          dsimp only [tokV]
          go_wp2_with fail
          go_roundw
          case rel => exact ⟨_, unhide HN⟩
          case measure => rw [unhide HME]; exact unhide HM _ _ _ (by have := (unhide Hm).1; simp at this; omega) (unhide HN)
      · have HR := hide (show scR ts = (A, false, r) by rw [← unhide HSC, scI_no hok])
        have HST := hide (fun w' (hb : Below wr.heap.size wr w') => stuck_any ((unhide HQ).below hb) ((unhide HG1).below hb))
        by_cases hk2 : (hdE tl r).kind = 2
        · have e1 : ((hdE tl r).kind != 2) = false := by rw [hk2]; rfl
          have e2 : ((hdE tl r).text.toList == []) = true := by
            have : (hdE tl r).text = ofL [] := by
              by_cases h0 : (hdE tl r).text = ofL []
              · exact h0
              · exact absurd ⟨hk2, h0⟩ hok
            rw [this, ByteArray.toList_eq]; rfl
          clear hok hk2
          go_wp2_with fail
          refine (unhide HP).mono ?_
          rintro e w2 ⟨rfl, hb2⟩
          generalize hdE tl r = t at e1 e2
          have hb3 := hb2.alloc hb2.size (.cells #[.int .i64 t.kind, .int .i64 t.num, .string t.text, .int .i64 (t.at_ : Int)] 42)
          dsimp only [tokV]
          go_wp2_with fail
          refine (unhide HST _ hb3).mono ?_
          rintro e w4 ⟨b, rfl, RE, hb4⟩
          dsimp only [errP]
          go_wp2_with fail
          go_ret2
          rw [unhide HR]
          exact ⟨.inr ⟨rfl, b, rfl, RE⟩, (T1.allP hb3).allP hb4⟩
        · have e1 : ((hdE tl r).kind != 2) = true := bne_iff_ne.2 hk2
          clear hok hk2
          go_wp2_with fail
          refine (unhide HP).mono ?_
          rintro e w2 ⟨rfl, hb2⟩
          generalize hdE tl r = t at e1
          have hb3 := hb2.alloc hb2.size (.cells #[.int .i64 t.kind, .int .i64 t.num, .string t.text, .int .i64 (t.at_ : Int)] 42)
          dsimp only [tokV]
          go_wp2_with fail
          refine (unhide HST _ hb3).mono ?_
          rintro e w4 ⟨b, rfl, RE, hb4⟩
          dsimp only [errP]
          go_wp2_with fail
          go_ret2
          rw [unhide HR]
          exact ⟨.inr ⟨rfl, b, rfl, RE⟩, (T1.allP hb3).allP hb4⟩

end Go.Proofs.YtcehablmloleaaaGreatDoor

namespace Go.Proofs.YtcehablmloleaaaGreatDoor
open Go.RowKit Go.Lib Go.Sort
set_option linter.unusedVariables false
variable {aY : Addr} {pb g c : Nat} {T : List Tok} {tl : Nat}

/-- what a set is read as -/
def setX (t : Tok) (R : List ByteArray × Bool × List Tok) : PR := if R.2.1 = true then (match R.2.2 with | [] => .bad [] | u :: q => if see kRbr u = true then .ok (.set t.at_ R.1) q else .bad (u :: q)) else .bad R.2.2

/-- Sort and Compact, one behind the other, at a slice of the call's own -/
theorem srt_any (base cx : Nat) (a : Option Addr) (ss : List ByteArray) (w : World) (h : w.ownsRow base 9 1 (.slice a ss.length cx) ss.length (ss.map Value.string)) (hn : ss.length ≤ 1048576) :
    Calls Tryz.prog 139 #[.slice a ss.length cx] w fun e w' => e = .returned (.tuple #[]) ∧ w'.ownsRow base 9 1 (.slice a ss.length cx) ss.length (((ss.map toL).mergeSort fun x y => decide (x ≤ y)).map encStr) ∧ w.grownBy w' (Value.slice a ss.length cx).ownBlock := by
  by_cases h0 : ss.length = 0
  · have e : ss = [] := List.eq_nil_of_length_eq_zero h0
    subst e
    refine (Tryz.slices_Sort_string_none a cx w).mono ?_
    rintro e w' ⟨rfl, rfl⟩
    exact ⟨rfl, by simpa using h, World.grownBy.refl _ _⟩
  · obtain ⟨x, cc, hv, hx⟩ := owns_form2 h
    obtain ⟨g', hg', _⟩ := hx (by omega)
    have ea : a = some ⟨g', 0, none⟩ := by
      injection hv with h1
      rw [h1]; exact hg'
    subst ea
    have h' := h
    rw [← enc_toL] at h'
    refine (sort_any base g' ss.length cx (ss.map toL) w h' hn).mono ?_
    rintro e w' ⟨rfl, ho, hg⟩
    exact ⟨rfl, ho, hg⟩

theorem cmp_any (base cx : Nat) (a : Option Addr) (ss : List ByteArray) (w : World) (h : w.ownsRow base 9 1 (.slice a ss.length cx) ss.length (((ss.map toL).mergeSort fun x y => decide (x ≤ y)).map encStr)) (hn : ss.length ≤ 1048576) :
    Calls Tryz.prog 140 #[.slice a ss.length cx] w fun e w' => ∃ K, IsSorted ss K ∧ e = .returned (.slice a K.length cx) ∧ w'.ownsRow base 9 1 (.slice a K.length cx) K.length (K.map Value.string) ∧ w.grownBy w' (Value.slice a ss.length cx).ownBlock := by
  by_cases h0 : ss.length = 0
  · have e : ss = [] := List.eq_nil_of_length_eq_zero h0
    subst e
    refine (Tryz.slices_Compact_string_empty a cx w).mono ?_
    rintro e w' ⟨rfl, rfl⟩
    exact ⟨[], ⟨rfl, fun x => Iff.rfl⟩, rfl, by simpa using h, World.grownBy.refl _ _⟩
  · obtain ⟨x, cc, hv, hx⟩ := owns_form2 h
    obtain ⟨g', hg', _⟩ := hx (by omega)
    have ea : a = some ⟨g', 0, none⟩ := by
      injection hv with h1
      rw [h1]; exact hg'
    subst ea
    refine (compact_any base g' ss.length cx _ w h hn).mono ?_
    rintro e w' ⟨rfl, ho, hg⟩
    have hs := sortL_sorted ss
    rw [← enc_ofL] at ho
    change IsSorted ss ((sortL ss).map ofL) at hs
    have e3 : (Lib.compact ((ss.map toL).mergeSort fun x y => decide (x ≤ y))) = sortL ss := rfl
    rw [e3] at ho ⊢
    have e4 : (sortL ss).length = ((sortL ss).map ofL).length := (List.length_map _).symm
    rw [e4] at ho ⊢
    exact ⟨_, hs, rfl, ho, hg⟩

theorem owns_low {w : World} {B B' n size : Nat} {e : TypeId} {v : Value} {xs : List Value} (h : w.ownsRow B e size v n xs) (hB : B' ≤ B) : w.ownsRow B' e size v n xs := by
  refine ⟨h.1, ?_⟩
  rcases h.2 with h0 | ⟨g, cap, cur, hv, h1, h2⟩
  · exact .inl h0
  · exact .inr ⟨g, cap, cur, hv, Nat.le_trans hB h1, h2⟩

theorem Touch.grown0 {lo hi : Nat} {w w1 w2 : World} {row : Option Nat} (t : Touch lo hi w w1) (hg : w1.grownBy w2 row) (hr : ∀ k, row = some k → w.heap.size ≤ k) : Touch lo hi w w2 :=
  ⟨hg.os.trans t.os, hg.tape.trans t.tape, hg.output.trans t.output, Nat.le_trans t.size hg.size, fun k h1 h2 => (hg.block k (Nat.lt_of_lt_of_le h1 t.size) (fun e => by have := hr k e.symm; omega)).trans (t.block k h1 h2)⟩

theorem Pp.grown0 {w w2 : World} {k : Nat} {ts : List Tok} {lo n : Nat} {v : Value} {xs : List Value} (h : Pp w pb g c T tl ts k) (hg : w.grownBy w2 v.ownBlock) (hv : w.ownsRow lo 9 1 v n xs) : Pp w2 pb g c T tl ts k := by
  have key : ∀ q, q < w.heap.size → v.ownBlock ≠ some q → w2.heap[q]? = w.heap[q]? := fun q h1 h2 => hg.block q h1 (fun e => h2 e.symm)
  exact ⟨⟨(key pb h.row.lt (own_ne_row h.row hv (by decide))).trans h.row.out⟩, owns_blocksN h.toks (fun q hq => key q (h.toks.lt q hq).2 (fun e => own_ne_ownN hv h.toks (by decide) q e hq)), h.drop, h.len, h.small⟩

set_option maxRecDepth 100000 in
set_option maxHeartbeats 3200000 in
theorem set_any (hp : 17 ≤ pb) (t : Tok) (r : List Tok) (w : World) (k : Nat) (h : Pp w pb g c T tl (t :: r) k) (hg : Gy w aY) :
    Calls Tryz.prog 132 #[.pointer (some ⟨pb, 0, none⟩)] w (PrA aY pb g c T tl (setX t (scR r)) w) := by
  have HT := hide (take_any h)
  have HG := hide hg
  have fa := field_at (.int .i64 t.kind) (.int .i64 t.num) (.string t.text) (.int .i64 (t.at_ : Int))
  have nz := h.row.lt
  rcases hR : scR r with ⟨ss, bo, q⟩
  have HR := hide hR
  clear h hg hR
  go_enter Tryz.func132, Tryz.ntmps132
  go_wp2_with fail
  refine (unhide HT).mono ?_
  rintro e w1 ⟨rfl, P1, T1⟩
  have HS := hide (scopes_any (aY := aY) hp r w1 _ P1 ((unhide HG).touch T1 hp))
  have hz1 := T1.size
  rw [unhide HR] at HS
  clear P1
  dsimp only [tokV]
  go_wp2_with fail
  refine (unhide HS).mono ?_
  rintro e w2 ⟨⟨hb, a, cx, k2, rfl, hown, P2, hl⟩ | ⟨hb, b, rfl, RE⟩, T2⟩
  · dsimp only at hb hown P2 hl
    subst hb
    have T12 := T1.trans T2
    have HSO := hide (srt_any w1.heap.size cx a ss w2 hown (by omega))
    have HP2 := hide P2
    clear P2
    dsimp only
    go_wp2_with fail
    refine (unhide HSO).mono ?_
    rintro e w3 ⟨rfl, hown3, hg3⟩
    have HP3 := hide ((unhide HP2).grown0 hg3 hown)
    have T3 := T12.grown0 hg3 (fun q hq => by have := (hown.lt q hq).1; omega)
    have HCM := hide (cmp_any w1.heap.size cx a ss w3 hown3 (by omega))
    clear hown hg3 T12
    dsimp only
    go_wp2_with fail
    refine (unhide HCM).mono ?_
    rintro e w4 ⟨K, hK, rfl, hown4, hg4⟩
    have P4 := (unhide HP3).grown0 hg4 hown3
    have T4 := T3.grown0 hg4 (fun q hq => by have := (hown3.lt q hq).1; omega)
    have HG4 := hide ((unhide HG).touch T4 hp)
    have HK := hide hK
    have own5 : w4.ownsRow (pb + 1) 9 1 (.slice a K.length cx) K.length (K.map Value.string) := owns_low hown4 (by omega)
    clear hK hown3 hown4 hg4 T3
    cases hq : sees kRbr q
    · have HE := hide (expect_no P4 (unhide HG4) kRbr hq)
      have HX := hide (show setX t (ss, true, q) = .bad q by
        rw [setX, if_pos rfl]
        cases q with
        | nil => rfl
        | cons u q => exact if_neg (by rw [show see kRbr u = false from hq]; decide))
      clear P4 hq
      dsimp only
      go_wp2_with fail
      refine (unhide HE).mono ?_
      rintro e w5 ⟨b, rfl, RE, hb5⟩
      dsimp only [errP]
      go_wp2_with fail
      go_ret2
      rw [unhide HX]
      exact ⟨⟨_, b, rfl, .inr ⟨_, _, rfl⟩, RE⟩, T4.allP hb5⟩
    · obtain ⟨u, q', rfl⟩ : ∃ u q', q = u :: q' := by
        cases q with
        | nil => cases hq
        | cons u q' => exact ⟨u, q', rfl⟩
      have HE := hide (expect_ok P4 kRbr hq)
      have HX := hide (show setX t (ss, true, u :: q') = .ok (.set t.at_ ss) q' by rw [setX, if_pos rfl]; exact if_pos hq)
      clear P4 hq
      dsimp only
      go_wp2_with fail
      refine (unhide HE).mono ?_
      rintro e w5 ⟨rfl, P5, T5⟩
      dsimp only
      go_wp2_with fail
      go_ret2
      rw [unhide HX]
      exact ⟨⟨.set t.at_ a K.length cx K, _, rfl, ⟨rfl, unhide HK⟩, Ex.own_touch T5 (.set t.at_ a K.length cx K) own5, P5⟩, T4.trans T5⟩
  · dsimp only at hb RE
    subst hb
    dsimp only [errP]
    go_wp2_with fail
    go_ret2
    exact ⟨⟨.nilIface, b, rfl, .inl rfl, RE⟩, T1.trans T2⟩

end Go.Proofs.YtcehablmloleaaaGreatDoor

namespace Go.Proofs.YtcehablmloleaaaGreatDoor
open Go.RowKit
set_option linter.unusedVariables false
variable {aY : Addr} {pb g c : Nat} {T : List Tok} {tl : Nat}

set_option maxRecDepth 100000 in
set_option maxHeartbeats 3200000 in
theorem cmp_step (hp : 17 ≤ pb) (ts : List Tok) (x : PR) (d : D .cmp ts x) (IH : ∀ r x, D (.opd 4) r x → r.length ≤ ts.length → CS aY pb g c T tl (.opd 4) r x) : CS aY pb g c T tl .cmp ts x := by
  intro w kk h hg
  show Calls Tryz.prog 125 #[.pointer (some ⟨pb, 0, none⟩)] w (PrA aY pb g c T tl x w)
  have key : (∃ q, D (.opd 4) ts (.bad q) ∧ x = .bad q) ∨ (∃ p0 r, D (.opd 4) ts (.ok p0 r) ∧ opHd 4 r = none ∧ x = .ok p0 r) ∨ (∃ p0 t r op y, D (.opd 4) ts (.ok p0 (t :: r)) ∧ opOf 4 t = some op ∧ D (.opd 4) r y ∧ x = y.two t.at_ op p0) := by
    cases d with
    | cmp_bad d => exact .inl ⟨_, d, rfl⟩
    | cmp_one d h => exact .inr (.inl ⟨_, _, d, h, rfl⟩)
    | cmp_two_bad d h d2 => exact .inr (.inr ⟨_, _, _, _, _, d, h, d2, rfl⟩)
    | cmp_two d h d2 => exact .inr (.inr ⟨_, _, _, _, _, d, h, d2, rfl⟩)
  have HG := hide hg
  clear d
  rcases key with ⟨q, d, rfl⟩ | ⟨p0, r, d, hn, rfl⟩ | ⟨p0, t, r, op, y, d, hop, d2, rfl⟩
  · have HS : Hid (Calls Tryz.prog 117 #[.pointer (some ⟨pb, 0, none⟩), .int .i64 4] w (PrA aY pb g c T tl (.bad q) w)) := hide (IH _ _ d (Nat.le_refl _) w kk h hg)
    clear h hg IH d
    go_enter Tryz.func125, Tryz.ntmps125
    go_wp2_with fail
    refine (unhide HS).mono ?_
    rintro rr w1 ⟨⟨v, b, rfl, hv, R⟩, T1⟩
    rcases hv with rfl | ⟨tv, uv, rfl⟩
    all_goals
      dsimp only [errP]
      go_wp2_with fail
      go_ret2
      exact ⟨⟨.nilIface, b, rfl, .inl rfl, R⟩, T1⟩
  · have HS : Hid (Calls Tryz.prog 117 #[.pointer (some ⟨pb, 0, none⟩), .int .i64 4] w (PrA aY pb g c T tl (.ok p0 r) w)) := hide (IH _ _ d (Nat.le_refl _) w kk h hg)
    have HN := hide (show opOf 4 (hdE tl r) = none by rw [← opHd_hd]; exact hn)
    clear h hg IH d hn
    go_enter Tryz.func125, Tryz.ntmps125
    go_wp2_with fail
    refine (unhide HS).mono ?_
    rintro rr w1 ⟨⟨e0, k1, rfl, he, ho, P1⟩, T1⟩
    have HO : Hid (Calls Tryz.prog 118 #[.pointer (some ⟨pb, 0, none⟩), .int .i64 4] w1 fun e w' => OpA 4 (hdE tl r) e ∧ Below w1.heap.size w1 w') := hide (operatorOf_any (aY := aY) 4 P1 ((unhide HG).touch T1 hp))
    have HP := hide P1
    have HE := hide (And.intro he ho)
    obtain ⟨tz, uz, hz⟩ := e0.form
    have HZ := hide hz
    rw [hz]
    clear he ho P1 hz
    dsimp only
    go_wp2_with fail
    refine (unhide HO).mono ?_
    rintro rr w2 ⟨hoa, hb2⟩
    rw [OpA, unhide HN] at hoa
    subst hoa
    dsimp only
    go_wp2_with fail
    go_ret2
    have hb3 := hb2.alloc hb2.size (.cells #[.int .i64 0, .int .i64 0, .string ⟨#[]⟩] 202)
    exact ⟨⟨e0, k1, by rw [unhide HZ]; rfl, (unhide HE).1, e0.own_touch (Touch.of_below hb3 (Nat.le_refl _)) (unhide HE).2, (unhide HP).below hb3⟩, T1.allP hb3⟩
  · have HS : Hid (Calls Tryz.prog 117 #[.pointer (some ⟨pb, 0, none⟩), .int .i64 4] w (PrA aY pb g c T tl (.ok p0 (t :: r)) w)) := hide (IH _ _ d (Nat.le_refl _) w kk h hg)
    have HI := hide (IH r y d2 (by have := d.less rfl; simp at this; omega))
    have HN := hide (show opOf 4 (hdE tl (t :: r)) = some op from hop)
    clear h hg IH d d2 hop
    go_enter Tryz.func125, Tryz.ntmps125
    go_wp2_with fail
    refine (unhide HS).mono ?_
    rintro rr w1 ⟨⟨e0, k1, rfl, he, ho, P1⟩, T1⟩
    have HO : Hid (Calls Tryz.prog 118 #[.pointer (some ⟨pb, 0, none⟩), .int .i64 4] w1 fun e w' => OpA 4 (hdE tl (t :: r)) e ∧ Below w1.heap.size w1 w') := hide (operatorOf_any (aY := aY) 4 P1 ((unhide HG).touch T1 hp))
    have HB : Hid (∀ w' tx, Below w1.heap.size w1 w' → Calls Tryz.prog 119 #[.pointer (some ⟨pb, 0, none⟩), .agg #[.int .i64 op, .int .i64 4, .string tx], e0.val] w' (PrA aY pb g c T tl (y.two t.at_ op p0) w')) := hide (fun w' tx hb => binary_any hp 4 op tx e0 p0 t r y w' k1 (P1.below hb) (((unhide HG).touch T1 hp).below hb) he (e0.own_touch (Touch.of_below hb (Nat.le_refl _)) ho) (unhide HI))
    obtain ⟨tz, uz, hz⟩ := e0.form
    rw [hz] at HB ⊢
    clear he ho P1 hz
    dsimp only
    go_wp2_with fail
    refine (unhide HO).mono ?_
    rintro rr w2 ⟨hoa, hb2⟩
    rw [OpA, unhide HN] at hoa
    obtain ⟨tx, rfl⟩ := hoa
    dsimp only
    have hb3 := hb2.alloc hb2.size (.cells #[.int .i64 op, .int .i64 4, .string tx] 202)
    go_wp2_with fail
    refine (unhide HB _ tx hb3).mono ?_
    intro rr w4 hr
    obtain ⟨v, e, rfl, hv, he⟩ := hr.form
    have HR := hide (hr.from (T1.allP hb3))
    clear hr hb3 hb2
    dsimp only
    go_wp2_with fail
    go_ret2
    exact unhide HR

end Go.Proofs.YtcehablmloleaaaGreatDoor

namespace Go.Proofs.YtcehablmloleaaaGreatDoor
open Go.RowKit
set_option linter.unusedVariables false

/-- the tokens of a policy that is being written down, as they lie -/
structure TkM (w : World) (nb ga c : Nat) (T : List Tok) : Prop where
  at0 : w.cell? ⟨nb, 0, none⟩ = some (.slice (some ⟨ga, 0, none⟩) T.length c)
  cells : ∀ j u, (tokC T)[j]? = some u → w.cell? ⟨ga, j, none⟩ = some u
  lt : nb < w.heap.size ∧ ga < w.heap.size

theorem TkM.below {w w' : World} {nb ga c : Nat} {T : List Tok} (h : TkM w nb ga c T) (hb : Below w.heap.size w w') : TkM w' nb ga c T :=
  ⟨(hb.cell (p := ⟨nb, 0, none⟩) h.lt.1).trans h.at0, fun j u hu => (hb.cell (p := ⟨ga, j, none⟩) h.lt.2).trans (h.cells j u hu), by have := hb.size; have := h.lt; omega⟩

theorem TkM.at4 {w : World} {nb ga c : Nat} {T : List Tok} (h : TkM w nb ga c T) (i : Nat) (hi : i < T.length) : w.cell? ⟨ga, i * 4, none⟩ = some (.int .i64 T[i].kind) ∧ w.cell? ⟨ga, i * 4 + 1, none⟩ = some (.int .i64 T[i].num) ∧ w.cell? ⟨ga, i * 4 + 2, none⟩ = some (.string T[i].text) ∧ w.cell? ⟨ga, i * 4 + 3, none⟩ = some (.int .i64 (T[i].at_ : Int)) := by
  obtain ⟨e0, e1, e2, e3⟩ := tokC_at T i hi
  exact ⟨h.cells _ _ e0, h.cells _ _ e1, h.cells _ _ e2, h.cells _ _ e3⟩

theorem eqB (t : ByteArray) (u : List UInt8) : (t.toList == (ofL u).toList) = decide (t = ofL u) := by
  have h := eqL (toL t) (ofL u).toList
  rw [ofL_toL] at h
  rw [h]
  by_cases e : t = ofL u
  · rw [decide_eq_true e, e]; simp [ByteArray.toList_eq]; rfl
  · rw [decide_eq_false e, decide_eq_false]
    intro h2
    apply e
    rw [← ofL_toL t, h2, ByteArray.toList_eq]
    rfl

set_option maxRecDepth 100000 in
set_option maxHeartbeats 1600000 in
theorem is_any {w : World} {nb ga c : Nat} {T : List Tok} (h : TkM w nb ga c T) (i : Nat) (hi : i < T.length) (s : List UInt8) (sb : ByteArray) (hs : sb = ofL s) :
    Calls Tryz.prog 15 #[.pointer (some ⟨nb, 0, none⟩), .int .i64 (i : Int), .string sb] w fun r w' => r = .returned (.bool (see s T[i])) ∧ Below w.heap.size w w' := by
  obtain ⟨q0, q1, q2, q3⟩ := h.at4 i hi
  have a0 := h.at0
  have ii : (i : Int) < (T.length : Int) := by omega
  have HE := hide (show see s T[i] = ((T[i].kind == 4 || T[i].kind == 5) && (T[i].text.toList == sb.toList)) by rw [hs, eqB]; simp [see]; grind)
  generalize see s T[i] = b at HE ⊢
  generalize T[i] = t at q0 q1 q2 q3 HE
  clear h hs hi q1 q3
  cases h4 : (t.kind == 4) <;> cases h5 : (t.kind == 5) <;> cases hx : (t.text.toList == sb.toList) <;> rw [h4, h5, hx] at HE
  all_goals
    go_enter Tryz.func15, Tryz.ntmps15
    go_wp2_with fail
    go_ret
    exact ⟨by rw [unhide HE]; rfl, Below.refl _ _⟩

set_option maxRecDepth 100000 in
set_option maxHeartbeats 1600000 in
theorem ends_any {w : World} {nb ga c : Nat} {T : List Tok} (h : TkM w nb ga c T) (i : Nat) (hi : i < T.length) :
    Calls Tryz.prog 72 #[.pointer (some ⟨nb, 0, none⟩), .int .i64 (i : Int)] w fun r w' => r = .returned (.bool (endT T[i])) ∧ Below w.heap.size w w' := by
  obtain ⟨q0, q1, q2, q3⟩ := h.at4 i hi
  have a0 := h.at0
  have ii : (i : Int) < (T.length : Int) := by omega
  have HI := hide (fun (w' : World) (hb : Below w.heap.size w w') (s : List UInt8) => is_any (h.below hb) i hi s (ofL s) rfl)
  have HE := hide (show endT T[i] = ((T[i].kind != 4 && T[i].kind != 5) || see kRpar T[i] || see kRbr T[i] || see kTrue T[i] || see kFalse T[i]) by
    rw [endT, show (T[i].kind != 4) = !decide (T[i].kind = 4) from by rw [bne]; congr 1, show (T[i].kind != 5) = !decide (T[i].kind = 5) from by rw [bne]; congr 1])
  generalize endT T[i] = b at HE ⊢
  generalize T[i] = t at q0 q1 q2 q3 HE HI
  have B0 := Below.refl w.heap.size w
  clear h hi q1 q3 q2
  cases h4 : (t.kind != 4) <;> cases h5 : (t.kind != 5) <;> rw [h4, h5] at HE
  case true.true =>
    go_enter Tryz.func72, Tryz.ntmps72
    go_wp2_with fail
    go_ret
    exact ⟨by rw [unhide HE]; rfl, Below.refl _ _⟩
  all_goals
    go_enter Tryz.func72, Tryz.ntmps72
    go_wp2_with fail
    refine (unhide HI _ B0 kRpar).mono ?_
    rintro r w1 ⟨rfl, hb1⟩
    have B1 := B0.trans hb1
    dsimp only
    generalize see kRpar t = s1 at HE ⊢
    cases s1
    case true =>
      go_wp2_with fail
      go_ret
      exact ⟨by rw [unhide HE]; rfl, B1⟩
    go_wp2_with fail
    refine (unhide HI _ B1 kRbr).mono ?_
    rintro r w2 ⟨rfl, hb2⟩
    have B2 := B1.trans (hb2.mono B1.size)
    dsimp only
    generalize see kRbr t = s1 at HE ⊢
    cases s1
    case true =>
      go_wp2_with fail
      go_ret
      exact ⟨by rw [unhide HE]; rfl, B2⟩
    go_wp2_with fail
    refine (unhide HI _ B2 kTrue).mono ?_
    rintro r w3 ⟨rfl, hb3⟩
    have B3 := B2.trans (hb3.mono B2.size)
    dsimp only
    generalize see kTrue t = s1 at HE ⊢
    cases s1
    case true =>
      go_wp2_with fail
      go_ret
      exact ⟨by rw [unhide HE]; rfl, B3⟩
    go_wp2_with fail
    refine (unhide HI _ B3 kFalse).mono ?_
    rintro r w4 ⟨rfl, hb4⟩
    have B4 := B3.trans (hb4.mono B3.size)
    dsimp only
    generalize see kFalse t = s1 at HE ⊢
    cases s1
    all_goals
      go_wp2_with fail
      go_ret
      exact ⟨by rw [unhide HE]; rfl, B4⟩

end Go.Proofs.YtcehablmloleaaaGreatDoor

namespace Go.Proofs.YtcehablmloleaaaGreatDoor
open Go.RowKit
set_option linter.unusedVariables false

/-- how far the look for a word is -/
def MaI (T : List Tok) (wd : List UInt8) (lo : Nat) (R : Int) (w : World) (vo vd vi : Value) (wr : World) : Prop :=
  ∃ (k : Nat) (o d : Int), lo ≤ k ∧ k ≤ T.length ∧ vo = .int .i64 o ∧ vd = .int .i64 d ∧ vi = .int .i64 (k : Int) ∧ -(k : Int) ≤ d ∧ d ≤ k ∧ 1 - (k : Int) ≤ o ∧ o ≤ k + 1 ∧ matR wd (T.drop k) o d k = R ∧ Below w.heap.size w wr

set_option maxRecDepth 100000 in
set_option maxHeartbeats 6400000 in
theorem sMatch_any {w : World} {nb ga c : Nat} {T : List Tok} (h : TkM w nb ga c T) (hl : T.length ≤ 4000) (lo : Nat) (hlo : lo ≤ T.length) (wd : List UInt8) (wb : ByteArray) (hw : wb = ofL wd) :
    Calls Tryz.prog 55 #[.pointer (some ⟨nb, 0, none⟩), .int .i64 (lo : Int), .string wb] w fun r w' => r = .returned (.int .i64 (matR wd (T.drop lo) 1 0 lo)) ∧ Below w.heap.size w w' := by
  have HI := hide (fun (w' : World) (hb : Below w.heap.size w w') (i : Nat) (hi : i < T.length) (s : List UInt8) => is_any (h.below hb) i hi s (ofL s) rfl)
  have HA := hide (fun (w' : World) (hb : Below w.heap.size w w') => (h.below hb).at0)
  have HS := hide (show MaI T wd lo (matR wd (T.drop lo) 1 0 lo) w (.int .i64 1) (.int .i64 0) (.int .i64 (lo : Int)) w from ⟨lo, 1, 0, Nat.le_refl _, hlo, rfl, rfl, rfl, by omega, by omega, by omega, by omega, rfl, Below.refl _ _⟩)
  generalize matR wd (T.drop lo) 1 0 lo = R at HS ⊢
  subst hw
  clear h
  go_enter Tryz.func55, Tryz.ntmps55
  go_wp2_with fail
  go_loopw [7, 8, 9] (fun vo vd vi wr => MaI T wd lo R w vo vd vi wr) (fun _ _ vi _ => T.length - (intOf vi).toNat)
  case atStart => exact unhide HS
  case round =>
    clear HS
    obtain ⟨k, o, d, h1, h2, rfl, rfl, rfl, h3, h4, h5, h6, hR, B1⟩ := hrel
    have a0 := unhide HA wr B1
    by_cases hk : k < T.length
    · have ik : (k : Int) < (T.length : Int) := by omega
      have HD := hide (List.drop_eq_getElem_cons hk)
      have HR := hide hR
      have H1 := hide (And.intro h1 (And.intro h3 (And.intro h4 (And.intro h5 h6))))
      have ew : wrap64 ((k : Int) + 1) = (k : Int) + 1 := by simp [wrap64]; omega
      have ed : wrap64 (d + 1) = d + 1 := by simp [wrap64]; omega
      have ed2 : wrap64 (d - 1) = d - 1 := by simp [wrap64]; omega
      have eo : wrap64 (o + 1) = o + 1 := by simp [wrap64]; omega
      have eo2 : wrap64 (o - 1) = o - 1 := by simp [wrap64]; omega
      have HIk := hide (fun (w' : World) (hb : Below w.heap.size w w') (s : List UInt8) => unhide HI w' hb k hk s)
      have HF := hide (fun (o' d' : Int) (w' : World) (hb : Below w.heap.size w w') (hm : matR wd (T.drop (k + 1)) o' d' ((k : Int) + 1) = R) (e1 : d' = d ∨ d' = d + 1 ∨ d' = d - 1) (e2 : o' = o ∨ o' = o + 1 ∨ o' = o - 1) => show MaI T wd lo R w (.int .i64 o') (.int .i64 d') (.int .i64 ((k : Int) + 1)) w' from ⟨k + 1, o', d', by omega, by omega, rfl, rfl, by rw [Int.natCast_add]; rfl, by omega, by omega, by omega, by omega, by rw [Int.natCast_add]; exact hm, hb⟩)
      have HM : Hid (T.length - ((k : Int) + 1).toNat < T.length - (k : Int).toNat) := hide (by omega)
      generalize T[k] = t at HD HIk
      clear hR h1 h2 h3 h4 h5 h6 hk
      go_wp2_with fail
      refine (unhide HIk _ B1 kLpar).mono ?_
      rintro r w1 ⟨rfl, hb1⟩
      have B2 := B1.trans (hb1.mono B1.size)
      dsimp only
      cases s1 : see kLpar t
      case true =>
        have HN := hide (unhide HF o (d + 1) w1 B2 (by rw [← unhide HR, unhide HD, mat_open s1]) (by omega) (by omega))
        clear s1
        go_wp2_with fail
        exact ⟨by first | exact unhide HN | (rw [ed]; exact unhide HN) | (rw [ed2]; exact unhide HN) | (rw [eo]; exact unhide HN) | (rw [eo2]; exact unhide HN), unhide HM⟩
      have HS1 := hide s1
      clear s1
      go_wp2_with fail
      refine (unhide HIk _ B2 kRpar).mono ?_
      rintro r w2 ⟨rfl, hb2⟩
      have B3 := B2.trans (hb2.mono B2.size)
      dsimp only
      cases s2 : see kRpar t
      case true =>
        have HN := hide (unhide HF o (d - 1) w2 B3 (by rw [← unhide HR, unhide HD, mat_close s2]) (by omega) (by omega))
        clear s2
        go_wp2_with fail
        exact ⟨by first | exact unhide HN | (rw [ed]; exact unhide HN) | (rw [ed2]; exact unhide HN) | (rw [eo]; exact unhide HN) | (rw [eo2]; exact unhide HN), unhide HM⟩
      have HS2 := hide s2
      clear s2
      have HMR := hide (show matR wd (t :: T.drop (k + 1)) o d k = if d = 0 ∧ see kIf t = true then matR wd (T.drop (k + 1)) (o + 1) d (k + 1) else if d = 0 ∧ see wd t = true then (if o - 1 = 0 then (k : Int) else matR wd (T.drop (k + 1)) (o - 1) d (k + 1)) else matR wd (T.drop (k + 1)) o d (k + 1) by
        rw [matR, unhide HS1, unhide HS2, if_neg (by decide), if_neg (by decide)])
      cases hd : (d == 0)
      · have hd' : ¬ d = 0 := by simpa using hd
        have HN := hide (unhide HF o d w2 B3 (by rw [← unhide HR, unhide HD, unhide HMR, if_neg (fun e => hd' e.1), if_neg (fun e => hd' e.1)]) (by omega) (by omega))
        clear hd'
        go_wp2_with fail
        exact ⟨by first | exact unhide HN | (rw [ed]; exact unhide HN) | (rw [ed2]; exact unhide HN) | (rw [eo]; exact unhide HN) | (rw [eo2]; exact unhide HN), unhide HM⟩
      have hd' : d = 0 := by simpa using hd
      have HD0 := hide hd'
      clear hd'
      go_wp2_with fail
      refine (unhide HIk _ B3 kIf).mono ?_
      rintro r w3 ⟨rfl, hb3⟩
      have B4 := B3.trans (hb3.mono B3.size)
      dsimp only
      cases s3 : see kIf t
      case true =>
        have HN := hide (unhide HF (o + 1) d w3 B4 (by rw [← unhide HR, unhide HD, unhide HMR, if_pos ⟨unhide HD0, s3⟩]) (by omega) (by omega))
        clear s3
        go_wp2_with fail
        exact ⟨by first | exact unhide HN | (rw [ed]; exact unhide HN) | (rw [ed2]; exact unhide HN) | (rw [eo]; exact unhide HN) | (rw [eo2]; exact unhide HN), unhide HM⟩
      have HS3 := hide s3
      clear s3
      go_wp2_with fail
      refine (unhide HIk _ B4 wd).mono ?_
      rintro r w4 ⟨rfl, hb4⟩
      have B5 := B4.trans (hb4.mono B4.size)
      dsimp only
      have n3 : ¬ (d = 0 ∧ see kIf t = true) := fun e => by rw [unhide HS3] at e; cases e.2
      cases s4 : see wd t
      case false =>
        have HN := hide (unhide HF o d w4 B5 (by rw [← unhide HR, unhide HD, unhide HMR, if_neg n3, if_neg (fun e => by rw [s4] at e; cases e.2)]) (by omega) (by omega))
        clear s4 n3
        go_wp2_with fail
        exact ⟨by first | exact unhide HN | (rw [ed]; exact unhide HN) | (rw [ed2]; exact unhide HN) | (rw [eo]; exact unhide HN) | (rw [eo2]; exact unhide HN), unhide HM⟩
      cases ho : (o - 1 == 0)
      · have ho' : ¬ o - 1 = 0 := by simpa using ho
        have HN := hide (unhide HF (o - 1) d w4 B5 (by rw [← unhide HR, unhide HD, unhide HMR, if_neg n3, if_pos ⟨unhide HD0, s4⟩, if_neg ho']) (by omega) (by omega))
        clear s4 n3 ho'
        go_wp2_with fail
        exact ⟨by first | exact unhide HN | (rw [ed]; exact unhide HN) | (rw [ed2]; exact unhide HN) | (rw [eo]; exact unhide HN) | (rw [eo2]; exact unhide HN), unhide HM⟩
      · have ho' : o - 1 = 0 := by simpa using ho
        have HN := hide (show R = (k : Int) by rw [← unhide HR, unhide HD, unhide HMR, if_neg n3, if_pos ⟨unhide HD0, s4⟩, if_pos ho'])
        clear s4 n3 ho'
        go_wp2_with fail
        go_ret
        exact ⟨by rw [unhide HN]; rfl, B5⟩
    · have ik : ¬ ((k : Int) < (T.length : Int)) := by omega
      have HN := hide (show R = (T.length : Int) by rw [← hR, List.drop_eq_nil_of_le (by omega), matR]; omega)
      clear hR hk
      go_wp2_with fail
      go_ret
      exact ⟨by rw [unhide HN]; rfl, B1⟩

end Go.Proofs.YtcehablmloleaaaGreatDoor

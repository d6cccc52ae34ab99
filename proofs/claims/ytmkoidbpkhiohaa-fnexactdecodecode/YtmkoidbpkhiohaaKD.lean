/-
  The program's reader: texts. Own work.
-/
import Derived.Test.YtmkoidbpkhiohaaKC
import Derived.Laws.BytesArg
namespace Go.Proofs.Ytmkoidbpkhiohaa
open Go.RowKit
set_option linter.unusedVariables false

theorem conv_bys {w : World} {B n c : Nat} {a : Option Addr} {L : List Int} (h : Bys w B a n c L) : (convert 22 9 (.slice a n c)).run Try.prog w = .ok (.string (bstr L)) w := by
  have hl := h.len
  cases a with
  | none =>
    cases L with
    | nil =>
      have := run_convert_bytes_nil (P := Try.prog) w 22 5 Try.underlying22 Try.underlying5 n c 9 Try.underlying9
      rw [this]; rfl
    | cons x L =>
      obtain ⟨b, off, hn, _⟩ := h.cells 0 (by simp)
      cases hn
  | some ad =>
    cases L with
    | nil =>
      have hn : n = 0 := by simpa using hl.symm
      subst hn
      rw [run_convert_bytes_string _ _ _ _ _ _ _ Try.underlying22 Try.underlying5 Try.underlying9, run_bytesToString _ _ _ _ [] (by simp [loadCells, loadCellsFrom, go_sem])]
      rfl
    | cons x L =>
      obtain ⟨b, off, hn, _⟩ := h.cells 0 (by simp)
      cases hn
      refine run_convert_bytes_arg (P := Try.prog) w 22 5 Try.underlying22 Try.underlying5 b off n c (x :: L) hl (fun i hi => ?_) 9 Try.underlying9
      obtain ⟨b', off', hn', _, _, hc⟩ := h.cells i (by omega)
      cases hn'
      rw [hc]
      rw [List.getD, List.getElem?_eq_getElem (show i < (x :: L).length by omega)]
      rfl

theorem numF_short (L : List Int) (ok : okB L) (h : L.length ≤ 1) : 0 ≤ numF L ∧ numF L < 256 := by
  match L, h with
  | [], _ => exact ⟨by decide, by decide⟩
  | [x], _ =>
    have := ok x (List.mem_cons_self ..)
    rw [numF_one x this.1 this.2]; exact this

theorem numF_short2 (L : List Int) (ok : okB L) (h : L.length ≤ 2) : 0 ≤ numF L ∧ numF L < 65536 := by
  match L, h with
  | [], _ => exact ⟨by decide, by decide⟩
  | [x], _ =>
    have := ok x (List.mem_cons_self ..)
    rw [numF_one x this.1 this.2]; omega
  | [x, y], _ =>
    have a := ok x (List.mem_cons_self ..)
    have b := ok y (List.mem_cons_of_mem _ (List.mem_cons_self ..))
    rw [numF_two x y a b]; omega

theorem takeI_len (k : Nat) (s : Rs) : (takeI k s).1.length ≤ k := by
  unfold takeI; split <;> simp; omega

theorem takeI_ok (k : Nat) (s : Rs) (h : okB s.1) : okB (takeI k s).1 ∧ okB (takeI k s).2.1 := by
  unfold takeI; split
  · exact ⟨(fun x hx => by cases hx), h⟩
  · exact ⟨h.take k, h.drop k⟩

theorem num1_range (s : Rs) (h : okB s.1) : 0 ≤ (numI 1 s).1 ∧ (numI 1 s).1 < 256 := numF_short _ (takeI_ok 1 s h).1 (takeI_len 1 s)
theorem num2_range (s : Rs) (h : okB s.1) : 0 ≤ (numI 2 s).1 ∧ (numI 2 s).1 < 65536 := numF_short2 _ (takeI_ok 2 s h).1 (takeI_len 2 s)

theorem IRs.ok {w : World} {g : Nat} {h0 h1 h2 : Int} {s : Rs} (h : IRs w g h0 h1 h2 s) : okB s.1 := by
  obtain ⟨a, n, c, R⟩ := h; exact R.bys.ok

theorem takeI_int (g : Nat) (h0 h1 h2 : Int) (s : Rs) (x : Int) (w : World) (h : IRs w g h0 h1 h2 s) (hx : 0 ≤ x) (hk : x ≤ 65535) :
    Calls Try.prog 27 #[.pointer (some ⟨g, 0, none⟩), .int .i64 x] w fun e w' => TkAns w g h0 h1 h2 (takeI x.toNat s) e w' := by
  obtain ⟨k, rfl⟩ := Int.eq_ofNat_of_zero_le hx
  exact take_any g h0 h1 h2 s k w h (by omega)

theorem number_1 (g : Nat) (h0 h1 h2 : Int) (s : Rs) (w : World) (h : IRs w g h0 h1 h2 s) :
    Calls Try.prog 30 #[.pointer (some ⟨g, 0, none⟩), .int .i64 1] w fun e w' => NmAns w g h0 h1 h2 (numI 1 s) e w' := number_any' g h0 h1 h2 s 1 w h (by omega)
theorem number_2 (g : Nat) (h0 h1 h2 : Int) (s : Rs) (w : World) (h : IRs w g h0 h1 h2 s) :
    Calls Try.prog 30 #[.pointer (some ⟨g, 0, none⟩), .int .i64 2] w fun e w' => NmAns w g h0 h1 h2 (numI 2 s) e w' := number_any' g h0 h1 h2 s 2 w h (by omega)
theorem number_8 (g : Nat) (h0 h1 h2 : Int) (s : Rs) (w : World) (h : IRs w g h0 h1 h2 s) :
    Calls Try.prog 30 #[.pointer (some ⟨g, 0, none⟩), .int .i64 8] w fun e w' => NmAns w g h0 h1 h2 (numI 8 s) e w' := number_any' g h0 h1 h2 s 8 w h (by omega)

set_option maxHeartbeats 800000 in
theorem count_any' (g : Nat) (h0 h1 h2 : Int) (s : Rs) (w : World) (h : IRs w g h0 h1 h2 s) :
    Calls Try.prog 28 #[.pointer (some ⟨g, 0, none⟩)] w fun e w' => NmAns w g h0 h1 h2 (numI 2 s) e w' := by
  have HN := hide (number_2 g h0 h1 h2 s w h)
  have hr := num2_range s h.ok
  have hr0 := hr.1
  have hr1 := hr.2
  generalize numI 2 s = r at HN hr0 hr1
  clear hr
  go_enter Try.func28, Try.ntmps28
  go_wp2_with (go_at_call 30; refine (unhide HN).mono ?_; rintro e w1 ⟨rfl, hR, hT⟩)
  go_ret
  exact ⟨rfl, hR, hT⟩

def TxAns (w : World) (g : Nat) (h0 h1 h2 : Int) (r : ByteArray × Rs) (e : Ending) (w' : World) : Prop := e = .returned (.string r.1) ∧ IRs w' g h0 h1 h2 r.2 ∧ Touch g (g + 1) w w'

set_option maxHeartbeats 800000 in
theorem rtext_any (g : Nat) (h0 h1 h2 : Int) (s : Rs) (w : World) (h : IRs w g h0 h1 h2 s) :
    Calls Try.prog 42 #[.pointer (some ⟨g, 0, none⟩)] w fun e w' => TxAns w g h0 h1 h2 (textI s) e w' := by
  have HN := hide (number_1 g h0 h1 h2 s w h)
  have hr := num1_range s h.ok
  have hr0 := hr.1
  have hr1 := hr.2
  have HX := hide (show textI s = (bstr (takeI (numI 1 s).1.toNat (numI 1 s).2).1, (takeI (numI 1 s).1.toNat (numI 1 s).2).2) from rfl)
  generalize numI 1 s = r at HN HX hr0 hr1
  obtain ⟨k, s1⟩ := r
  simp only at hr0 hr1
  clear hr h
  go_enter Try.func42, Try.ntmps42
  go_wp2_with (first
    | (go_at_call 30; refine (unhide HN).mono ?_; rintro e w1 ⟨rfl, hR, hT⟩; simp only at hR)
    | (go_at_call 27; refine (takeI_int g h0 h1 h2 s1 k w1 hR (by omega) (by omega)).mono ?_; rintro e w2 ⟨a, n, c, rfl, hb, hR2, hT2⟩; have cv := conv_bys hb))
  go_ret
  rw [unhide HX]
  exact ⟨rfl, hR2, hT.trans hT2⟩

end Go.Proofs.Ytmkoidbpkhiohaa

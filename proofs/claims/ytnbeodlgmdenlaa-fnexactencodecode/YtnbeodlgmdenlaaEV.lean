/-
  The program's writer: a value. Own work.
-/
import Derived.Test.YtnbeodlgmdenlaaES
namespace Go.Proofs.Ytnbeodlgmdenlaa
open Go.RowKit Go.Lib
set_option linter.unusedVariables false

theorem rowV {w : World} {b : Nat} {v0 v1 v2 v3 : Value} {t : TypeId} (R : Row w b #[v0, v1, v2, v3] t) : w.cell? ⟨b, 0, none⟩ = some v0 ∧ w.cell? ⟨b, 1, none⟩ = some v1 ∧ w.cell? ⟨b, 2, none⟩ = some v2 ∧ w.cell? ⟨b, 3, none⟩ = some v3 :=
  ⟨by simpa using R.cell 0, by simpa using R.cell 1, by simpa using R.cell 2, by simpa using R.cell 3⟩

theorem Wr.alloc {w : World} {g : Nat} {h0 h1 h2 : Int} {v : Value} {O : List Int} (h : Wr w g h0 h1 h2 v O) (o : Obj) : Wr (w.alloc o) g h0 h1 h2 v O := ⟨h.row.alloc o, h.own.alloc o⟩

/-- a call over a world with one block more -/
theorem WK.from {g : Nat} {w w' : World} {v v' : Value} {o : Obj} (h : WK g (w.alloc o) v w' v') : WK g w v w' v' :=
  ⟨fun k hk hg hne => (h.1 k (by simp; omega) hg hne).trans (Below.heap_alloc w o k hk), fun q hq => by
    rcases h.2.1 q hq with e | e
    · exact .inl e
    · right; simp at e; omega, by have := h.2.2; simp at this; omega⟩

set_option maxRecDepth 100000 in
set_option maxHeartbeats 3200000 in
theorem value_any (g : Nat) (h0 h1 h2 : Int) (v : Value) (O : List Int) (x : Vl) (an : Option Addr) (nn cn : Nat) (w : World) (hw : Wr w g h0 h1 h2 v O) (hO : O.length ≤ 90000000) (hx : valB x = true) (w0 : World) (hN : Strs w0 an nn cn x.names) (hB : w0.heap.size ≤ g) (hb0 : Below w0.heap.size w0 w) (hs : x.text.size ≤ 1048576) :
    Calls Try.prog 36 #[.pointer (some ⟨g, 0, none⟩), .agg #[.int .i64 x.kind, .int .i64 x.num, .string x.text, .slice an nn cn]] w fun e w' => WrAns w g h0 h1 h2 v (O ++ valE x) e w' := by
  have W0 := hw.alloc (.cells #[.int .i64 x.kind, .int .i64 x.num, .string x.text, .slice an nn cn] 45)
  have R0 := Row.new w #[.int .i64 x.kind, .int .i64 x.num, .string x.text, .slice an nn cn] 45
  have hgl := hw.row.lt
  have hne : v.ownBlock ≠ some w.heap.size := fun e => by have := (hw.own.lt _ e).2; omega
  have hgo : ∀ q, v.ownBlock = some q → g < q := fun q hq => by have := (hw.own.lt q hq).1; omega
  have B0 := (Below.refl g w).alloc (by omega) (.cells #[.int .i64 x.kind, .int .i64 x.num, .string x.text, .slice an nn cn] 45)
  have Hx := hide hx
  have HV := hide (show valE x = beB x.kind 1 ++ (if x.kind = 1 then beB x.num 1 else if x.kind = 2 then beB x.num 8 else if x.kind = 3 then textB x.text else if x.kind = 4 then beB x.names.length 1 ++ x.names.flatMap textB else []) from rfl)
  have hl1 : (O ++ beB x.kind 1).length ≤ 90000001 := by rw [List.length_append, beB_len]; omega
  obtain ⟨O1, HO1⟩ : ∃ O1, Hid (O ++ beB x.kind 1 = O1) := ⟨_, hide rfl⟩
  rw [unhide HO1] at hl1
  rcases valB_kind hx with hk | hk | hk | hk
  · have HW := hide (show O ++ valE x = O1 ++ beB x.num 1 by rw [unhide HV, if_pos hk, ← List.append_assoc, unhide HO1])
    have e1 : (x.kind == 1) = true := beq_iff_eq.2 hk
    clear hx hk
    go_enter Try.func36, Try.ntmps36
    go_wp2_with (first
      | (go_at_call 37; refine (number_any g h0 h1 h2 v2 O1 _ 1 _ W2 (by omega) (by omega)).mono ?_; rintro e w3 ⟨rfl, v3, W3, K3, B3⟩)
      | (go_at_call 37; refine (number_any g h0 h1 h2 v O _ 1 _ W0 (by omega) (by omega)).mono ?_; rintro e w2 ⟨rfl, v2, W2, K2, B2⟩; rw [unhide HO1] at W2; obtain ⟨q0, q1, q2, q3⟩ := rowV (R0.wk K2 (by omega) hne)))
    exact bodyPost_end (by simp [results, Try.results36, go_sem]) rfl ⟨rfl, v3, by rw [unhide HW]; exact W3, (K2.trans K3).from, B0.trans (B2.trans B3)⟩
  · have HW := hide (show O ++ valE x = O1 ++ beB x.num 8 by rw [unhide HV, if_neg (by omega), if_pos hk, ← List.append_assoc, unhide HO1])
    have e1 : (x.kind == 1) = false := beq_eq_false_iff_ne.2 (by omega)
    have e2 : (x.kind == 2) = true := beq_iff_eq.2 hk
    clear hx hk
    go_enter Try.func36, Try.ntmps36
    go_wp2_with (first
      | (go_at_call 37; refine (number_any g h0 h1 h2 v2 O1 _ 8 _ W2 (by omega) (by omega)).mono ?_; rintro e w3 ⟨rfl, v3, W3, K3, B3⟩)
      | (go_at_call 37; refine (number_any g h0 h1 h2 v O _ 1 _ W0 (by omega) (by omega)).mono ?_; rintro e w2 ⟨rfl, v2, W2, K2, B2⟩; rw [unhide HO1] at W2; obtain ⟨q0, q1, q2, q3⟩ := rowV (R0.wk K2 (by omega) hne)))
    exact bodyPost_end (by simp [results, Try.results36, go_sem]) rfl ⟨rfl, v3, by rw [unhide HW]; exact W3, (K2.trans K3).from, B0.trans (B2.trans B3)⟩
  · have HW := hide (show O ++ valE x = O1 ++ textB x.text by rw [unhide HV, if_neg (by omega), if_neg (by omega), if_pos hk, ← List.append_assoc, unhide HO1])
    have e1 : (x.kind == 1) = false := beq_eq_false_iff_ne.2 (by omega)
    have e2 : (x.kind == 2) = false := beq_eq_false_iff_ne.2 (by omega)
    have e3 : (x.kind == 3) = true := beq_iff_eq.2 hk
    clear hx hk
    go_enter Try.func36, Try.ntmps36
    go_wp2_with (first
      | (go_at_call 48; refine (text_any g h0 h1 h2 v2 O1 _ _ W2 (by omega) hs).mono ?_; rintro e w3 ⟨rfl, v3, W3, K3, B3⟩)
      | (go_at_call 37; refine (number_any g h0 h1 h2 v O _ 1 _ W0 (by omega) (by omega)).mono ?_; rintro e w2 ⟨rfl, v2, W2, K2, B2⟩; rw [unhide HO1] at W2; obtain ⟨q0, q1, q2, q3⟩ := rowV (R0.wk K2 (by omega) hne)))
    exact bodyPost_end (by simp [results, Try.results36, go_sem]) rfl ⟨rfl, v3, by rw [unhide HW]; exact W3, (K2.trans K3).from, B0.trans (B2.trans B3)⟩
  · have HW := hide (show O ++ valE x = O1 ++ (beB x.names.length 1 ++ x.names.flatMap textB) by rw [unhide HV, if_neg (by omega), if_neg (by omega), if_neg (by omega), if_pos hk, ← List.append_assoc, unhide HO1])
    have e1 : (x.kind == 1) = false := beq_eq_false_iff_ne.2 (by omega)
    have e2 : (x.kind == 2) = false := beq_eq_false_iff_ne.2 (by omega)
    have e3 : (x.kind == 3) = false := beq_eq_false_iff_ne.2 (by omega)
    have e4 : (x.kind == 4) = true := beq_iff_eq.2 hk
    clear hx hk
    go_enter Try.func36, Try.ntmps36
    go_wp2_with (first
      | (go_at_call 37; refine (number_any g h0 h1 h2 v2 O1 _ 1 _ W2 (by omega) (by omega)).mono ?_; rintro e w3 ⟨rfl, v3, W3, K3, B3⟩; obtain ⟨p0, p1, p2, p3⟩ := rowV ((R0.wk K2 (by omega) hne).wk K3 (by omega) (fun e => by rcases K2.2.1 _ e with y | y; exact hne y; simp at y; omega)))
      | (go_at_call 37; refine (number_any g h0 h1 h2 v O _ 1 _ W0 (by omega) (by omega)).mono ?_; rintro e w2 ⟨rfl, v2, W2, K2, B2⟩; rw [unhide HO1] at W2; obtain ⟨q0, q1, q2, q3⟩ := rowV (R0.wk K2 (by omega) hne)))
    have KT := (K2.trans K3).from
    have BT := B0.trans (B2.trans B3)
    obtain ⟨O3, HO3⟩ : ∃ O3, Hid (O1 ++ beB (nn : Int) 1 = O3) := ⟨_, hide rfl⟩
    have hl3 : O3.length ≤ 90000002 := by rw [← unhide HO3, List.length_append, beB_len]; omega
    rw [unhide HO3] at W3
    have HR := hide (show O3 ++ (x.names.drop 0).flatMap textB = O ++ valE x by rw [unhide HW, List.drop_zero, ← unhide HO3, List.append_assoc, hN.len])
    have Hsz := hide (setB_sizes (show setB x.names = true by have := unhide Hx; unfold valB at this; simp [beq_iff_eq.1 e4] at this; exact this.1.1))
    have Hnl := hide hN.len
    have hn64 : nn ≤ 64 := by rw [hN.len]; exact (unhide Hsz).1
    clear K2 K3 B2 B3 W0 R0 W2 B0
    go_loopw [40] (fun i wr => ∃ (k : Nat) (v' : Value) (O' : List Int), k ≤ nn ∧ i = .int .i64 k ∧ Hid (O' ++ (x.names.drop k).flatMap textB = O ++ valE x) ∧ O'.length ≤ 90000002 + 33 * k ∧ Wr wr g h0 h1 h2 v' O' ∧ WK g w v wr v' ∧ Below g w wr) (fun i _ => nn - (intOf i).toNat)
    case atStart => exact ⟨0, v3, O3, Nat.zero_le _, rfl, HR, by omega, W3, KT, BT⟩
    case round =>
      obtain ⟨k, v', O', hk, rfl, HR, hOl, W4, K4, B4⟩ := hrel
      by_cases hlt : k < nn
      · have ilt : (k : Int) < (nn : Int) := by omega
        have hkl : k < x.names.length := by rw [← unhide Hnl]; exact hlt
        obtain ⟨b, off, rfl, _, hc⟩ := (hN.below (hb0.trans (B4.mono hB)) (Nat.le_refl _)).cells k hlt
        have hsk := (unhide Hsz).2 (nth x.names k) (by rw [nth_eq _ _ hkl]; exact List.getElem_mem hkl)
        have HR2 := hide (show (O' ++ textB (nth x.names k)) ++ (x.names.drop (k + 1)).flatMap textB = O ++ valE x by
          rw [← unhide HR, List.drop_eq_getElem_cons hkl, List.flatMap_cons, nth_eq _ _ hkl, List.append_assoc])
        have Hlt := hide hlt
        clear HR
        generalize nth x.names k = s at hc hsk HR2
        have hls : (O' ++ textB s).length ≤ 90000002 + 33 * (k + 1) := by rw [List.length_append, textB, List.length_append, beB_len, strB_len]; omega
        go_wp2_with (go_at_call 48; refine (text_any g h0 h1 h2 v' O' s _ W4 (by omega) (by omega)).mono ?_; rintro e w5 ⟨rfl, v5, W5, K5, B5⟩)
        go_roundw
        case rel => exact ⟨k + 1, v5, _, unhide Hlt, by go_num, HR2, hls, W5, K4.trans K5, B4.trans B5⟩
        case measure => have := unhide Hlt; simp [intOf]; omega
      · have e : k = nn := by omega
        subst e
        have HX := hide (show O' = O ++ valE x by
          have := unhide HR
          rw [List.drop_of_length_le (by rw [← unhide Hnl]; exact Nat.le_refl _)] at this
          simpa using this)
        go_wp2_with fail
        exact bodyPost_end (by simp [results, Try.results36, go_sem]) rfl ⟨rfl, v', by rw [← unhide HX]; exact W4, K4, B4⟩

end Go.Proofs.Ytnbeodlgmdenlaa

/-
  The program's writer: a code. Own work.
-/
import Derived.Test.YtnbeodlgmdenlaaEV
import Derived.Test.YtnbeodlgmdenlaaEM
namespace Go.Proofs.Ytnbeodlgmdenlaa
open Go.RowKit Go.Lib
set_option linter.unusedVariables false

theorem flat_take_succ {α : Type} (f : α → List Int) (L : List α) (k : Nat) (h : k < L.length) : (L.take (k + 1)).flatMap f = (L.take k).flatMap f ++ f L[k] := by
  rw [List.take_succ_eq_append_getElem h, List.flatMap_append]
  simp

theorem flat_len {α : Type} (f : α → List Int) (m : Nat) : ∀ (L : List α), (∀ x ∈ L, (f x).length ≤ m) → (L.flatMap f).length ≤ m * L.length
  | [], _ => by simp
  | x :: L, h => by
    have h1 := flat_len f m L (fun y hy => h y (List.mem_cons_of_mem _ hy))
    have h2 := h x (List.mem_cons_self ..)
    rw [List.flatMap_cons, List.length_append, List.length_cons, Nat.mul_succ]
    omega

theorem rowC {w : World} {b : Nat} {v0 v1 v2 : Value} {t : TypeId} (R : Row w b #[v0, v1, v2] t) : w.cell? ⟨b, 0, none⟩ = some v0 ∧ w.cell? ⟨b, 1, none⟩ = some v1 ∧ w.cell? ⟨b, 2, none⟩ = some v2 :=
  ⟨by simpa using R.cell 0, by simpa using R.cell 1, by simpa using R.cell 2⟩

theorem insE_len (i : Is1) : (insE i).length = 3 := by rw [insE, List.length_append, beB_len, beB_len]

set_option maxRecDepth 100000 in
set_option maxHeartbeats 6400000 in
theorem code_any (g : Nat) (h1 : Int) (v : Value) (a b : Option Addr) (n c m d : Nat) (P : List Vl) (I : List Is1) (w0 w : World) (hw : Wr w g n h1 m v []) (hV : Vls w0 a n c P) (hI : Iss w0 b m d I) (hB : w0.heap.size ≤ g) (hb0 : Below w0.heap.size w0 w) (hn : n ≤ 4000) (hm : m ≤ 20000) (hok : P.all valB = true) :
    Calls Try.prog 22 #[.pointer (some ⟨g, 0, none⟩), .agg #[.slice a n c, .int .i64 h1, .slice b m d]] w fun e w' => WrAns w g n h1 m v (codeE P h1 I) e w' := by
  obtain ⟨i, hi, hz0, hz1, hz2⟩ := info_parts infoB
  have W0 := hw.alloc (.cells #[.slice a n c, .int .i64 h1, .slice b m d] 32)
  have R0 := Row.new w #[.slice a n c, .int .i64 h1, .slice b m d] 32
  have hgl := hw.row.lt
  obtain ⟨x, cx, rfl⟩ := bytes_form hw.own
  have q3 := (hw.row.alloc (.cells #[.slice a n c, .int .i64 h1, .slice b m d] 32)).cell 3
  have f3 := (hw.row.alloc (.cells #[.slice a n c, .int .i64 h1, .slice b m d] 32)).frozen 3
  simp only [List.getElem?_toArray, List.getElem?_cons_succ, List.getElem?_cons_zero] at q3
  have hne : (Value.slice x ([] : List Int).length cx).ownBlock ≠ some w.heap.size := fun e => by have := (hw.own.lt _ e).2; omega
  have hgo : ∀ q, (Value.slice x ([] : List Int).length cx).ownBlock = some q → g + 1 ≤ q := fun q hq => (hw.own.lt q hq).1
  have B0 := (Below.refl g w).alloc (by omega) (.cells #[.slice a n c, .int .i64 h1, .slice b m d] 32)
  have HP := hide hV.len
  have HI := hide hI.len
  have HC := hide (show codeE P h1 I = [80, 76, 49] ++ beB n 2 ++ P.flatMap valE ++ beB h1 2 ++ beB m 2 ++ I.flatMap insE by rw [codeE, hV.len, hI.len])
  generalize codeE P h1 I = CE at HC ⊢
  generalize hW : w.alloc (.cells #[.slice a n c, .int .i64 h1, .slice b m d] 32) = Wo at W0 R0 B0 q3 f3
  have HWo := hide hW
  have hsW : Wo.heap.size = w.heap.size + 1 := by rw [← hW]; simp
  have HsW := hide hsW
  go_enter Try.func22, Try.ntmps22
  have ow : Wo.ownsRow (g + 1) 5 1 (.slice x 0 cx) 0 [] := W0.own
  have hgo0 : ∀ q, (Value.slice x 0 cx).ownBlock = some q → g + 1 ≤ q := hgo
  have hne0 : (Value.slice x 0 cx).ownBlock ≠ some w.heap.size := hne
  have hwid : g + 1 ≤ Wo.heap.size := by omega
  clear hsW
  go_wp2_with (first
    | (at_builtin; refine wpList_append_str_lies rfl _ _ 27 9 rfl (g + 1) 5 i Try.underlying27 Try.underlying9 hi hz0 hz1 hz2 (.slice x 0 cx) 0 [] rfl ow ⟨#[80, 76, 49]⟩ rfl (by decide) (by decide) hwid ?_; intro v1 w1 O1 hgrow hat; have R1 : Row w1 g #[.int .i64 n, .int .i64 h1, .int .i64 m, .slice x 0 cx] 57 := ⟨(hgrow.block g (by omega) (fun e => by have := hgo0 g e.symm; omega)).trans W0.row.out⟩; have C1 : Row w1 w.heap.size #[.slice a n c, .int .i64 h1, .slice b m d] 32 := ⟨(hgrow.block w.heap.size R0.lt (fun e => hne0 e.symm)).trans R0.out⟩; obtain ⟨t0, t1, t2, t3⟩ := rowV R1; have tf := R1.frozen 3; obtain ⟨x1, c1, hv1⟩ := bytes_form O1; subst hv1; have E1 := (B0.grown hgrow (by omega) (fun q hq => by have := hgo0 q hq; omega)).setCell (p := ⟨g, 3, none⟩) (Nat.le_refl _) (.slice x1 (0 + (⟨#[80, 76, 49]⟩ : ByteArray).size) c1); have K1 := wk_str (g := g) hgrow hat (.slice x1 (0 + (⟨#[80, 76, 49]⟩ : ByteArray).size) c1); have W1 : Wr (w1.setCell ⟨g, 3, none⟩ (.slice x1 (0 + (⟨#[80, 76, 49]⟩ : ByteArray).size) c1)) g n h1 m (.slice x1 (0 + (⟨#[80, 76, 49]⟩ : ByteArray).size) c1) [80, 76, 49] := ⟨R1.set 3 _, bytes_far O1⟩; have S1 := C1.setFar (p := ⟨g, 3, none⟩) (by show w.heap.size ≠ g; omega) (.slice x1 (0 + (⟨#[80, 76, 49]⟩ : ByteArray).size) c1)))
  have W1' : Wr (w1.setCell ⟨g, 3, none⟩ (.slice x1 3 c1)) g n h1 m (.slice x1 3 c1) [80, 76, 49] := W1
  have K1' : WK g Wo (.slice x 0 cx) (w1.setCell ⟨g, 3, none⟩ (.slice x1 3 c1)) (.slice x1 3 c1) := K1
  have E1' : Below g w (w1.setCell ⟨g, 3, none⟩ (.slice x1 3 c1)) := E1
  have S1' : Row (w1.setCell ⟨g, 3, none⟩ (.slice x1 3 c1)) w.heap.size #[.slice a n c, .int .i64 h1, .slice b m d] 32 := S1
  refine (count_any g n h1 m _ [80, 76, 49] n _ W1' (by decide)).mono ?_
  rintro e w2 ⟨rfl, v2, W2, K2, B2⟩
  have KT := K1'.trans K2
  have BT := E1'.trans B2
  obtain ⟨O2, HO2⟩ : ∃ O2, Hid ([80, 76, 49] ++ beB n 2 = O2) := ⟨_, hide rfl⟩
  have hl2 : O2.length ≤ 5 := by rw [← unhide HO2, List.length_append, beB_len]; exact Nat.le_refl _
  rw [unhide HO2] at W2
  clear W1 K1 E1 S1 W1' K1' E1' S1' K2 B2 O1 hgrow hat R1 C1 t0 t1 t2 t3 tf W0 ow hw q3 f3 i hi hz0 hz1 hz2
  have C2 := R0.wk KT (by omega) hne0
  obtain ⟨d0, d1, d2⟩ := rowC C2
  go_wp2_with fail
  go_loopw [26] (fun i wr => ∃ (k : Nat) (v' : Value) (O' : List Int), k ≤ n ∧ i = .int .i64 k ∧ Hid (O' = O2 ++ (P.take k).flatMap valE) ∧ O'.length ≤ 5 + 4000 * k ∧ Wr wr g n h1 m v' O' ∧ WK g Wo (.slice x 0 cx) wr v' ∧ Below g w wr) (fun i _ => n - (intOf i).toNat)
  case atStart => exact ⟨0, v2, O2, Nat.zero_le _, rfl, hide (by simp), by omega, W2, KT, BT⟩
  case round =>
    obtain ⟨k, v', O', hk, rfl, HO, hOl, W3, K3, B3⟩ := hrel
    have E0 := hb0.trans (B3.mono hB)
    by_cases hlt : k < n
    · have ilt : (k : Int) < (n : Int) := by omega
      have hkl : k < P.length := by rw [unhide HP]; exact hlt
      have hsz := hV.sizes P[k] (List.getElem_mem hkl)
      have hvb : valB P[k] = true := List.all_eq_true.1 hok _ (List.getElem_mem hkl)
      obtain ⟨b', off, rfl, hbl, an, nn, cn, c0', c1', c2', c3', hN⟩ := hV.cells k hkl
      have y0 := (E0.cell (p := ⟨b', off + k * 4, none⟩) hbl).trans c0'
      have y1 := (E0.cell (p := ⟨b', off + k * 4 + 1, none⟩) hbl).trans c1'
      have y2 := (E0.cell (p := ⟨b', off + k * 4 + 2, none⟩) hbl).trans c2'
      have y3 := (E0.cell (p := ⟨b', off + k * 4 + 3, none⟩) hbl).trans c3'
      have HS := hide (flat_take_succ valE P k hkl)
      have Hlt := hide hlt
      clear c0' c1' c2' c3'
      generalize P[k] = z at y0 y1 y2 y3 hsz hvb hN HS
      have W4 := W3.alloc (.cells #[.int .i64 z.kind, .int .i64 z.num, .string z.text, .slice an nn cn] 45)
      have hgl3 := W3.row.lt
      have A4 := (Below.refl g wr).alloc (by omega) (.cells #[.int .i64 z.kind, .int .i64 z.num, .string z.text, .slice an nn cn] 45)
      have D4 := E0.trans (A4.mono hB)
      have hl4 : (O' ++ valE z).length ≤ 5 + 4000 * (k + 1) := by rw [List.length_append]; have := valE_len hvb; omega
      have Hvb := hide hvb
      clear hvb
      go_wp2_with (go_at_call 36; refine (value_any g n h1 m v' O' z an nn cn _ W4 (by omega) (unhide Hvb) w0 hN hB D4 hsz).mono ?_; rintro e w5 ⟨rfl, v5, W5, K5, B5⟩)
      go_roundw
      case rel => exact ⟨k + 1, v5, _, unhide Hlt, by go_num, hide (by rw [unhide HS, unhide HO, List.append_assoc]), hl4, W5, K3.trans K5.from, B3.trans (A4.trans B5)⟩
      case measure => have := unhide Hlt; simp [intOf]; omega
    · have e : k = n := by omega
      subst e
      have HO3 := hide (show O' = O2 ++ P.flatMap valE by rw [unhide HO, List.take_of_length_le (by rw [unhide HP]; exact Nat.le_refl _)])
      clear HO C2 d0 d1 d2 W2 KT BT hV
      have C3 := R0.wk K3 (by omega) hne0
      obtain ⟨d0, d1, d2⟩ := rowC C3
      obtain ⟨t0, t1, t2, t3⟩ := rowV W3.row
      go_wp2_with fail
      refine (count_any g k h1 m v' O' h1 _ W3 (by omega)).mono ?_
      rintro e w4 ⟨rfl, v4, W4, K4, B4⟩
      have KT4 := K3.trans K4
      have BT4 := B3.trans B4
      obtain ⟨O4, HO4⟩ : ∃ O4, Hid (O' ++ beB h1 2 = O4) := ⟨_, hide rfl⟩
      have hl4 : O4.length ≤ 16000007 := by rw [← unhide HO4, List.length_append, beB_len]; omega
      rw [unhide HO4] at W4
      clear d0 d1 d2 t0 t1 t2 t3 W3 K3 B3 K4 B4 C3 E0
      obtain ⟨t0, t1, t2, t3⟩ := rowV W4.row
      go_wp2_with fail
      refine (count_any g k h1 m v4 O4 m _ W4 (by omega)).mono ?_
      rintro e w5 ⟨rfl, v5, W5, K5, B5⟩
      have KT5 := KT4.trans K5
      have BT5 := BT4.trans B5
      obtain ⟨O5, HO5⟩ : ∃ O5, Hid (O4 ++ beB (m : Int) 2 = O5) := ⟨_, hide rfl⟩
      have hl5 : O5.length ≤ 16000009 := by rw [← unhide HO5, List.length_append, beB_len]; omega
      rw [unhide HO5] at W5
      clear t0 t1 t2 t3 W4 KT4 BT4 K5 B5
      have C5 := R0.wk KT5 (by omega) hne0
      obtain ⟨d0, d1, d2⟩ := rowC C5
      go_wp2_with fail
      go_loopw [51] (fun i wr => ∃ (j : Nat) (v' : Value) (O' : List Int), j ≤ m ∧ i = .int .i64 j ∧ Hid (O' = O5 ++ (I.take j).flatMap insE) ∧ O'.length ≤ 16000009 + 3 * j ∧ Wr wr g k h1 m v' O' ∧ WK g Wo (.slice x 0 cx) wr v' ∧ Below g w wr) (fun i _ => m - (intOf i).toNat)
      case atStart => exact ⟨0, v5, O5, Nat.zero_le _, rfl, hide (by simp), by omega, W5, KT5, BT5⟩
      case round =>
        obtain ⟨j, v6, O6, hj, rfl, HO6, hOl6, W6, K6, B6⟩ := hrel
        have E6 := hb0.trans (B6.mono hB)
        clear C5 d0 d1 d2 W5 KT5 BT5
        by_cases hjl : j < m
        · have ijl : (j : Int) < (m : Int) := by omega
          have hkl : j < I.length := by rw [unhide HI]; exact hjl
          obtain ⟨b', off, rfl, hbl, c0', c1'⟩ := hI.cells j hkl
          have y0 := (E6.cell (p := ⟨b', off + j * 2, none⟩) hbl).trans c0'
          have y1 := (E6.cell (p := ⟨b', off + j * 2 + 1, none⟩) hbl).trans c1'
          have HS := hide (flat_take_succ insE I j hkl)
          have Hjl := hide hjl
          clear c0' c1'
          generalize I[j] = z at y0 y1 HS
          have W7 := W6.alloc (.cells #[.int .i64 z.op, .int .i64 z.arg] 50)
          have R7 := Row.new wr #[.int .i64 z.op, .int .i64 z.arg] 50
          have hgl6 := W6.row.lt
          have hne6 : v6.ownBlock ≠ some wr.heap.size := fun e => by have := (W6.own.lt _ e).2; omega
          have A7 := (Below.refl g wr).alloc (by omega) (.cells #[.int .i64 z.op, .int .i64 z.arg] 50)
          obtain ⟨O7, HO7⟩ : ∃ O7, Hid (O6 ++ beB z.op 1 = O7) := ⟨_, hide rfl⟩
          have hl7 : O7.length ≤ 16000009 + 3 * j + 1 := by rw [← unhide HO7, List.length_append, beB_len]; omega
          have HOn := hide (show O7 ++ beB z.arg 2 = O5 ++ (I.take (j + 1)).flatMap insE by rw [unhide HS, ← unhide HO7, unhide HO6, insE, List.append_assoc, List.append_assoc])
          have hl8 : (O7 ++ beB z.arg 2).length ≤ 16000009 + 3 * (j + 1) := by rw [List.length_append, beB_len]; omega
          go_wp2_with (first
            | (go_at_call 37; refine (number_any g k h1 m v6 O6 _ 1 _ W7 (by omega) (by omega)).mono ?_; rintro e w8 ⟨rfl, v8, W8, K8, B8⟩; rw [unhide HO7] at W8; have p1 := (R7.wk K8 (by omega) hne6).cell 1; simp only [List.getElem?_toArray, List.getElem?_cons_succ, List.getElem?_cons_zero] at p1)
            | (go_at_call 35; refine (count_any g k h1 m v8 O7 _ _ W8 (by omega)).mono ?_; rintro e w9 ⟨rfl, v9, W9, K9, B9⟩))
          go_roundw
          case rel => exact ⟨j + 1, v9, _, unhide Hjl, by go_num, HOn, hl8, W9, K6.trans (K8.trans K9).from, B6.trans (A7.trans (B8.trans B9))⟩
          case measure => have := unhide Hjl; simp [intOf]; omega
        · have e : j = m := by omega
          subst e
          have HX := hide (show O6 = CE by rw [unhide HC, unhide HO6, List.take_of_length_le (by rw [unhide HI]; exact Nat.le_refl _), ← unhide HO5, ← unhide HO4, unhide HO3, ← unhide HO2])
          go_wp2_with fail
          refine bodyPost_end (by simp [results, Try.results22, go_sem]) rfl ⟨rfl, v6, by rw [← unhide HX]; exact W6, ?_, B6⟩
          have := K6
          rw [← unhide HWo] at this
          exact this.from

end Go.Proofs.Ytnbeodlgmdenlaa

/-
  DrawParseAsk: a text, not too long. Own work.
-/
import Derived.Test.YtnahfogbemfngaaGreatDoorFX
import Derived.Test.YtnahfogbemfngaaGreatDoorFB
import Derived.Test.YtnahfogbemfngaaGreatDoorAR
import Derived.Deep.RegionHeld3
namespace Go.Proofs.YtnahfogbemfngaaGreatDoor
open Go.RowKit
set_option linter.unusedVariables false

theorem decB_len {n : Nat} (h : n ≤ 9999999) : (decB n).size ≤ 7 := by
  have := dec_len 6 n (by omega)
  simpa [decB, ByteArray.size] using this

theorem fmtB_small (cl us : ByteArray) (lv : Int) (ss : List ByteArray) : (fmtB cl us lv ss).size ≤ 3000 := by
  unfold fmtB
  split
  case isTrue h =>
    obtain ⟨z1, z2, l0, l1, hs⟩ := ask_parts h
    obtain ⟨n1, n2⟩ := set_small hs
    have z4 := joinB_size ⟨#[44]⟩ ss n2 rfl
    have z3 := decB_len (n := lv.toNat) (by omega)
    unfold fmtX
    simp only [size_app]
    have k1 : (⟨#[99, 108, 105, 101, 110, 116, 61]⟩ : ByteArray).size = 7 := rfl
    have k2 : (⟨#[32, 117, 115, 101, 114, 61]⟩ : ByteArray).size = 6 := rfl
    have k3 : (⟨#[32, 108, 101, 118, 101, 108, 61]⟩ : ByteArray).size = 7 := rfl
    have k4 : (⟨#[32, 97, 115, 107, 61]⟩ : ByteArray).size = 5 := rfl
    omega
  case isFalse => exact Nat.zero_le _

theorem conv1d (W : World) (x : Int) : (convert 22 9 (.slice (some ⟨W.heap.size, 0, none⟩) 1 1)).run Tryz.prog (W.alloc (.cells #[.int .u8 x] 5)).drew = .ok (.string (byte1 x)) (W.alloc (.cells #[.int .u8 x] 5)).drew := by
  rw [run_convert_bytes_string _ _ _ _ _ _ _ Tryz.underlying22 Tryz.underlying5 Tryz.underlying9]
  rw [run_bytesToString _ _ _ _ [x]]
  · rfl
  · have h : (W.alloc (.cells #[.int .u8 x] 5)).drew.cell? ⟨W.heap.size, 0, none⟩ = some (.int .u8 x) := by
      show (W.alloc (.cells #[.int .u8 x] 5)).cell? ⟨W.heap.size, 0, none⟩ = some (.int .u8 x)
      simp
    simp [loadCells, h, go_sem]

/-- how long a text is -/
def szOf : Value → Nat | .string s => s.size | _ => 0

/-- what DrawParseAsk answers -/
def DpAns (w : World) (e : Ending) (w' : World) : Prop := ∃ s : ByteArray, e = .returned (.string s) ∧ s.size ≤ 20000 ∧ Below w.heap.size w w'

set_option maxRecDepth 100000 in
set_option maxHeartbeats 12800000 in
theorem DrawParseAsk_any (a : Option Addr) (n c : Nat) (zs : List Int) (w : World) (h : BytesX w a n c zs) (hn : n ≤ 1048576) :
    Calls Tryz.prog 9 #[.slice a n c] w fun e w' => DpAns w e w' := by
  have h1 := RdX.new h hn
  have B1 := (Below.refl w.heap.size w).alloc (Nat.le_refl _) (.cells #[.slice a n c, .int .i64 0] 35)
  have z1 : (w.alloc (.cells #[.slice a n c, .int .i64 0] 35)).heap.size = w.heap.size + 1 := by simp
  go_enter Tryz.func9, Tryz.ntmps9
  go_wp2_with fail
  generalize w.alloc (.cells #[.slice a n c, .int .i64 0] 35) = w1 at h1 B1 z1 ⊢
  refine (next_x _ a n c zs 0 w1 h1).mono ?_
  rintro e w2 ⟨y, p2, rfl, _, y0, y1, h2, t2⟩
  have B2 := below_touch B1 t2 (Nat.le_refl _) B1.size
  have u2 := t2.size
  clear h1 t2 B1
  go_wp2_with fail
  refine (l1ask_x _ a n c zs p2 w2 h2).mono ?_
  rintro e w3 ⟨cl, us, lv, x, cx, K, q3, rfl, _, k1, k2, lv0, lv1, lK, N3, h3, t3⟩
  have B3 := below_touch B2 t3 (Nat.le_refl _) B2.size
  have u3 := t3.size
  clear h2 t3 B2
  have B34 := (Below.refl w3.heap.size w3).alloc (Nat.le_refl _) (.cells #[.string cl, .string us, .int .i64 lv, .slice x K.length cx] 25)
  have RA := Row.new w3 #[.string cl, .string us, .int .i64 lv, .slice x K.length cx] 25
  have z4 : (w3.alloc (.cells #[.string cl, .string us, .int .i64 lv, .slice x K.length cx] 25)).heap.size = w3.heap.size + 1 := by simp
  have N4 := N3.below B34 (Nat.le_refl _)
  have h4 := h3.after B34 h3.lt
  have B4 := B3.trans (B34.mono B3.size)
  have hcl : cl.size ≤ maxLen := by unfold maxLen; omega
  have hus : us.size ≤ maxLen := by unfold maxLen; omega
  clear B34 N3 h3 B3
  go_wp2_with fail
  generalize w3.alloc (.cells #[.string cl, .string us, .int .i64 lv, .slice x K.length cx] 25) = w4 at RA z4 N4 h4 B4 ⊢
  refine (sFormatAsk_any cl us lv _ _ _ K w4 hcl hus N4.strs).mono ?_
  rintro e w5 ⟨rfl, b5⟩
  have hf := fmtB_small cl us lv K
  generalize fmtB cl us lv K = s at hf ⊢
  have RA := RA.after b5 (Nat.le_refl _)
  have N5 := N4.below b5 (Nat.le_refl _)
  have h5 := h4.after b5 h4.lt
  have B5 := B4.trans (b5.mono B4.size)
  have u5 := b5.size
  clear N4 h4 B4 b5
  have k2 : (⟨#[44, 97]⟩ : ByteArray).size = 2 := rfl
  have k32 : (⟨#[44, 97, 45, 110, 97, 109, 101, 45, 116, 104, 97, 116, 45, 105, 115, 45, 111, 102, 45, 51, 48, 45, 98, 121, 116, 101, 115, 45, 108, 111, 110, 103]⟩ : ByteArray).size = 32 := rfl
  have k1' : (⟨#[97]⟩ : ByteArray).size = 1 := rfl
  by_cases e250 : y = 250
  · subst e250
    go_wp2_with fail
    go_loop [6, 7] (fun v i => ∃ (k : Nat) (t : ByteArray), 1 ≤ k ∧ k ≤ 400 ∧ i = .int .i64 k ∧ v = .string t ∧ t.size ≤ 29 + 2 * k) (fun _ i => 400 - (intOf i).toNat)
    case atStart => exact ⟨1, _, by omega, by omega, rfl, rfl, by decide⟩
    case round =>
      obtain ⟨k, t, hk0, hk, rfl, rfl, ht⟩ := hrel
      by_cases hlt : k < 400
      · have ilt : (k : Int) < 400 := by omega
        go_wp2_with fail
        go_round
        case rel => exact ⟨k + 1, _, by omega, by omega, by go_num, rfl, by rw [size_app]; omega⟩
        case measure => simp [intOf] <;> omega
      · have ilt : ¬ ((k : Int) < 400) := by omega
        go_wp2_with fail
        go_ret
        exact ⟨t, rfl, by omega, B5⟩
  by_cases e251 : y = 251
  · subst e251
    go_wp2_with fail
    go_loop [6, 7] (fun v i => ∃ (k : Nat) (t : ByteArray), 1 ≤ k ∧ k ≤ 401 ∧ i = .int .i64 k ∧ v = .string t ∧ t.size ≤ 29 + 2 * k) (fun _ i => 401 - (intOf i).toNat)
    case atStart => exact ⟨1, _, by omega, by omega, rfl, rfl, by decide⟩
    case round =>
      obtain ⟨k, t, hk0, hk, rfl, rfl, ht⟩ := hrel
      by_cases hlt : k < 401
      · have ilt : (k : Int) < 401 := by omega
        go_wp2_with fail
        go_round
        case rel => exact ⟨k + 1, _, by omega, by omega, by go_num, rfl, by rw [size_app]; omega⟩
        case measure => simp [intOf] <;> omega
      · have ilt : ¬ ((k : Int) < 401) := by omega
        go_wp2_with fail
        go_ret
        exact ⟨t, rfl, by omega, B5⟩
  by_cases e252 : y = 252
  · subst e252
    go_wp2_with fail
    go_loop [6] (fun v => ∃ (t : ByteArray), v = .string t ∧ t.size ≤ 4000) (fun v => 4000 - szOf v)
    case atStart => exact ⟨_, rfl, by decide⟩
    case round =>
      obtain ⟨t, rfl, ht⟩ := hrel
      by_cases hlt : t.size + 32 < 4000
      · have ilt : (t.size : Int) + 32 < 4000 := by omega
        go_wp2_with fail
        go_round
        case rel => exact ⟨_, rfl, by rw [size_app]; omega⟩
        case measure => simp only [szOf, size_app]; omega
      · have ilt : ¬ ((t.size : Int) + 32 < 4000) := by omega
        go_wp2_with fail
        go_loop [6] (fun v => ∃ (t : ByteArray), v = .string t ∧ t.size ≤ 4000) (fun v => 4000 - szOf v)
        case atStart => exact ⟨t, rfl, ht⟩
        case round =>
          obtain ⟨t2, rfl, ht2⟩ := hrel
          by_cases hlt2 : t2.size < 3998
          · have ilt2 : (t2.size : Int) < 3998 := by omega
            go_wp2_with fail
            go_round
            case rel => exact ⟨_, rfl, by rw [size_app]; omega⟩
            case measure => simp only [szOf, size_app]; omega
          · have ilt2 : ¬ ((t2.size : Int) < 3998) := by omega
            go_wp2_with fail
            go_loop [6] (fun v => ∃ (t : ByteArray), v = .string t ∧ t.size ≤ 4000) (fun v => 4000 - szOf v)
            case atStart => exact ⟨t2, rfl, by omega⟩
            case round =>
              obtain ⟨t3, rfl, ht3⟩ := hrel
              by_cases hlt3 : t3.size < 4000
              · have ilt3 : (t3.size : Int) < 4000 := by omega
                go_wp2_with fail
                go_round
                case rel => exact ⟨_, rfl, by rw [size_app]; omega⟩
                case measure => simp only [szOf, size_app]; omega
              · have ilt3 : ¬ ((t3.size : Int) < 4000) := by omega
                go_wp2_with fail
                go_ret
                exact ⟨t3, rfl, by omega, B5⟩
  by_cases e253 : y = 253
  · subst e253
    go_wp2_with fail
    go_loop [6] (fun v => ∃ (t : ByteArray), v = .string t ∧ t.size ≤ 4000) (fun v => 4000 - szOf v)
    case atStart => exact ⟨_, rfl, by decide⟩
    case round =>
      obtain ⟨t, rfl, ht⟩ := hrel
      by_cases hlt : t.size + 32 < 4000
      · have ilt : (t.size : Int) + 32 < 4000 := by omega
        go_wp2_with fail
        go_round
        case rel => exact ⟨_, rfl, by rw [size_app]; omega⟩
        case measure => simp only [szOf, size_app]; omega
      · have ilt : ¬ ((t.size : Int) + 32 < 4000) := by omega
        go_wp2_with fail
        go_loop [6] (fun v => ∃ (t : ByteArray), v = .string t ∧ t.size ≤ 4000) (fun v => 4000 - szOf v)
        case atStart => exact ⟨t, rfl, ht⟩
        case round =>
          obtain ⟨t2, rfl, ht2⟩ := hrel
          by_cases hlt2 : t2.size < 3998
          · have ilt2 : (t2.size : Int) < 3998 := by omega
            go_wp2_with fail
            go_round
            case rel => exact ⟨_, rfl, by rw [size_app]; omega⟩
            case measure => simp only [szOf, size_app]; omega
          · have ilt2 : ¬ ((t2.size : Int) < 3998) := by omega
            go_wp2_with fail
            go_loop [6] (fun v => ∃ (t : ByteArray), v = .string t ∧ t.size ≤ 4001) (fun v => 4001 - szOf v)
            case atStart => exact ⟨t2, rfl, by omega⟩
            case round =>
              obtain ⟨t3, rfl, ht3⟩ := hrel
              by_cases hlt3 : t3.size < 4001
              · have ilt3 : (t3.size : Int) < 4001 := by omega
                go_wp2_with fail
                go_round
                case rel => exact ⟨_, rfl, by rw [size_app]; omega⟩
                case measure => simp only [szOf, size_app]; omega
              · have ilt3 : ¬ ((t3.size : Int) < 4001) := by omega
                go_wp2_with fail
                go_ret
                exact ⟨t3, rfl, by omega, B5⟩
  have q0 : (y == 250) = false := beq_eq_false_iff_ne.2 e250
  have q1 : (y == 251) = false := beq_eq_false_iff_ne.2 e251
  have q2 : (y == 252) = false := beq_eq_false_iff_ne.2 e252
  have q3' : (y == 253) = false := beq_eq_false_iff_ne.2 e253
  clear e250 e251 e252 e253 k2 k32 k1'
  obtain ⟨c0, c1, c2, c3⟩ : w5.cell? ⟨w3.heap.size, 0, none⟩ = some (.string cl) ∧ w5.cell? ⟨w3.heap.size, 1, none⟩ = some (.string us) ∧ w5.cell? ⟨w3.heap.size, 2, none⟩ = some (.int .i64 lv) ∧ w5.cell? ⟨w3.heap.size, 3, none⟩ = some (.slice x K.length cx) :=
    ⟨by simpa using RA.cell 0, by simpa using RA.cell 1, by simpa using RA.cell 2, by simpa using RA.cell 3⟩
  by_cases e31 : y % 3 = 1 ∧ 0 < K.length
  · obtain ⟨e31, hK⟩ := e31
    have q31 : (y % 3 == 1) = true := beq_iff_eq.2 e31
    have iK : (0 : Int) < (K.length : Int) := by omega
    obtain ⟨b, off, ha, _, hc⟩ := N5.strs.at hK
    have hc0 := hc 0 hK
    rw [Nat.add_zero] at hc0
    have hz0 : (nth K 0).size ≤ 1000 := by rw [nth_eq K 0 hK]; exact N5.small _ (List.getElem_mem hK)
    generalize nth K 0 = k0 at hc0 hz0
    subst ha
    clear hc e31
    have bR : w.heap.size < b := by have := (N5.own.lt b rfl).1; omega
    have bl : b < w5.heap.size := (N5.own.lt b rfl).2
    have D5 : Below w5.heap.size w5 w5.drew := (Below.refl _ _).drew
    have hd := h5.after D5 h5.lt
    have m1 : w5.drew.cell? ⟨w3.heap.size, 3, none⟩ = some (.slice (some ⟨b, off, none⟩) K.length cx) := c3
    have m2 : w5.drew.cell? ⟨b, off, none⟩ = some (.string k0) := hc0
    have q1c : (⟨#[44]⟩ : ByteArray).size = 1 := rfl
    have a1 := addS (a := ⟨#[44]⟩) (b := k0) (by omega)
    have a2 := addS (a := (⟨#[44]⟩ : ByteArray) ++ k0) (b := ⟨#[44]⟩) (by rw [size_app]; omega)
    go_wp2_with fail
    go_region_held3 (fun w' => w'.cell? ⟨w3.heap.size, 3, none⟩ = some (.slice (some ⟨b, off, none⟩) K.length cx) ∧ w'.cell? ⟨b, off, none⟩ = some (.string k0)) (first | assumption | go_keep)
      ((go_at_call 25; refine (l1word_x _ a n c zs q3 _ hd).mono ?_; rintro e w6 ⟨v, q6, rfl, _, kv, h6, t6⟩; have qq : w6.cell? ⟨w3.heap.size, 3, none⟩ = some (.slice (some ⟨b, off, none⟩) K.length cx) ∧ w6.cell? ⟨b, off, none⟩ = some (.string k0) := ⟨(World.cell?_of_block (t6.block w3.heap.size (by show w3.heap.size < w5.heap.size; omega) (.inr (by omega)))).trans m1, (World.cell?_of_block (t6.block b bl (.inr (by omega)))).trans m2⟩; have a3 := addS (a := (⟨#[44]⟩ : ByteArray) ++ k0 ++ ⟨#[44]⟩) (b := v) (by rw [size_app, size_app]; omega); have a4 := addS (a := s) (b := (⟨#[44]⟩ : ByteArray) ++ k0 ++ ⟨#[44]⟩ ++ v) (by rw [size_app, size_app, size_app]; omega)))
    have B6 := below_touch (B5.trans (D5.mono B5.size)) t6 (Nat.le_refl _) (by show w.heap.size ≤ w5.heap.size; omega)
    have z6 : (s ++ ((⟨#[44]⟩ : ByteArray) ++ k0 ++ ⟨#[44]⟩ ++ v)).size ≤ 6000 := by rw [size_app, size_app, size_app, size_app]; omega
    generalize s ++ ((⟨#[44]⟩ : ByteArray) ++ k0 ++ ⟨#[44]⟩ ++ v) = s2 at z6 ⊢
    clear a1 a2 a3 a4 qq m1 m2 hd t6 c0 c1 c2 c3 hc0 D5
    by_cases e5 : y % 5 = 4
    · have q5 : (y % 5 == 4) = true := beq_iff_eq.2 e5
      clear e5
      go_wp2_with fail
      refine (next_x _ a n c zs q6 w6 h6).mono ?_
      rintro e w7 ⟨v1, p7, rfl, _, v10, v11, h7, t7⟩
      have B7 := below_touch B6 t7 (Nat.le_refl _) B6.size
      have d0 : (0 : Int) < (s2.size : Int) + 1 := by omega
      have d1 : 0 ≤ v1 % ((s2.size : Int) + 1) := Int.emod_nonneg _ (by omega)
      have d2 : v1 % ((s2.size : Int) + 1) ≤ (s2.size : Int) := by have := Int.emod_lt_of_pos v1 d0; omega
      clear t7 h6 B6
      go_wp2_with fail
      refine (next_x _ a n c zs p7 w7 h7).mono ?_
      rintro e w8 ⟨v2, p8, rfl, _, v20, v21, h8, t8⟩
      have B8 := below_touch B7 t8 (Nat.le_refl _) B7.size
      clear t8 h7 B7 h8
      generalize v1 % ((s2.size : Int) + 1) = at1 at d1 d2 ⊢
      obtain ⟨j, rfl⟩ := Int.eq_ofNat_of_zero_le d1
      have hj : j ≤ s2.size := by omega
      have x1 : (s2.extract 0 j).size ≤ 6000 := by rw [ByteArray.size_extract]; omega
      have x2 : (s2.extract j s2.size).size ≤ 6000 := by rw [ByteArray.size_extract]; omega
      have x3 : (s2.extract (j + 1) s2.size).size ≤ 6000 := by rw [ByteArray.size_extract]; omega
      have q1c : (⟨#[44]⟩ : ByteArray).size = 1 := rfl
      by_cases f1 : v2 % 4 = 1
      · have r0 : (v2 % 4 == 0) = false := beq_eq_false_iff_ne.2 (by omega)
        have r1 : (v2 % 4 == 1) = true := beq_iff_eq.2 f1
        clear f1
        go_wp2_with fail
        go_ret
        exact ⟨_, rfl, by omega, B8⟩
      by_cases f2 : v2 % 4 = 2
      · have r0 : (v2 % 4 == 0) = false := beq_eq_false_iff_ne.2 (by omega)
        have r1 : (v2 % 4 == 1) = false := beq_eq_false_iff_ne.2 (by omega)
        have r2 : (v2 % 4 == 2) = true := beq_iff_eq.2 f2
        clear f1 f2
        by_cases hjl : j < s2.size
        · have ij : (j : Int) < (s2.size : Int) := by omega
          have a5 := addS (a := s2.extract 0 j) (b := s2.extract (j + 1) s2.size) (by omega)
          go_wp2_with fail
          go_quiet (fail)
          go_wp2_with fail
          go_ret
          exact ⟨_, rfl, by rw [size_app]; omega, below_drewN B8 _⟩
        · have ij : ¬ ((j : Int) < (s2.size : Int)) := by omega
          go_wp2_with fail
          go_ret
          exact ⟨_, rfl, by omega, B8⟩
      by_cases f3 : v2 % 4 = 3
      · have r0 : (v2 % 4 == 0) = false := beq_eq_false_iff_ne.2 (by omega)
        have r1 : (v2 % 4 == 1) = false := beq_eq_false_iff_ne.2 (by omega)
        have r2 : (v2 % 4 == 2) = false := beq_eq_false_iff_ne.2 (by omega)
        clear f1 f2 f3
        go_wp2_with fail
        go_ret
        exact ⟨_, rfl, by rw [size_app]; omega, B8⟩
      have r0 : (v2 % 4 == 0) = true := beq_iff_eq.2 (by omega)
      clear f1 f2 f3
      have hcv := conv1d
      have k5 : (⟨#[32, 44, 61, 48, 97]⟩ : ByteArray).size = 5 := rfl
      have j5 : v2 / 4 % 5 < 5 := by omega
      have j6 : 0 ≤ v2 / 4 % 5 := by omega
      have a6 := fun z => addS (a := s2.extract 0 j) (b := byte1 z) (by rw [byte1_size]; omega)
      have a7 := fun z => addS (a := s2.extract 0 j ++ byte1 z) (b := s2.extract j s2.size) (by rw [size_app, byte1_size]; omega)
      go_wp2_with fail
      go_region
      go_wp2_with fail
      go_ret
      exact ⟨_, rfl, by rw [size_app, size_app, byte1_size]; omega, below_drewN (B8.alloc B8.size _) 1⟩
    · have q5 : (y % 5 == 4) = false := beq_eq_false_iff_ne.2 e5
      clear e5
      go_wp2_with fail
      go_ret
      exact ⟨s2, rfl, by omega, B6⟩
  · have z6 : s.size ≤ 6000 := by omega
    by_cases e3 : y % 3 = 1
    · have q31 : (y % 3 == 1) = true := beq_iff_eq.2 e3
      have iK : ¬ ((0 : Int) < (K.length : Int)) := by omega
      clear e3 e31
      generalize s = s2 at z6 ⊢
      by_cases e5 : y % 5 = 4
      · have q5 : (y % 5 == 4) = true := beq_iff_eq.2 e5
        clear e5
        go_wp2_with fail
        refine (next_x _ a n c zs q3 w5 h5).mono ?_
        rintro e w7 ⟨v1, p7, rfl, _, v10, v11, h7, t7⟩
        have B7 := below_touch B5 t7 (Nat.le_refl _) B5.size
        have d0 : (0 : Int) < (s2.size : Int) + 1 := by omega
        have d1 : 0 ≤ v1 % ((s2.size : Int) + 1) := Int.emod_nonneg _ (by omega)
        have d2 : v1 % ((s2.size : Int) + 1) ≤ (s2.size : Int) := by have := Int.emod_lt_of_pos v1 d0; omega
        clear t7 h5 B5
        go_wp2_with fail
        refine (next_x _ a n c zs p7 w7 h7).mono ?_
        rintro e w8 ⟨v2, p8, rfl, _, v20, v21, h8, t8⟩
        have B8 := below_touch B7 t8 (Nat.le_refl _) B7.size
        clear t8 h7 B7 h8
        generalize v1 % ((s2.size : Int) + 1) = at1 at d1 d2 ⊢
        obtain ⟨j, rfl⟩ := Int.eq_ofNat_of_zero_le d1
        have hj : j ≤ s2.size := by omega
        have x1 : (s2.extract 0 j).size ≤ 6000 := by rw [ByteArray.size_extract]; omega
        have x2 : (s2.extract j s2.size).size ≤ 6000 := by rw [ByteArray.size_extract]; omega
        have x3 : (s2.extract (j + 1) s2.size).size ≤ 6000 := by rw [ByteArray.size_extract]; omega
        have q1c : (⟨#[44]⟩ : ByteArray).size = 1 := rfl
        by_cases f1 : v2 % 4 = 1
        · have r0 : (v2 % 4 == 0) = false := beq_eq_false_iff_ne.2 (by omega)
          have r1 : (v2 % 4 == 1) = true := beq_iff_eq.2 f1
          clear f1
          go_wp2_with fail
          go_ret
          exact ⟨_, rfl, by omega, B8⟩
        by_cases f2 : v2 % 4 = 2
        · have r0 : (v2 % 4 == 0) = false := beq_eq_false_iff_ne.2 (by omega)
          have r1 : (v2 % 4 == 1) = false := beq_eq_false_iff_ne.2 (by omega)
          have r2 : (v2 % 4 == 2) = true := beq_iff_eq.2 f2
          clear f1 f2
          by_cases hjl : j < s2.size
          · have ij : (j : Int) < (s2.size : Int) := by omega
            have a5 := addS (a := s2.extract 0 j) (b := s2.extract (j + 1) s2.size) (by omega)
            go_wp2_with fail
            go_quiet (fail)
            go_wp2_with fail
            go_ret
            exact ⟨_, rfl, by rw [size_app]; omega, below_drewN B8 _⟩
          · have ij : ¬ ((j : Int) < (s2.size : Int)) := by omega
            go_wp2_with fail
            go_ret
            exact ⟨_, rfl, by omega, B8⟩
        by_cases f3 : v2 % 4 = 3
        · have r0 : (v2 % 4 == 0) = false := beq_eq_false_iff_ne.2 (by omega)
          have r1 : (v2 % 4 == 1) = false := beq_eq_false_iff_ne.2 (by omega)
          have r2 : (v2 % 4 == 2) = false := beq_eq_false_iff_ne.2 (by omega)
          clear f1 f2 f3
          go_wp2_with fail
          go_ret
          exact ⟨_, rfl, by rw [size_app]; omega, B8⟩
        have r0 : (v2 % 4 == 0) = true := beq_iff_eq.2 (by omega)
        clear f1 f2 f3
        have hcv := conv1d
        have k5 : (⟨#[32, 44, 61, 48, 97]⟩ : ByteArray).size = 5 := rfl
        have j5 : v2 / 4 % 5 < 5 := by omega
        have j6 : 0 ≤ v2 / 4 % 5 := by omega
        have a6 := fun z => addS (a := s2.extract 0 j) (b := byte1 z) (by rw [byte1_size]; omega)
        have a7 := fun z => addS (a := s2.extract 0 j ++ byte1 z) (b := s2.extract j s2.size) (by rw [size_app, byte1_size]; omega)
        go_wp2_with fail
        go_region
        go_wp2_with fail
        go_ret
        exact ⟨_, rfl, by rw [size_app, size_app, byte1_size]; omega, below_drewN (B8.alloc B8.size _) 1⟩
      · have q5 : (y % 5 == 4) = false := beq_eq_false_iff_ne.2 e5
        clear e5
        go_wp2_with fail
        go_ret
        exact ⟨s2, rfl, by omega, B5⟩
    · have q31 : (y % 3 == 1) = false := beq_eq_false_iff_ne.2 e3
      clear e3 e31
      generalize s = s2 at z6 ⊢
      by_cases e5 : y % 5 = 4
      · have q5 : (y % 5 == 4) = true := beq_iff_eq.2 e5
        clear e5
        go_wp2_with fail
        refine (next_x _ a n c zs q3 w5 h5).mono ?_
        rintro e w7 ⟨v1, p7, rfl, _, v10, v11, h7, t7⟩
        have B7 := below_touch B5 t7 (Nat.le_refl _) B5.size
        have d0 : (0 : Int) < (s2.size : Int) + 1 := by omega
        have d1 : 0 ≤ v1 % ((s2.size : Int) + 1) := Int.emod_nonneg _ (by omega)
        have d2 : v1 % ((s2.size : Int) + 1) ≤ (s2.size : Int) := by have := Int.emod_lt_of_pos v1 d0; omega
        clear t7 h5 B5
        go_wp2_with fail
        refine (next_x _ a n c zs p7 w7 h7).mono ?_
        rintro e w8 ⟨v2, p8, rfl, _, v20, v21, h8, t8⟩
        have B8 := below_touch B7 t8 (Nat.le_refl _) B7.size
        clear t8 h7 B7 h8
        generalize v1 % ((s2.size : Int) + 1) = at1 at d1 d2 ⊢
        obtain ⟨j, rfl⟩ := Int.eq_ofNat_of_zero_le d1
        have hj : j ≤ s2.size := by omega
        have x1 : (s2.extract 0 j).size ≤ 6000 := by rw [ByteArray.size_extract]; omega
        have x2 : (s2.extract j s2.size).size ≤ 6000 := by rw [ByteArray.size_extract]; omega
        have x3 : (s2.extract (j + 1) s2.size).size ≤ 6000 := by rw [ByteArray.size_extract]; omega
        have q1c : (⟨#[44]⟩ : ByteArray).size = 1 := rfl
        by_cases f1 : v2 % 4 = 1
        · have r0 : (v2 % 4 == 0) = false := beq_eq_false_iff_ne.2 (by omega)
          have r1 : (v2 % 4 == 1) = true := beq_iff_eq.2 f1
          clear f1
          go_wp2_with fail
          go_ret
          exact ⟨_, rfl, by omega, B8⟩
        by_cases f2 : v2 % 4 = 2
        · have r0 : (v2 % 4 == 0) = false := beq_eq_false_iff_ne.2 (by omega)
          have r1 : (v2 % 4 == 1) = false := beq_eq_false_iff_ne.2 (by omega)
          have r2 : (v2 % 4 == 2) = true := beq_iff_eq.2 f2
          clear f1 f2
          by_cases hjl : j < s2.size
          · have ij : (j : Int) < (s2.size : Int) := by omega
            have a5 := addS (a := s2.extract 0 j) (b := s2.extract (j + 1) s2.size) (by omega)
            go_wp2_with fail
            go_quiet (fail)
            go_wp2_with fail
            go_ret
            exact ⟨_, rfl, by rw [size_app]; omega, below_drewN B8 _⟩
          · have ij : ¬ ((j : Int) < (s2.size : Int)) := by omega
            go_wp2_with fail
            go_ret
            exact ⟨_, rfl, by omega, B8⟩
        by_cases f3 : v2 % 4 = 3
        · have r0 : (v2 % 4 == 0) = false := beq_eq_false_iff_ne.2 (by omega)
          have r1 : (v2 % 4 == 1) = false := beq_eq_false_iff_ne.2 (by omega)
          have r2 : (v2 % 4 == 2) = false := beq_eq_false_iff_ne.2 (by omega)
          clear f1 f2 f3
          go_wp2_with fail
          go_ret
          exact ⟨_, rfl, by rw [size_app]; omega, B8⟩
        have r0 : (v2 % 4 == 0) = true := beq_iff_eq.2 (by omega)
        clear f1 f2 f3
        have hcv := conv1d
        have k5 : (⟨#[32, 44, 61, 48, 97]⟩ : ByteArray).size = 5 := rfl
        have j5 : v2 / 4 % 5 < 5 := by omega
        have j6 : 0 ≤ v2 / 4 % 5 := by omega
        have a6 := fun z => addS (a := s2.extract 0 j) (b := byte1 z) (by rw [byte1_size]; omega)
        have a7 := fun z => addS (a := s2.extract 0 j ++ byte1 z) (b := s2.extract j s2.size) (by rw [size_app, byte1_size]; omega)
        go_wp2_with fail
        go_region
        go_wp2_with fail
        go_ret
        exact ⟨_, rfl, by rw [size_app, size_app, byte1_size]; omega, below_drewN (B8.alloc B8.size _) 1⟩
      · have q5 : (y % 5 == 4) = false := beq_eq_false_iff_ne.2 e5
        clear e5
        go_wp2_with fail
        go_ret
        exact ⟨s2, rfl, by omega, B5⟩

end Go.Proofs.YtnahfogbemfngaaGreatDoor

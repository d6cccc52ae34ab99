/-
  The walk over the model's l2one: signs. Own work.
-/
import Derived.Test.YtcehablmloleaaaGreatDoorMXAN
import Derived.Lib.SmallJoins
namespace Go.Proofs.YtcehablmloleaaaGreatDoor
open Go.RowKit
set_option linter.unusedVariables false

/-- bytes as cells -/
def bytesV (L : List UInt8) : Array Value := (L.map fun c => Value.int .u8 (c.toNat : Int)).toArray

theorem bytesV_at {L : List UInt8} {k : Nat} {x : UInt8} (h : L[k]? = some x) : (bytesV L)[k]? = some (.int .u8 (x.toNat : Int)) := by
  simp [bytesV, h]

def noByte (L : List UInt8) (k : Nat) (c : UInt8) : Prop := ∀ i, i < k → L[i]? ≠ some c

theorem noByte.next {L : List UInt8} {k : Nat} {c x : UInt8} (h : noByte L k c) (hx : L[k]? = some x) (hn : ((c.toNat : Int) == (x.toNat : Int)) = false) : noByte L (k + 1) c := fun i hi e => by
  by_cases hk : i = k
  · subst hk; rw [hx] at e
    rw [beq_eq_false_iff_ne] at hn
    exact hn (by rw [Option.some.inj e])
  · exact h i (by omega) e

theorem noByte.all {L : List UInt8} {c : UInt8} (h : noByte L L.length c) : L.contains c = false := by
  rw [← Bool.not_eq_true, List.contains_iff_mem]
  intro hm
  obtain ⟨i, hi, e⟩ := List.getElem_of_mem hm
  exact h i hi (by rw [List.getElem?_eq_getElem hi, e])

theorem byte_hit {L : List UInt8} {k : Nat} {c x : UInt8} (hx : L[k]? = some x) (hn : ((c.toNat : Int) == (x.toNat : Int)) = true) : L.contains c = true := by
  rw [beq_iff_eq] at hn
  have e : c = x := UInt8.toNat_inj.1 (by omega)
  rw [e, List.contains_iff_mem]; exact List.mem_of_getElem? hx

theorem two_short {s : ByteArray} {j : Nat} (h : ¬ j + 1 < s.size) : signs2.contains (((toL s).drop j).take 2) = false := by
  rw [← Bool.not_eq_true, List.contains_iff_mem]
  intro hm
  have hl : (((toL s).drop j).take 2).length ≤ 1 := by rw [List.length_take, List.length_drop, toL_size]; omega
  have : ∀ x ∈ signs2, x.length = 2 := by decide
  have := this _ hm
  omega

theorem one_take {s : ByteArray} {j : Nat} (h : j < s.size) : s.extract j (j + 1) = ofL [s[j]] := by
  rw [ext_ofL, drop_cons s j h, show j + 1 - j = 1 by omega]; rfl

set_option maxRecDepth 100000 in
set_option maxHeartbeats 6400000 in
theorem l2one_sign (s : ByteArray) (j : Nat) (w : World) (hs : s.size ≤ 1048576) (hj : j < s.size) (hl : ltI (s[j].toNat : Int) = false) (hd : dgI (s[j].toNat : Int) = false) (hq : ¬ (s[j].toNat : Int) = 34) :
    Calls Tryz.prog 28 #[.string s, .int .i64 j] w fun e w' => onAns j (oneSign s[j] ((toL s).drop j)) e ∧ Below w.heap.size w w' := by
  have ij : (j : Int) < (s.size : Int) := by omega
  have eq := beq_eq_false_iff_ne.2 hq
  obtain ⟨W, hW, R0, R1, B0, z0⟩ := one_start w j
  have Hl := hide hl
  have Hd := hide hd
  clear hl hd
  obtain ⟨c0, c1, c2, c3, cf⟩ := row4 R1
  have P1 := R1.set 0 (.int .i64 5)
  have P0 := R0.setFar (p := ⟨w.heap.size + 1, 0, none⟩) (by show w.heap.size ≠ w.heap.size + 1; omega) (.int .i64 5)
  have PB := B0.setCell (p := ⟨w.heap.size + 1, 0, none⟩) (by show w.heap.size ≤ w.heap.size + 1; omega) (.int .i64 5)
  have pz : (W.setCell ⟨w.heap.size + 1, 0, none⟩ (.int .i64 5)).heap.size = w.heap.size + 2 := by simp [z0]
  simp only [List.setIfInBounds_toArray, List.set_cons_zero] at P1
  by_cases h2 : j + 1 < s.size
  · have i2 : (j : Int) + 1 < (s.size : Int) := by omega
    have i3 : (j : Int) + 2 ≤ (s.size : Int) := by omega
    have S0 := P0.alloc (.cells #[.string ⟨#[61, 62]⟩, .string ⟨#[61, 61]⟩, .string ⟨#[33, 61]⟩, .string ⟨#[60, 61]⟩] 9)
    have S1 := P1.alloc (.cells #[.string ⟨#[61, 62]⟩, .string ⟨#[61, 61]⟩, .string ⟨#[33, 61]⟩, .string ⟨#[60, 61]⟩] 9)
    have SB := PB.alloc (by omega) (.cells #[.string ⟨#[61, 62]⟩, .string ⟨#[61, 61]⟩, .string ⟨#[33, 61]⟩, .string ⟨#[60, 61]⟩] 9)
    have SS : Row ((W.setCell ⟨w.heap.size + 1, 0, none⟩ (.int .i64 5)).alloc (.cells #[.string ⟨#[61, 62]⟩, .string ⟨#[61, 61]⟩, .string ⟨#[33, 61]⟩, .string ⟨#[60, 61]⟩] 9)) (W.setCell ⟨w.heap.size + 1, 0, none⟩ (.int .i64 5)).heap.size (textsV signs2) 9 := Row.new (W.setCell ⟨w.heap.size + 1, 0, none⟩ (.int .i64 5)) (textsV signs2) 9
    rw [pz] at SS
    have sz : ((W.setCell ⟨w.heap.size + 1, 0, none⟩ (.int .i64 5)).alloc (.cells #[.string ⟨#[61, 62]⟩, .string ⟨#[61, 61]⟩, .string ⟨#[33, 61]⟩, .string ⟨#[60, 61]⟩] 9)).heap.size = w.heap.size + 3 := by rw [World.size_alloc, pz]
    go_enter Tryz.func28, Tryz.ntmps28
    go_wp2_with (first | (go_at_call 46; refine (l2letter_any _ _).mono ?_; rintro e w' ⟨rfl, hw⟩; rw [unhide Hl, hw]; clear hw) | (go_at_call 49; refine (l2digit_any _ _).mono ?_; rintro e w' ⟨rfl, hw⟩; rw [unhide Hd, hw]; clear hw))
    clear hW
    generalize (W.setCell ⟨w.heap.size + 1, 0, none⟩ (.int .i64 5)).alloc (.cells #[.string ⟨#[61, 62]⟩, .string ⟨#[61, 61]⟩, .string ⟨#[33, 61]⟩, .string ⟨#[60, 61]⟩] 9) = Y at S0 S1 SB SS sz ⊢
    clear P0 P1 PB pz R0 R1 B0 z0 c0 c1 c2 c3 cf
    obtain ⟨c0, c1, c2, c3, cf⟩ := row4 S1
    obtain ⟨d0, d1, d2, d3, df⟩ := row4 S0
    have Ht := hide (show toL (s.extract j (j + 2)) = ((toL s).drop j).take 2 by rw [toL_extract, show j + 2 - j = 2 by omega])
    go_loop [173] (fun i => ∃ k : Nat, k ≤ 4 ∧ i = .int .i64 k ∧ noneOf signs2 k (toL (s.extract j (j + 2)))) (fun i => 4 - (intOf i).toNat)
    case atStart => exact ⟨0, by omega, rfl, fun i hi => by omega⟩
    case round =>
      obtain ⟨k, hk, rfl, hn⟩ := hrel
      by_cases hlt : k < 4
      · have ilt : (k : Int) < 4 := by omega
        obtain ⟨x, hx⟩ : ∃ x, signs2[k]? = some x := ⟨signs2[k]'hlt, List.getElem?_eq_getElem hlt⟩
        have hc := (SS.cell k).trans (textsV_at hx)
        rcases Bool.eq_false_or_eq_true ((s.extract j (j + 2)).toList == (ofL x).toList) with h | h
        · have Hx := hide (show ((toL s).drop j).take 2 = x by rw [← unhide Ht]; exact beq_ofL_true h)
          have Hf := hide (mem_of_at hx)
          clear hn hx
          go_wp2_with fail
          have BF := put4_below (b := w.heap.size) (SB.setCell (p := ⟨w.heap.size + 1, 2, none⟩) (by show w.heap.size ≤ w.heap.size + 1; omega) (.string (ofL x))) (Nat.le_refl _) (.int .i64 5) (.int .i64 0) (.string (ofL x)) (.int .i64 j)
          obtain ⟨g0, g1, g2, g3, _⟩ := row4 (put4_row (S0.setFar (p := ⟨w.heap.size + 1, 2, none⟩) (by show w.heap.size ≠ w.heap.size + 1; omega) (.string (ofL x))) (.int .i64 5) (.int .i64 0) (.string (ofL x)) (.int .i64 j))
          simp only [put4] at g0 g1 g2 g3
          refine bodyPost_ret (res_tok3 Tryz.results28 rfl g0 g1 g2 g3) rfl ⟨?_, BF⟩
          rw [oneSign, unhide Hx, if_pos (unhide Hf)]
          simp only [onAns]
          rw [Int.natCast_add]; rfl
        · have Hf := hide (hn.next hx (beq_ofL_false h))
          clear hn hx
          go_wp2
          go_round
          case rel => exact ⟨k + 1, by omega, by go_num, unhide Hf⟩
          case measure => simp [intOf]; omega
      · have ek : k = 4 := by omega
        subst ek
        have H2 := hide (show signs2.contains (((toL s).drop j).take 2) = false by rw [← unhide Ht]; exact noneOf.all hn)
        clear hn c0 c1 c2 c3 cf d0 d1 d2 d3 df
        have QZ := Row.alloc S0 (.cells #[.int .u8 60, .int .u8 43, .int .u8 45, .int .u8 42, .int .u8 47, .int .u8 37, .int .u8 124, .int .u8 38, .int .u8 92, .int .u8 40, .int .u8 41, .int .u8 123, .int .u8 125, .int .u8 44, .int .u8 59, .int .u8 61] 5 (16, 17))
        have QT := Row.alloc S1 (.cells #[.int .u8 60, .int .u8 43, .int .u8 45, .int .u8 42, .int .u8 47, .int .u8 37, .int .u8 124, .int .u8 38, .int .u8 92, .int .u8 40, .int .u8 41, .int .u8 123, .int .u8 125, .int .u8 44, .int .u8 59, .int .u8 61] 5 (16, 17))
        have QB := Below.alloc SB (by omega) (.cells #[.int .u8 60, .int .u8 43, .int .u8 45, .int .u8 42, .int .u8 47, .int .u8 37, .int .u8 124, .int .u8 38, .int .u8 92, .int .u8 40, .int .u8 41, .int .u8 123, .int .u8 125, .int .u8 44, .int .u8 59, .int .u8 61] 5 (16, 17))
        have QS : ∀ k, (Y.alloc (.cells #[.int .u8 60, .int .u8 43, .int .u8 45, .int .u8 42, .int .u8 47, .int .u8 37, .int .u8 124, .int .u8 38, .int .u8 92, .int .u8 40, .int .u8 41, .int .u8 123, .int .u8 125, .int .u8 44, .int .u8 59, .int .u8 61] 5 (16, 17))).cell? ⟨w.heap.size + 3, k, none⟩ = (bytesV signs1)[k]? := fun k => by
          rw [← sz]; exact World.cell?_alloc_mark (Y) (bytesV signs1) 5 (16, 17) k
        have hcv : (convert 96 96 (.slice (some ⟨w.heap.size + 3, 0, none⟩) 16 16)).run Tryz.prog (Y.alloc (.cells #[.int .u8 60, .int .u8 43, .int .u8 45, .int .u8 42, .int .u8 47, .int .u8 37, .int .u8 124, .int .u8 38, .int .u8 92, .int .u8 40, .int .u8 41, .int .u8 123, .int .u8 125, .int .u8 44, .int .u8 59, .int .u8 61] 5)) = .ok (.slice (some ⟨w.heap.size + 3, 0, none⟩) 16 16) (Y.alloc (.cells #[.int .u8 60, .int .u8 43, .int .u8 45, .int .u8 42, .int .u8 47, .int .u8 37, .int .u8 124, .int .u8 38, .int .u8 92, .int .u8 40, .int .u8 41, .int .u8 123, .int .u8 125, .int .u8 44, .int .u8 59, .int .u8 61] 5 (16, 17))) :=
          Go.Joins.run_convert_bytes_const_at (Y) 96 5 #[.int .u8 60, .int .u8 43, .int .u8 45, .int .u8 42, .int .u8 47, .int .u8 37, .int .u8 124, .int .u8 38, .int .u8 92, .int .u8 40, .int .u8 41, .int .u8 123, .int .u8 125, .int .u8 44, .int .u8 59, .int .u8 61] 16 16 (w.heap.size + 3) sz.symm Tryz.underlying96 Tryz.underlying5
        obtain ⟨d0, d1, d2, d3, df⟩ := row4 QZ
        obtain ⟨c0, c1, c2, c3, cf⟩ := row4 QT
        go_wp2_with fail
        clear hcv
        have QSh := hide QS
        clear QS
        generalize Y.alloc (.cells #[.int .u8 60, .int .u8 43, .int .u8 45, .int .u8 42, .int .u8 47, .int .u8 37, .int .u8 124, .int .u8 38, .int .u8 92, .int .u8 40, .int .u8 41, .int .u8 123, .int .u8 125, .int .u8 44, .int .u8 59, .int .u8 61] 5 (16, 17)) = X at QZ QT QB QSh d0 d1 d2 d3 df c0 c1 c2 c3 cf ⊢
        go_loop [193] (fun i => ∃ k : Nat, k ≤ 16 ∧ i = .int .i64 k ∧ noByte signs1 k s[j]) (fun i => 16 - (intOf i).toNat)
        case atStart => exact ⟨0, by omega, rfl, fun i hi => by omega⟩
        case round =>
          obtain ⟨k, hk, rfl, hn⟩ := hrel
          by_cases hlt : k < 16
          · have ilt : (k : Int) < 16 := by omega
            obtain ⟨x, hx⟩ : ∃ x, signs1[k]? = some x := ⟨signs1[k]'hlt, List.getElem?_eq_getElem hlt⟩
            have hc := (unhide QSh k).trans (bytesV_at hx)
            rcases Bool.eq_false_or_eq_true ((s[j].toNat : Int) == (x.toNat : Int)) with h | h
            · have Hf := hide (byte_hit hx h)
              have hxx : (x.toNat : Int) = (s[j].toNat : Int) := (beq_iff_eq.1 h).symm
              have ij1 : (j : Int) + 1 ≤ (s.size : Int) := by omega
              clear hn hx
              go_wp2_with fail
              have BF := put4_below (b := w.heap.size) (QB.setCell (p := ⟨w.heap.size + 1, 2, none⟩) (by show w.heap.size ≤ w.heap.size + 1; omega) (.string (s.extract j (j + 1)))) (Nat.le_refl _) (.int .i64 5) (.int .i64 0) (.string (s.extract j (j + 1))) (.int .i64 j)
              obtain ⟨g0, g1, g2, g3, _⟩ := row4 (put4_row (QZ.setFar (p := ⟨w.heap.size + 1, 2, none⟩) (by show w.heap.size ≠ w.heap.size + 1; omega) (.string (s.extract j (j + 1)))) (.int .i64 5) (.int .i64 0) (.string (s.extract j (j + 1))) (.int .i64 j))
              simp only [put4] at g0 g1 g2 g3
              refine bodyPost_ret (res_tok3 Tryz.results28 rfl g0 g1 g2 g3) rfl ⟨?_, BF⟩
              rw [oneSign, if_neg (by rw [unhide H2]; decide), if_pos (unhide Hf), one_take hj]
              simp only [onAns]
              rw [Int.natCast_add]; rfl
            · have Hf := hide (hn.next hx h)
              clear hn hx
              go_wp2
              go_round
              case rel => exact ⟨k + 1, by omega, by go_num, unhide Hf⟩
              case measure => simp [intOf]; omega
          · have ek : k = 16 := by omega
            subst ek
            have Hf := hide (noByte.all hn)
            clear hn
            go_wp2_with fail
            have BF := put4_below (b := w.heap.size) QB (Nat.le_refl _) (.int .i64 5) (.int .i64 0) (.string ⟨#[]⟩) (.int .i64 j)
            obtain ⟨g0, g1, g2, g3, _⟩ := row4 (put4_row QZ (.int .i64 5) (.int .i64 0) (.string ⟨#[]⟩) (.int .i64 j))
            simp only [put4] at g0 g1 g2 g3
            refine bodyPost_ret (res_tok3 Tryz.results28 rfl g0 g1 g2 g3) rfl ⟨?_, BF⟩
            rw [oneSign, if_neg (by rw [unhide H2]; decide), if_neg (by rw [unhide Hf]; decide)]
            exact ⟨_, _, _, _, rfl⟩
  · have i2 : ¬ ((j : Int) + 1 < (s.size : Int)) := by omega
    have H2 := hide (two_short h2)
    clear c0 c1 c2 c3 cf
    obtain ⟨e0, e1, e2, e3, ef⟩ := row4 R1
    have QZ := Row.alloc P0 (.cells #[.int .u8 60, .int .u8 43, .int .u8 45, .int .u8 42, .int .u8 47, .int .u8 37, .int .u8 124, .int .u8 38, .int .u8 92, .int .u8 40, .int .u8 41, .int .u8 123, .int .u8 125, .int .u8 44, .int .u8 59, .int .u8 61] 5 (16, 17))
    have QT := Row.alloc P1 (.cells #[.int .u8 60, .int .u8 43, .int .u8 45, .int .u8 42, .int .u8 47, .int .u8 37, .int .u8 124, .int .u8 38, .int .u8 92, .int .u8 40, .int .u8 41, .int .u8 123, .int .u8 125, .int .u8 44, .int .u8 59, .int .u8 61] 5 (16, 17))
    have QB := Below.alloc PB (by omega) (.cells #[.int .u8 60, .int .u8 43, .int .u8 45, .int .u8 42, .int .u8 47, .int .u8 37, .int .u8 124, .int .u8 38, .int .u8 92, .int .u8 40, .int .u8 41, .int .u8 123, .int .u8 125, .int .u8 44, .int .u8 59, .int .u8 61] 5 (16, 17))
    have QS : ∀ k, ((W.setCell ⟨w.heap.size + 1, 0, none⟩ (.int .i64 5)).alloc (.cells #[.int .u8 60, .int .u8 43, .int .u8 45, .int .u8 42, .int .u8 47, .int .u8 37, .int .u8 124, .int .u8 38, .int .u8 92, .int .u8 40, .int .u8 41, .int .u8 123, .int .u8 125, .int .u8 44, .int .u8 59, .int .u8 61] 5 (16, 17))).cell? ⟨w.heap.size + 2, k, none⟩ = (bytesV signs1)[k]? := fun k => by
      rw [← pz]; exact World.cell?_alloc_mark (W.setCell ⟨w.heap.size + 1, 0, none⟩ (.int .i64 5)) (bytesV signs1) 5 (16, 17) k
    have hcv : (convert 96 96 (.slice (some ⟨w.heap.size + 2, 0, none⟩) 16 16)).run Tryz.prog ((W.setCell ⟨w.heap.size + 1, 0, none⟩ (.int .i64 5)).alloc (.cells #[.int .u8 60, .int .u8 43, .int .u8 45, .int .u8 42, .int .u8 47, .int .u8 37, .int .u8 124, .int .u8 38, .int .u8 92, .int .u8 40, .int .u8 41, .int .u8 123, .int .u8 125, .int .u8 44, .int .u8 59, .int .u8 61] 5)) = .ok (.slice (some ⟨w.heap.size + 2, 0, none⟩) 16 16) ((W.setCell ⟨w.heap.size + 1, 0, none⟩ (.int .i64 5)).alloc (.cells #[.int .u8 60, .int .u8 43, .int .u8 45, .int .u8 42, .int .u8 47, .int .u8 37, .int .u8 124, .int .u8 38, .int .u8 92, .int .u8 40, .int .u8 41, .int .u8 123, .int .u8 125, .int .u8 44, .int .u8 59, .int .u8 61] 5 (16, 17))) :=
      Go.Joins.run_convert_bytes_const_at (W.setCell ⟨w.heap.size + 1, 0, none⟩ (.int .i64 5)) 96 5 #[.int .u8 60, .int .u8 43, .int .u8 45, .int .u8 42, .int .u8 47, .int .u8 37, .int .u8 124, .int .u8 38, .int .u8 92, .int .u8 40, .int .u8 41, .int .u8 123, .int .u8 125, .int .u8 44, .int .u8 59, .int .u8 61] 16 16 (w.heap.size + 2) pz.symm Tryz.underlying96 Tryz.underlying5
    obtain ⟨d0, d1, d2, d3, df⟩ := row4 QZ
    obtain ⟨c0, c1, c2, c3, cf⟩ := row4 QT
    go_enter Tryz.func28, Tryz.ntmps28
    go_wp2_with (first | (go_at_call 46; refine (l2letter_any _ _).mono ?_; rintro e w' ⟨rfl, hw⟩; rw [unhide Hl, hw]; clear hw) | (go_at_call 49; refine (l2digit_any _ _).mono ?_; rintro e w' ⟨rfl, hw⟩; rw [unhide Hd, hw]; clear hw))
    clear hW
    clear hcv
    have QSh := hide QS
    clear QS
    generalize (W.setCell ⟨w.heap.size + 1, 0, none⟩ (.int .i64 5)).alloc (.cells #[.int .u8 60, .int .u8 43, .int .u8 45, .int .u8 42, .int .u8 47, .int .u8 37, .int .u8 124, .int .u8 38, .int .u8 92, .int .u8 40, .int .u8 41, .int .u8 123, .int .u8 125, .int .u8 44, .int .u8 59, .int .u8 61] 5 (16, 17)) = X at QZ QT QB QSh d0 d1 d2 d3 df c0 c1 c2 c3 cf ⊢
    go_loop [193] (fun i => ∃ k : Nat, k ≤ 16 ∧ i = .int .i64 k ∧ noByte signs1 k s[j]) (fun i => 16 - (intOf i).toNat)
    case atStart => exact ⟨0, by omega, rfl, fun i hi => by omega⟩
    case round =>
      obtain ⟨k, hk, rfl, hn⟩ := hrel
      by_cases hlt : k < 16
      · have ilt : (k : Int) < 16 := by omega
        obtain ⟨x, hx⟩ : ∃ x, signs1[k]? = some x := ⟨signs1[k]'hlt, List.getElem?_eq_getElem hlt⟩
        have hc := (unhide QSh k).trans (bytesV_at hx)
        rcases Bool.eq_false_or_eq_true ((s[j].toNat : Int) == (x.toNat : Int)) with h | h
        · have Hf := hide (byte_hit hx h)
          have hxx : (x.toNat : Int) = (s[j].toNat : Int) := (beq_iff_eq.1 h).symm
          have ij1 : (j : Int) + 1 ≤ (s.size : Int) := by omega
          clear hn hx
          go_wp2_with fail
          have BF := put4_below (b := w.heap.size) (QB.setCell (p := ⟨w.heap.size + 1, 2, none⟩) (by show w.heap.size ≤ w.heap.size + 1; omega) (.string (s.extract j (j + 1)))) (Nat.le_refl _) (.int .i64 5) (.int .i64 0) (.string (s.extract j (j + 1))) (.int .i64 j)
          obtain ⟨g0, g1, g2, g3, _⟩ := row4 (put4_row (QZ.setFar (p := ⟨w.heap.size + 1, 2, none⟩) (by show w.heap.size ≠ w.heap.size + 1; omega) (.string (s.extract j (j + 1)))) (.int .i64 5) (.int .i64 0) (.string (s.extract j (j + 1))) (.int .i64 j))
          simp only [put4] at g0 g1 g2 g3
          refine bodyPost_ret (res_tok3 Tryz.results28 rfl g0 g1 g2 g3) rfl ⟨?_, BF⟩
          rw [oneSign, if_neg (by rw [unhide H2]; decide), if_pos (unhide Hf), one_take hj]
          simp only [onAns]
          rw [Int.natCast_add]; rfl
        · have Hf := hide (hn.next hx h)
          clear hn hx
          go_wp2
          go_round
          case rel => exact ⟨k + 1, by omega, by go_num, unhide Hf⟩
          case measure => simp [intOf]; omega
      · have ek : k = 16 := by omega
        subst ek
        have Hf := hide (noByte.all hn)
        clear hn
        go_wp2_with fail
        have BF := put4_below (b := w.heap.size) QB (Nat.le_refl _) (.int .i64 5) (.int .i64 0) (.string ⟨#[]⟩) (.int .i64 j)
        obtain ⟨g0, g1, g2, g3, _⟩ := row4 (put4_row QZ (.int .i64 5) (.int .i64 0) (.string ⟨#[]⟩) (.int .i64 j))
        simp only [put4] at g0 g1 g2 g3
        refine bodyPost_ret (res_tok3 Tryz.results28 rfl g0 g1 g2 g3) rfl ⟨?_, BF⟩
        rw [oneSign, if_neg (by rw [unhide H2]; decide), if_neg (by rw [unhide Hf]; decide)]
        exact ⟨_, _, _, _, rfl⟩

end Go.Proofs.YtcehablmloleaaaGreatDoor

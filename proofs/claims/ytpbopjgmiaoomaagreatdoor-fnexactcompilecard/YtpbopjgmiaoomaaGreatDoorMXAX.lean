/-
  ZL, COY. Own work.
-/
import Derived.Test.YtpbopjgmiaoomaaGreatDoorZI
import Derived.Test.YtpbopjgmiaoomaaGreatDoorMXAR
import Derived.Test.YtpbopjgmiaoomaaGreatDoorJS
import Derived.Test.YtpbopjgmiaoomaaGreatDoorMXAU
namespace Go.Proofs.YtpbopjgmiaoomaaGreatDoor
open Go.RowKit
set_option linter.unusedVariables false

theorem shapeT_iff (N : List Nd) (L : List St) : shapeI N L = true ↔ ∃ S, runT (N.map Nd.kids) N.length [] 0 = some S ∧ topsI S = L.flatMap askedOf := by
  rw [shapeI]
  cases h : runT (N.map Nd.kids) N.length [] 0 with
  | none => simp
  | some S => simp

theorem allT_of_allU {N : List Nd} (h : N.all fieldsU = true) : N.all fieldsT = true := by
  rw [List.all_eq_true] at h ⊢
  exact fun x hx => ((fieldsU_iff x).1 (h x hx)).1

/-- the program's look and the model's, where all lets are in their range -/
theorem wellT_same (N : List Nd) (L : List St) : (N.length ≤ 4000 ∧ 1 ≤ L.length ∧ L.length ≤ 600) ∧ N.all fieldsU = true ∧ ValidS N L ↔ wellT N L = true ∧ N.all fieldsU = true := by
  rw [← valid_same, ValidI, ← shapeT_iff, wellT]
  simp only [Bool.and_eq_true, decide_eq_true_eq]
  constructor
  · rintro ⟨⟨h1, h2⟩, h4, h3, h5⟩
    exact ⟨⟨⟨⟨h1, h2, h3⟩, allT_of_allU h4⟩, h5⟩, h4⟩
  · rintro ⟨⟨⟨⟨h1, h2, h3⟩, _⟩, h5⟩, h4⟩
    exact ⟨⟨h1, h2⟩, h4, h3, h5⟩

/-- the trees of a well-formed typed policy's nodes -/
theorem treesT_ex {N : List Nd} {L : List St} (W : WellPT N L) : ∃ Es : List Ex, Es.length = N.length ∧ ∀ j, (h : j < Es.length) → IsT N j Es[j] := by
  have : ∀ k, k ≤ N.length → ∃ Es : List Ex, Es.length = k ∧ (∀ j, (h : j < Es.length) → IsT N j Es[j]) ∧ ∀ e ∈ Es, e.typed := by
    intro k
    induction k with
    | zero => intro _; exact ⟨[], rfl, fun j h => absurd h (by simp), fun e he => (by cases he)⟩
    | succ k ih =>
      intro hk
      obtain ⟨Es, hl, hE, hf⟩ := ih (by omega)
      have hx : N[k]? = some (N[k]'(by omega)) := List.getElem?_eq_getElem _
      obtain ⟨e, _, ht, hfit⟩ := mkTT_of (an := none) (nn := 0) (cn := 0) hx (W.fields _ (List.getElem_mem _)) (W.kids k _ hx) hl hE hf
      refine ⟨Es ++ [e], by simp [hl], fun j h => ?_, fun f hf' => ?_⟩
      · by_cases hj : j < Es.length
        · rw [List.getElem_append_left hj]
          exact hE j hj
        · have : j = Es.length := by simp at h; omega
          subst this
          simp only [List.getElem_concat_length]
          rw [hl]; exact ht
      · rcases List.mem_append.1 hf' with hf' | hf'
        · exact hf f hf'
        · simp at hf'; subst hf'; exact hfit
  obtain ⟨Es, h1, h2, _⟩ := this N.length (Nat.le_refl _)
  exact ⟨Es, h1, h2⟩

theorem IsWT.one {N : List Nd} {L : List St} {T : List Int} {b c : Bool} (h : IsWT N L T b) (k : IsWT N L T c) : b = c := by
  rcases h with ⟨h1, rfl⟩ | ⟨h1, Es, a1, a2, rfl⟩
  · rcases k with ⟨_, rfl⟩ | ⟨k1, _⟩
    · rfl
    · rw [h1] at k1; cases k1
  · rcases k with ⟨k1, _⟩ | ⟨_, Fs, b1, b2, rfl⟩
    · rw [h1] at k1; cases k1
    · rw [ckAll_one a1 b1 a2 b2]

/-- the model's look says no -/
theorem isWT_no {N : List Nd} {L : List St} {T : List Int} (h : ¬ (wellT N L = true ∧ N.all fieldsU = true)) : IsWT N L T false := by
  cases hw : wellT N L with
  | false => exact .inl ⟨hw, rfl⟩
  | true =>
    obtain ⟨Es, h1, h2⟩ := treesT_ex (wellPT_of hw)
    refine .inr ⟨hw, Es, h1, h2, ?_⟩
    cases hc : ckAll Es (attN, [], []) L with
    | none => rfl
    | some st => exact absurd ⟨hw, allU_of hw h1 h2 hc⟩ h

theorem ckAll_full {N : List Nd} {L : List St} (hw : wellT N L = true) {Es : List Ex} (h1 : Es.length = N.length) (h2 : ∀ j, (h : j < Es.length) → IsT N j Es[j]) {st : CkS} (hc : ckAll Es (attN, [], []) L = some st) : st.2.2.length = N.length := by
  have := (ckAll_len hc).1
  rw [cntL_all hw h1 h2] at this
  simpa using this

/-- too many types, or too few -/
theorem isWT_len {N : List Nd} {L : List St} {T : List Int} (hw : wellT N L = true) (hl : T.length ≠ N.length) : IsWT N L T false := by
  obtain ⟨Es, h1, h2⟩ := treesT_ex (wellPT_of hw)
  refine .inr ⟨hw, Es, h1, h2, ?_⟩
  cases hc : ckAll Es (attN, [], []) L with
  | none => rfl
  | some st =>
    have := ckAll_full hw h1 h2 hc
    exact (decide_eq_false (fun e => hl (by rw [← e, this]))).symm

set_option maxRecDepth 100000 in
set_option maxHeartbeats 3200000 in
theorem sWellTyped_any (a b e : Option Addr) (n c m d k f : Nat) (N : List Nd) (L : List St) (T : List Int) (w : World) (h1 : Nds w a n c N) (h2 : Sts w b m d L) (h3 : Ints w e k f T) :
    Calls Tryz.prog 16 #[.agg #[.slice a n c, .slice b m d, .slice e k f]] w fun r w' => (∃ v, r = .returned (.bool v) ∧ IsWT N L T v) ∧ Below w.heap.size w w' := by
  have HN := hide h1.len
  have HL := hide h2.len
  have HK := hide h3.len
  have sn := h1.small
  have sk := h3.small
  have R0 := Row.new w #[.slice a n c, .slice b m d, .slice e k f] 36
  have B0 := (Below.refl w.heap.size w).alloc (Nat.le_refl _) (.cells #[.slice a n c, .slice b m d, .slice e k f] 36)
  have N0 := h1.below B0 (Nat.le_refl _)
  have L0 := h2.below B0 (Nat.le_refl _)
  have I0 := h3.below B0 (Nat.le_refl _)
  clear h1 h2 h3
  go_enter Tryz.func16, Tryz.ntmps16
  go_wp2_with fail
  refine (l2shapeU_any _ _ _ _ _ _ N L _ N0 L0).mono ?_
  rintro r w1 ⟨⟨v, rfl, hv⟩, hb1⟩
  dsimp only
  have N1 := N0.below hb1 (Nat.le_refl _)
  have L1 := L0.below hb1 (Nat.le_refl _)
  have I1 := I0.below hb1 (Nat.le_refl _)
  have R1 := R0.after hb1 (Nat.le_refl _)
  have B1 := B0.trans (hb1.mono B0.size)
  have hv2 : v = true ↔ wellT N L = true ∧ N.all fieldsU = true := by rw [hv, ← wellT_same, unhide HN, unhide HL]
  clear N0 L0 I0 R0 B0 hb1 hv
  obtain ⟨q0, q1, q2⟩ := rowT3 R1
  cases v with
  | false =>
    have HX := hide (isWT_no (T := T) (fun h => by have := hv2.2 h; cases this))
    clear hv2
    go_wp2_with fail
    go_ret
    exact ⟨⟨false, rfl, unhide HX⟩, B1⟩
  | true =>
    have HV := hide (hv2.1 rfl)
    clear hv2
    by_cases hkn : k = n
    · subst hkn
      have ekn : ((k : Int) != (k : Int)) = false := by simp
      obtain ⟨hw, hu⟩ := unhide HV
      have W := wellPT_of hw
      obtain ⟨Es, t1, t2⟩ := treesT_ex W
      have k4 : k ≤ 4000 := by have := W.n; rw [unhide HN] at this; exact this
      have HC := hide (l3check_any a b k c m d N L (fun x hx => List.all_eq_true.1 hu x hx) w1 N1 L1 Es (by rw [t1, unhide HN]) t2 k4 (by have := W.m; rw [unhide HL] at this; exact this) (spans_of hw t1 t2) (by rw [cntL_all hw t1 t2]; exact W.n))
      have HW := hide (show ∀ v, v = (match ckAll Es (attN, [], []) L with | none => false | some st => decide (st.2.2 = T)) → IsWT N L T v from fun v e => .inr ⟨hw, Es, t1, t2, e⟩)
      have HLL := hide (show ∀ st, ckAll Es (attN, [], []) L = some st → st.2.2.length = k from fun st h => by rw [ckAll_full hw t1 t2 h, unhide HN])
      generalize ckAll Es (attN, [], []) L = o at HC HW HLL
      clear hw hu t1 t2 W N1 L1
      go_wp2_with fail
      refine (unhide HC).mono ?_
      rintro r w2 (⟨B, lb, ns, ts, tt, nv, lv, tv, rfl, rfl, M2, hlb, hb2⟩ | ⟨rfl, ⟨code, at2, rfl, hcd⟩, hb2⟩)
      · have B2 := B1.trans (hb2.mono B1.size)
        have htl : tt.length = k := unhide HLL _ rfl
        obtain ⟨xt, ct, rfl, _⟩ := owns_form2 M2.types
        have T2 := ints_of_row M2.types (by omega)
        have HTL := hide htl
        rw [htl] at T2 ⊢
        have I2 := I1.below hb2 (Nat.le_refl _)
        have R2 := R1.after hb2 (Nat.le_refl _)
        have C3 := (Below.refl w2.heap.size w2).alloc (Nat.le_refl _) (.cells #[.int .i64 0, .int .i64 0] 96)
        have F3 := Row.new w2 #[.int .i64 0, .int .i64 0] 96
        obtain ⟨f0, f1⟩ := row2 F3
        have T3 := T2.below C3 (Nat.le_refl _)
        have I3 := I2.below C3 (Nat.le_refl _)
        have R3 := R2.after C3 (Nat.le_refl _)
        have B3 := B2.trans (C3.mono B2.size)
        clear M2 T2 I2 R2 htl hb2 HC HLL q0 q1 q2
        dsimp only
        go_wp2_with fail
        generalize w2.alloc (.cells #[.int .i64 0, .int .i64 0] 96) = W3 at C3 F3 f0 f1 T3 I3 R3 B3 ⊢
        go_loopw [37] (fun i wr => ∃ j : Nat, j ≤ k ∧ i = .int .i64 j ∧ Below W3.heap.size W3 wr ∧ Hid (tt.take j = T.take j)) (fun i _ => k - (intOf i).toNat)
        case atStart => exact ⟨0, Nat.zero_le _, rfl, Below.refl _ _, hide rfl⟩
        case round =>
          obtain ⟨j, hj, rfl, D, HJ⟩ := hrel
          have B4 := B3.trans (D.mono B3.size)
          by_cases hlt : j < k
          · have ilt : (j : Int) < (k : Int) := by omega
            have j1 : j < tt.length := by rw [unhide HTL]; exact hlt
            have j2 : j < T.length := by rw [unhide HK]; exact hlt
            obtain ⟨bt, ot, rfl, hbt, ct0⟩ := (T3.below D (Nat.le_refl _)).cells j j1
            obtain ⟨be, oe, rfl, hbe, ce0⟩ := (I3.below D (Nat.le_refl _)).cells j j2
            obtain ⟨q0, q1, q2⟩ := rowT3 (R3.after D (Nat.le_refl _))
            have HS := hide (show tt[j] = T[j] → tt.take (j + 1) = T.take (j + 1) from fun h => by rw [List.take_succ_eq_append_getElem j1, List.take_succ_eq_append_getElem j2, unhide HJ, h])
            have HF := hide (show tt[j] ≠ T[j] → tt ≠ T from fun h e => h (by subst e; rfl))
            have Hlt := hide hlt
            generalize tt[j] = x at ct0 HS HF
            generalize T[j] = y at ce0 HS HF
            clear hlt j1 j2
            by_cases hxy : x = y
            · have exy : (x != y) = false := by rw [hxy]; simp
              have HX := hide (unhide HS hxy)
              clear hxy HS HF
              go_wp2_with fail
              go_roundw
              case rel => exact ⟨j + 1, unhide Hlt, by go_num, D, HX⟩
              case measure => have := unhide Hlt; simp [intOf]; omega
            · have exy : (x != y) = true := bne_iff_ne.2 hxy
              have HX := hide (unhide HW false (decide_eq_false (unhide HF hxy)).symm)
              clear hxy HS HF
              go_wp2_with fail
              go_ret
              exact ⟨⟨false, rfl, unhide HX⟩, B4⟩
          · have e : j = k := by omega
            subst e
            have HX := hide (unhide HW true (decide_eq_true (by have := unhide HJ; rwa [List.take_of_length_le (by rw [unhide HTL]; exact Nat.le_refl _), List.take_of_length_le (by rw [unhide HK]; exact Nat.le_refl _)] at this)).symm)
            go_wp2_with fail
            go_ret
            exact ⟨⟨true, rfl, unhide HX⟩, B4⟩
      · have ec : (code != 0) = true := bne_iff_ne.2 hcd
        have HX := hide (unhide HW false rfl)
        have B2 := B1.trans (hb2.mono B1.size)
        have C3 := (Below.refl w2.heap.size w2).alloc (Nat.le_refl _) (.cells #[.int .i64 code, .int .i64 at2] 96)
        obtain ⟨f0, f1⟩ := row2 (Row.new w2 #[.int .i64 code, .int .i64 at2] 96)
        have B3 := B2.trans (C3.mono B2.size)
        clear hcd HC HW HLL
        dsimp only
        go_wp2_with fail
        go_ret
        exact ⟨⟨false, rfl, unhide HX⟩, B3⟩
    · have ekn : ((k : Int) != (n : Int)) = true := bne_iff_ne.2 (by omega)
      have HX := hide (isWT_len (T := T) (unhide HV).1 (by rw [unhide HK, unhide HN]; exact hkn))
      clear hkn
      go_wp2_with fail
      go_ret
      exact ⟨⟨false, rfl, unhide HX⟩, B1⟩

end Go.Proofs.YtpbopjgmiaoomaaGreatDoor

namespace Go.Proofs.YtpbopjgmiaoomaaGreatDoor
open Go.RowKit
set_option linter.unusedVariables false

theorem IsCp.one {N : List Nd} {L : List St} {T : List Int} {c d : Cs} (h : IsCp N L T c) (k : IsCp N L T d) : c = d := by
  rcases h with ⟨h1, rfl⟩ | ⟨h1, Es, a1, a2, rfl⟩
  · rcases k with ⟨_, rfl⟩ | ⟨k1, _⟩
    · rfl
    · have := h1.one k1; cases this
  · rcases k with ⟨k1, rfl⟩ | ⟨_, Fs, b1, b2, rfl⟩
    · have := h1.one k1; cases this
    · exact codeC_one a1 b1 a2 b2 L

end Go.Proofs.YtpbopjgmiaoomaaGreatDoor

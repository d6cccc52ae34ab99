/-
  The walks over l1after, l1digits, l1list, readLevel. Own work.
-/
import Derived.Test.YtnahfogbemfngaaGreatDoorPA
import Derived.Lib.Strings
import Derived.Lib.Slices
import Derived.Lib.Walk
namespace Go.Proofs.YtnahfogbemfngaaGreatDoor
open Go.RowKit
set_option linter.unusedVariables false

theorem pre_true {s p : List UInt8} (h : Lib.hasPrefix s p = true) : s = p ++ Lib.trimPrefix s p := by
  unfold Lib.trimPrefix
  rw [if_pos h]
  obtain ⟨r, rfl⟩ := List.isPrefixOf_iff_prefix.1 h
  simp

theorem pre_false {s p : List UInt8} (h : Lib.hasPrefix s p = false) (b : List UInt8) : s ≠ p ++ b := fun e => by
  subst e
  have : Lib.hasPrefix (p ++ b) p = true := List.isPrefixOf_iff_prefix.2 ⟨_, rfl⟩
  rw [h] at this; cases this

theorem trim_le (s p : List UInt8) : (Lib.trimPrefix s p).length ≤ s.length := by
  unfold Lib.trimPrefix
  split
  · simp
  · exact Nat.le_refl _

/-- what l1after answers -/
def AftAns (s hd : ByteArray) (e : Ending) : Prop :=
  ∃ (x : ByteArray) (o : Bool), e = .returned (.tuple #[.string x, .bool o]) ∧ (o = true → toL s = toL hd ++ toL x) ∧ (o = false → ∀ b, toL s ≠ toL hd ++ b) ∧ x.size ≤ s.size

theorem AftAns.no {s hd : ByteArray} (h : Lib.hasPrefix s.data.toList hd.data.toList = false) : AftAns s hd (.returned (.tuple #[.string ⟨#[]⟩, .bool false])) :=
  ⟨_, _, rfl, (fun k => by cases k), fun _ => pre_false h, Nat.zero_le _⟩

set_option maxHeartbeats 800000 in
theorem l1after_any (s hd : ByteArray) (w : World) (hs : s.size ≤ maxLen) (hh : hd.size ≤ maxLen) :
    Calls Tryz.prog 27 #[.string s, .string hd] w fun e w' => AftAns s hd e ∧ w' = w := by
  unfold maxLen at hs hh
  go_enter Tryz.func27, Tryz.ntmps27
  by_cases h1 : hd.size ≤ s.size
  · have i1 : ¬ ((s.size : Int) < (hd.size : Int)) := by omega
    have i2 : ((hd.size : Int) ≤ (s.size : Int)) := by omega
    cases h2 : ((s.extract 0 hd.size).toList == hd.toList)
    · have Hn := hide (show Lib.hasPrefix s.data.toList hd.data.toList = false by rw [← Lib.hasPrefix_raw, h2]; simp)
      go_wp2
      go_ret2
      exact ⟨AftAns.no (unhide Hn), rfl⟩
    · have Hn := hide (show Lib.hasPrefix s.data.toList hd.data.toList = true by rw [← Lib.hasPrefix_raw, h2, decide_eq_true h1]; rfl)
      have Ht := hide (Lib.trimPrefix_hit s hd h1 h2)
      go_wp2
      go_ret2
      refine ⟨⟨_, true, rfl, fun _ => ?_, (fun k => by cases k), ?_⟩, rfl⟩
      · rw [← unhide Ht]
        exact (pre_true (unhide Hn)).trans (by simp [toL])
      · rw [ByteArray.size_extract]; omega
  · have i1 : ((s.size : Int) < (hd.size : Int)) := by omega
    have Hn := hide (show Lib.hasPrefix s.data.toList hd.data.toList = false by rw [← Lib.hasPrefix_raw]; simp [h1])
    go_wp2
    go_ret2
    exact ⟨AftAns.no (unhide Hn), rfl⟩

theorem allDg_snoc (l : List UInt8) (c : UInt8) : (l ++ [c]).all dgB = (l.all dgB && dgB c) := by simp [List.all_append]

theorem allDg_false (s : ByteArray) (k : Nat) (h : k < s.size) (hn : dgB s[k] = false) : (toL s).all dgB = false := by
  rw [← List.take_append_drop (k + 1) (toL s), List.all_append, toL, take_snoc s k h, List.all_append]
  simp [hn]

theorem lvOK_dg {l : List UInt8} (h : l.all dgB = false) : lvOK l = false := by simp [lvOK, h]
theorem lvOK_long {l : List UInt8} (h : 7 < l.length) : lvOK l = false := by
  rw [lvOK, decide_eq_false (by omega)]; rfl
theorem lvOK_none {l : List UInt8} (h : l.length = 0) : lvOK l = false := by
  rw [lvOK, decide_eq_false (by omega)]; rfl
theorem lvOK_zero {l : List UInt8} (h : 1 < l.length) (h0 : l.head? = some 48) : lvOK l = false := by
  rw [lvOK, h0]
  have : decide (l.length = 1) = false := decide_eq_false (by omega)
  simp [this]
theorem lvOK_of {l : List UInt8} (h1 : 1 ≤ l.length) (h7 : l.length ≤ 7) (hd : l.all dgB = true) (h0 : l.length = 1 ∨ l.head? ≠ some 48) : lvOK l = true := by
  rw [lvOK, hd, decide_eq_true ⟨h1, h7⟩]
  rcases h0 with h0 | h0 <;> simp [h0]

theorem head_byte (s : ByteArray) (h : 0 < s.size) : (toL s).head? = some s[0] := by
  have : 0 < (toL s).length := by rw [toL_size]; exact h
  rw [List.head?_eq_getElem?, List.getElem?_eq_getElem this]
  rfl

/-- what l1digits answers -/
def DigAns (s : ByteArray) (e : Ending) : Prop :=
  ∃ (n : Int) (o : Bool), e = .returned (.tuple #[.int .i64 n, .bool o]) ∧ (o = true → (toL s).all dgB = true ∧ 1 ≤ s.size ∧ n = lvV (toL s)) ∧ (o = false → lvOK (toL s) = false)

theorem DigAns.no {s : ByteArray} {n : Int} (h : lvOK (toL s) = false) : DigAns s (.returned (.tuple #[.int .i64 n, .bool false])) := ⟨n, false, rfl, (fun k => by cases k), fun _ => h⟩

set_option maxHeartbeats 800000 in
theorem l1digits_any (s : ByteArray) (w : World) (hs : s.size ≤ 1048576) :
    Calls Tryz.prog 29 #[.string s] w fun e w' => DigAns s e ∧ w' = w := by
  go_enter Tryz.func29, Tryz.ntmps29
  go_wp2
  go_loop [4, 5] (fun n i => ∃ (k : Nat) (v : Int), k ≤ s.size ∧ k ≤ 18 ∧ i = .int .i64 k ∧ n = .int .i64 v ∧ v = lvV ((toL s).take k) ∧ ((toL s).take k).all dgB = true) (fun _ i => s.size - (intOf i).toNat)
  case atStart => exact ⟨0, 0, Nat.zero_le _, by omega, rfl, rfl, rfl, rfl⟩
  case round =>
    obtain ⟨k, v, hk, hk18, rfl, rfl, hv, ha⟩ := hrel
    by_cases hlt : k < s.size
    · have ilt : (k : Int) < (s.size : Int) := by omega
      cases hd : dgB s[k]
      · have Hf := hide (lvOK_dg (allDg_false s k hlt hd))
        have hd' : (s[k].toNat : Int) < 48 ∨ 57 < (s[k].toNat : Int) := by
          rw [← Bool.not_eq_true, dgB_iff] at hd; omega
        clear hd hv ha
        rcases hd' with hd | hd
        · go_wp2
          go_ret2
          exact ⟨DigAns.no (unhide Hf), rfl⟩
        · have hd2 : ¬ ((s[k].toNat : Int) < 48) := by omega
          go_wp2
          go_ret2
          exact ⟨DigAns.no (unhide Hf), rfl⟩
      · obtain ⟨d1, d2⟩ := (dgB_iff _).1 hd
        have d1' : ¬ ((s[k].toNat : Int) < 48) := by omega
        have d2' : ¬ (57 < (s[k].toNat : Int)) := by omega
        by_cases h18 : 18 ≤ k
        · have Hf := hide (lvOK_long (l := toL s) (by rw [toL_size]; omega))
          have i18 : (18 : Int) ≤ (k : Int) := by omega
          clear hv ha hd
          go_wp2
          go_ret2
          exact ⟨DigAns.no (unhide Hf), rfl⟩
        · have i18 : ¬ ((18 : Int) ≤ (k : Int)) := by omega
          have hb := lvV_bound k ((toL s).take k) (by rw [List.length_take, toL_size]; omega) ha
          have hp := pow17 k (by omega)
          rw [← hv] at hb
          have b1 : 0 ≤ v := hb.1
          have b2 : v < 100000000000000000 := by omega
          have Hv := hide (show v * 10 + ((s[k].toNat : Int) - 48) = lvV ((toL s).take (k + 1)) by rw [toL, take_snoc s k hlt, lvV_snoc, ← toL, ← hv])
          have Ha := hide (show ((toL s).take (k + 1)).all dgB = true by rw [toL, take_snoc s k hlt, allDg_snoc, ← toL, ha, hd]; rfl)
          clear hb hp hv ha hd
          go_wp2
          go_round
          case rel => exact ⟨k + 1, v * 10 + ((s[k].toNat : Int) - 48), by omega, by omega, by go_num, by go_num, unhide Hv, unhide Ha⟩
          case measure => simp [intOf]; omega
    · have e1 : (toL s).take k = toL s := List.take_of_length_le (by rw [toL_size]; omega)
      rw [e1] at hv ha
      have Hv := hide hv
      have Ha := hide ha
      clear hv ha e1
      by_cases h0 : 0 < s.size
      · have i0 : (0 : Int) < (s.size : Int) := by omega
        go_wp2
        go_ret2
        exact ⟨⟨v, true, rfl, fun _ => ⟨unhide Ha, h0, unhide Hv⟩, fun k => by cases k⟩, rfl⟩
      · have i0 : ¬ ((0 : Int) < (s.size : Int)) := by omega
        have Hf := hide (lvOK_none (l := toL s) (by rw [toL_size]; omega))
        go_wp2
        go_ret2
        exact ⟨DigAns.no (unhide Hf), rfl⟩

/-- what readDigits answers: the digits are 1 to 'most' -/
def RdgAns (s : ByteArray) (most : Nat) (e : Ending) : Prop :=
  ∃ (n : Int) (o : Bool), e = .returned (.tuple #[.int .i64 n, .bool o]) ∧ (o = true → 0 < s.size ∧ s.size ≤ most ∧ (toL s).all dgB = true ∧ n = lvV (toL s)) ∧ (o = false → ¬ (0 < s.size ∧ s.size ≤ most ∧ (toL s).all dgB = true))

theorem RdgAns.no {s : ByteArray} {most : Nat} {n : Int} (h : ¬ (0 < s.size ∧ s.size ≤ most ∧ (toL s).all dgB = true)) : RdgAns s most (.returned (.tuple #[.int .i64 n, .bool false])) := ⟨n, false, rfl, (fun k => by cases k), fun _ => h⟩

set_option maxHeartbeats 1600000 in
theorem readDigits_any (s : ByteArray) (most : Nat) (w : World) (hs : s.size ≤ 1048576) (hm : most ≤ 17) :
    Calls Tryz.prog 41 #[.string s, .int .i64 most] w fun e w' => RdgAns s most e ∧ w' = w := by
  by_cases h0 : s.size = 0
  · have Hf := hide (show ¬ (0 < s.size ∧ s.size ≤ most ∧ (toL s).all dgB = true) from fun h => by omega)
    have he := empty_of_size h0
    subst he
    go_enter Tryz.func41, Tryz.ntmps41
    go_wp2
    go_ret2
    exact ⟨RdgAns.no (unhide Hf), rfl⟩
  have hne := nonempty_of_size h0
  have hp : 0 < s.size := by omega
  by_cases h7 : most < s.size
  · have Hf := hide (show ¬ (0 < s.size ∧ s.size ≤ most ∧ (toL s).all dgB = true) from fun h => by omega)
    have i7 : (most : Int) < (s.size : Int) := by omega
    go_enter Tryz.func41, Tryz.ntmps41
    go_wp2
    go_ret2
    exact ⟨RdgAns.no (unhide Hf), rfl⟩
  have i7 : ¬ ((most : Int) < (s.size : Int)) := by omega
  go_enter Tryz.func41, Tryz.ntmps41
  go_wp2
  go_loop [6, 7, 18] (fun n _ i => ∃ (k : Nat) (v : Int), k ≤ s.size ∧ i = .int .i64 k ∧ n = .int .i64 v ∧ v = lvV ((toL s).take k) ∧ ((toL s).take k).all dgB = true) (fun _ _ i => s.size - (intOf i).toNat)
  case atStart => exact ⟨0, 0, Nat.zero_le _, rfl, rfl, rfl, rfl⟩
  case round =>
    obtain ⟨k, v, hk, rfl, rfl, hv, ha⟩ := hrel
    by_cases hlt : k < s.size
    · have ilt : (k : Int) < (s.size : Int) := by omega
      cases hd : dgB s[k]
      · have Hf := hide (show ¬ (0 < s.size ∧ s.size ≤ most ∧ (toL s).all dgB = true) from fun h => by rw [allDg_false s k hlt hd] at h; cases h.2.2)
        have Hd := hide (show dgI (s[k].toNat : Int) = false from hd)
        clear hd hv ha
        go_wp2_with (go_at_call 58; refine (isDigit_any _ _).mono ?_; rintro e w' ⟨rfl, rfl⟩; rw [unhide Hd])
        go_ret2
        exact ⟨RdgAns.no (unhide Hf), rfl⟩
      · obtain ⟨d1, d2⟩ := (dgB_iff _).1 hd
        have hb := lvV_bound k ((toL s).take k) (by rw [List.length_take, toL_size]; omega) ha
        have hp := pow17 k (by omega)
        rw [← hv] at hb
        have b1 : 0 ≤ v := hb.1
        have b2 : v < 100000000000000000 := by omega
        have Hv := hide (show v * 10 + ((s[k].toNat : Int) - 48) = lvV ((toL s).take (k + 1)) by rw [toL, take_snoc s k hlt, lvV_snoc, ← toL, ← hv])
        have Ha := hide (show ((toL s).take (k + 1)).all dgB = true by rw [toL, take_snoc s k hlt, allDg_snoc, ← toL, ha, hd]; rfl)
        have Hd := hide (show dgI (s[k].toNat : Int) = true from hd)
        clear hb hp hv ha hd
        go_wp2_with (go_at_call 58; refine (isDigit_any _ _).mono ?_; rintro e w' ⟨rfl, rfl⟩; rw [unhide Hd])
        go_round
        case rel => exact ⟨k + 1, v * 10 + ((s[k].toNat : Int) - 48), by omega, by go_num, by go_num, unhide Hv, unhide Ha⟩
        case measure => simp [intOf]; omega
    · have e1 : (toL s).take k = toL s := List.take_of_length_le (by rw [toL_size]; omega)
      rw [e1] at hv ha
      have Hv := hide hv
      have Ha := hide ha
      clear hv ha e1
      go_wp2
      go_ret2
      exact ⟨⟨v, true, rfl, fun _ => ⟨by omega, by omega, unhide Ha, unhide Hv⟩, fun k => by cases k⟩, rfl⟩

/-- what readLevel answers -/
def LevAns (s : ByteArray) (e : Ending) : Prop :=
  ∃ (n : Int) (o : Bool), e = .returned (.tuple #[.int .i64 n, .bool o]) ∧ (o = true → lvOK (toL s) = true ∧ n = lvV (toL s)) ∧ (o = false → lvOK (toL s) = false)

theorem LevAns.no {s : ByteArray} {n : Int} (h : lvOK (toL s) = false) : LevAns s (.returned (.tuple #[.int .i64 n, .bool false])) := ⟨n, false, rfl, (fun k => by cases k), fun _ => h⟩

/-- digits that may be a level -/
theorem LevAns.of {s : ByteArray} {e : Ending} (h : RdgAns s 7 e) (h0 : s.size ≤ 1 ∨ (toL s).head? ≠ some 48) : LevAns s e := by
  obtain ⟨n, o, he, h1, h2⟩ := h
  refine ⟨n, o, he, fun ho => ?_, fun ho => ?_⟩
  · obtain ⟨a, b, c, d⟩ := h1 ho
    exact ⟨lvOK_of (by rw [toL_size]; omega) (by rw [toL_size]; exact b) c (by rw [toL_size]; rcases h0 with h | h; exact .inl (by omega); exact .inr h), d⟩
  · have h3 := h2 ho
    by_cases hz : s.size = 0
    · exact lvOK_none (by rw [toL_size]; exact hz)
    by_cases hl : 7 < s.size
    · exact lvOK_long (by rw [toL_size]; exact hl)
    · refine lvOK_dg ?_
      cases hd : (toL s).all dgB with
      | false => rfl
      | true => exact absurd ⟨by omega, by omega, hd⟩ h3

set_option maxHeartbeats 1600000 in
theorem readLevel_any (s : ByteArray) (w : World) (hs : s.size ≤ 1048576) :
    Calls Tryz.prog 22 #[.string s] w fun e w' => LevAns s e ∧ w' = w := by
  have HD := hide (readDigits_any s 7 w hs (by decide))
  by_cases h1 : 1 < s.size
  · have i1 : (1 : Int) < (s.size : Int) := by omega
    have i0 : (0 : Int) < (s.size : Int) := by omega
    have hp : 0 < s.size := by omega
    have Hh := hide (head_byte s hp)
    by_cases hz : (s[0].toNat : Int) = 48
    · have ez : s[0] = 48 := UInt8.toNat_inj.1 (by have : (48 : UInt8).toNat = 48 := rfl; omega)
      have Hf := hide (lvOK_zero (l := toL s) (by rw [toL_size]; exact h1) (by rw [unhide Hh, ez]))
      have ez2 : ((s[0].toNat : Int) == 48) = true := by rw [hz]; rfl
      clear ez hz
      go_enter Tryz.func22, Tryz.ntmps22
      go_wp2_with fail
      go_ret2
      exact ⟨LevAns.no (unhide Hf), rfl⟩
    · have H0 := hide (show s.size ≤ 1 ∨ (toL s).head? ≠ some 48 by
        right
        rw [unhide Hh]
        intro e
        simp only [Option.some.injEq] at e
        rw [e] at hz
        exact hz rfl)
      have ez2 : ((s[0].toNat : Int) == 48) = false := beq_eq_false_iff_ne.2 hz
      clear hz
      go_enter Tryz.func22, Tryz.ntmps22
      go_wp2_with fail
      refine (unhide HD).mono ?_
      rintro e w' ⟨ha, hw⟩
      rw [hw]
      have HL := hide (LevAns.of ha (unhide H0))
      obtain ⟨n, o, rfl, _⟩ := ha
      go_wp2_with fail
      go_ret2
      exact ⟨unhide HL, rfl⟩
  · have i1 : ¬ ((1 : Int) < (s.size : Int)) := by omega
    have H0 := hide (show s.size ≤ 1 ∨ (toL s).head? ≠ some 48 from .inl (by omega))
    go_enter Tryz.func22, Tryz.ntmps22
    go_wp2_with fail
    refine (unhide HD).mono ?_
    rintro e w' ⟨ha, hw⟩
    rw [hw]
    have HL := hide (LevAns.of ha (unhide H0))
    obtain ⟨n, o, rfl, _⟩ := ha
    go_wp2_with fail
    go_ret2
    exact ⟨unhide HL, rfl⟩

end Go.Proofs.YtnahfogbemfngaaGreatDoor

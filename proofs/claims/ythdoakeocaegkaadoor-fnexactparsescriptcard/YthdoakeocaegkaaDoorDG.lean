/-
  Digits: readDigits, l1digits. Own work.
-/
import Derived.Test.YthdoakeocaegkaaDoorDgI
import Derived.Lib.Walk
namespace Go.Proofs.YthdoakeocaegkaaDoor
open Go.RowKit
set_option linter.unusedVariables false

theorem allDg_snoc (l : List UInt8) (c : UInt8) : (l ++ [c]).all dgB = (l.all dgB && dgB c) := by simp [List.all_append]

theorem allDg_false (s : ByteArray) (k : Nat) (h : k < s.size) (hn : dgB s[k] = false) : (toL s).all dgB = false := by
  rw [← List.take_append_drop (k + 1) (toL s), List.all_append, toL, take_snoc s k h, List.all_append]
  simp [hn]

/-- what readDigits answers: the digits are 1 to 'most' -/
def RdgAns (s : ByteArray) (most : Nat) (e : Ending) : Prop :=
  ∃ (n : Int) (o : Bool), e = .returned (.tuple #[.int .i64 n, .bool o]) ∧ (o = true → 0 < s.size ∧ s.size ≤ most ∧ (toL s).all dgB = true ∧ n = lvV (toL s)) ∧ (o = false → ¬ (0 < s.size ∧ s.size ≤ most ∧ (toL s).all dgB = true))

theorem RdgAns.no {s : ByteArray} {most : Nat} {n : Int} (h : ¬ (0 < s.size ∧ s.size ≤ most ∧ (toL s).all dgB = true)) : RdgAns s most (.returned (.tuple #[.int .i64 n, .bool false])) := ⟨n, false, rfl, (fun k => by cases k), fun _ => h⟩

set_option maxHeartbeats 1600000 in
theorem readDigits_any (s : ByteArray) (most : Nat) (w : World) (hs : s.size ≤ 1048576) (hm : most ≤ 17) :
    Calls Tryd.prog 22 #[.string s, .int .i64 most] w fun e w' => RdgAns s most e ∧ w' = w := by
  by_cases h0 : s.size = 0
  · have Hf := hide (show ¬ (0 < s.size ∧ s.size ≤ most ∧ (toL s).all dgB = true) from fun h => by omega)
    have he := empty_of_size h0
    subst he
    go_enter Tryd.func22, Tryd.ntmps22
    go_wp2
    go_ret2
    exact ⟨RdgAns.no (unhide Hf), rfl⟩
  have hne := nonempty_of_size h0
  have hp : 0 < s.size := by omega
  by_cases h7 : most < s.size
  · have Hf := hide (show ¬ (0 < s.size ∧ s.size ≤ most ∧ (toL s).all dgB = true) from fun h => by omega)
    have i7 : (most : Int) < (s.size : Int) := by omega
    go_enter Tryd.func22, Tryd.ntmps22
    go_wp2
    go_ret2
    exact ⟨RdgAns.no (unhide Hf), rfl⟩
  have i7 : ¬ ((most : Int) < (s.size : Int)) := by omega
  go_enter Tryd.func22, Tryd.ntmps22
  go_wp2
  go_loop [6, 7, 18] (fun n _ i => ∃ (k : Nat) (v : Int), k ≤ s.size ∧ i = .int .i64 k ∧ n = .int .i64 v ∧ v = lvV ((toL s).take k) ∧ ((toL s).take k).all dgB = true) (fun _ _ i => s.size - (intOf i).toNat)
  case atStart => exact ⟨0, 0, Nat.zero_le _, rfl, rfl, rfl, rfl⟩
  case round =>
    obtain ⟨k, v, hk, rfl, rfl, hv, ha⟩ := hrel
    by_cases hlt : k < s.size
    · have ilt : (k : Int) < (s.size : Int) := by omega
      cases hd : dgB s[k]
      · have Hf := hide (show ¬ (0 < s.size ∧ s.size ≤ most ∧ (toL s).all dgB = true) from fun h => by rw [allDg_false s k hlt hd] at h; cases h.2.2)
        have Hd := hide (show dgI (s[k].toNat : Int) = false from hd)
        clear hd hv ha
        go_wp2_with (go_at_call 27; refine (isDigit_any _ _).mono ?_; rintro e w' ⟨rfl, rfl⟩; rw [unhide Hd])
        go_ret2
        exact ⟨RdgAns.no (unhide Hf), rfl⟩
      · obtain ⟨d1, d2⟩ := (dgB_iff _).1 hd
        have hb := lvV_bound k ((toL s).take k) (by rw [List.length_take, toL_size]; omega) ha
        have hp := pow17 k (by omega)
        rw [← hv] at hb
        have b1 : 0 ≤ v := hb.1
        have b2 : v < 100000000000000000 := by omega
        have Hv := hide (show v * 10 + ((s[k].toNat : Int) - 48) = lvV ((toL s).take (k + 1)) by rw [toL, take_snoc s k hlt, lvV_snoc, ← toL, ← hv])
        have Ha := hide (show ((toL s).take (k + 1)).all dgB = true by rw [toL, take_snoc s k hlt, allDg_snoc, ← toL, ha, hd]; rfl)
        have Hd := hide (show dgI (s[k].toNat : Int) = true from hd)
        clear hb hp hv ha hd
        go_wp2_with (go_at_call 27; refine (isDigit_any _ _).mono ?_; rintro e w' ⟨rfl, rfl⟩; rw [unhide Hd])
        go_round
        case rel => exact ⟨k + 1, v * 10 + ((s[k].toNat : Int) - 48), by omega, by go_num, by go_num, unhide Hv, unhide Ha⟩
        case measure => simp [intOf]; omega
    · have e1 : (toL s).take k = toL s := List.take_of_length_le (by rw [toL_size]; omega)
      rw [e1] at hv ha
      have Hv := hide hv
      have Ha := hide ha
      clear hv ha e1
      go_wp2
      go_ret2
      exact ⟨⟨v, true, rfl, fun _ => ⟨by omega, by omega, unhide Ha, unhide Hv⟩, fun k => by cases k⟩, rfl⟩

/-- what l1digits answers -/
def DgtAns (s : ByteArray) (e : Ending) : Prop :=
  ∃ (n : Int) (o : Bool), e = .returned (.tuple #[.int .i64 n, .bool o]) ∧ (o = true → 0 < s.size ∧ (toL s).all dgB = true ∧ n = lvV (toL s)) ∧ (o = false → ¬ (0 < s.size ∧ s.size ≤ 18 ∧ (toL s).all dgB = true))

theorem DgtAns.no {s : ByteArray} {n : Int} (h : ¬ (0 < s.size ∧ s.size ≤ 18 ∧ (toL s).all dgB = true)) : DgtAns s (.returned (.tuple #[.int .i64 n, .bool false])) := ⟨n, false, rfl, (fun k => by cases k), fun _ => h⟩

set_option maxHeartbeats 800000 in
theorem l1digits_all (s : ByteArray) (w : World) (hs : s.size ≤ 1048576) :
    Calls Tryd.prog 16 #[.string s] w fun e w' => DgtAns s e ∧ w' = w := by
  go_enter Tryd.func16, Tryd.ntmps16
  go_wp2
  go_loop [4, 5] (fun n i => ∃ (k : Nat) (v : Int), k ≤ s.size ∧ k ≤ 18 ∧ i = .int .i64 k ∧ n = .int .i64 v ∧ v = lvV ((toL s).take k) ∧ ((toL s).take k).all dgB = true) (fun _ i => s.size - (intOf i).toNat)
  case atStart => exact ⟨0, 0, Nat.zero_le _, by omega, rfl, rfl, rfl, rfl⟩
  case round =>
    obtain ⟨k, v, hk, hk18, rfl, rfl, hv, ha⟩ := hrel
    by_cases hlt : k < s.size
    · have ilt : (k : Int) < (s.size : Int) := by omega
      cases hd : dgB s[k]
      · have Hf := hide (show ¬ (0 < s.size ∧ s.size ≤ 18 ∧ (toL s).all dgB = true) from fun h => by rw [allDg_false s k hlt hd] at h; cases h.2.2)
        have hd' : (s[k].toNat : Int) < 48 ∨ 57 < (s[k].toNat : Int) := by
          rw [← Bool.not_eq_true, dgB_iff] at hd; omega
        clear hd hv ha
        rcases hd' with hd | hd
        · go_wp2
          go_ret2
          exact ⟨DgtAns.no (unhide Hf), rfl⟩
        · have hd2 : ¬ ((s[k].toNat : Int) < 48) := by omega
          go_wp2
          go_ret2
          exact ⟨DgtAns.no (unhide Hf), rfl⟩
      · obtain ⟨d1, d2⟩ := (dgB_iff _).1 hd
        have d1' : ¬ ((s[k].toNat : Int) < 48) := by omega
        have d2' : ¬ (57 < (s[k].toNat : Int)) := by omega
        by_cases h18 : 18 ≤ k
        · have Hf := hide (show ¬ (0 < s.size ∧ s.size ≤ 18 ∧ (toL s).all dgB = true) from fun h => by omega)
          have i18 : (18 : Int) ≤ (k : Int) := by omega
          clear hv ha hd
          go_wp2
          go_ret2
          exact ⟨DgtAns.no (unhide Hf), rfl⟩
        · have i18 : ¬ ((18 : Int) ≤ (k : Int)) := by omega
          have hb := lvV_bound k ((toL s).take k) (by rw [List.length_take, toL_size]; omega) ha
          have hp := pow17 k (by omega)
          rw [← hv] at hb
          have b1 : 0 ≤ v := hb.1
          have b2 : v < 100000000000000000 := by omega
          have Hv := hide (show v * 10 + ((s[k].toNat : Int) - 48) = lvV ((toL s).take (k + 1)) by rw [toL, take_snoc s k hlt, lvV_snoc, ← toL, ← hv])
          have Ha := hide (show ((toL s).take (k + 1)).all dgB = true by rw [toL, take_snoc s k hlt, allDg_snoc, ← toL, ha, hd]; rfl)
          clear hb hp hv ha hd
          go_wp2
          go_round
          case rel => exact ⟨k + 1, v * 10 + ((s[k].toNat : Int) - 48), by omega, by omega, by go_num, by go_num, unhide Hv, unhide Ha⟩
          case measure => simp [intOf]; omega
    · have e1 : (toL s).take k = toL s := List.take_of_length_le (by rw [toL_size]; omega)
      rw [e1] at hv ha
      have Hv := hide hv
      have Ha := hide ha
      clear hv ha e1
      by_cases h0 : 0 < s.size
      · have i0 : (0 : Int) < (s.size : Int) := by omega
        go_wp2
        go_ret2
        exact ⟨⟨v, true, rfl, fun _ => ⟨h0, unhide Ha, unhide Hv⟩, fun k => by cases k⟩, rfl⟩
      · have i0 : ¬ ((0 : Int) < (s.size : Int)) := by omega
        have Hf := hide (show ¬ (0 < s.size ∧ s.size ≤ 18 ∧ (toL s).all dgB = true) from fun h => by omega)
        go_wp2
        go_ret2
        exact ⟨DgtAns.no (unhide Hf), rfl⟩

end Go.Proofs.YthdoakeocaegkaaDoor

/-
  FnExactWithin. Own work.
-/
import Derived.Test.YtemekdkeggibaaaML
import Derived.Test.YtemekdkeggibaaaOpen
import Derived.WalkKit
import Derived.ProofKit
import Derived.OpenShut
import Derived.ShutString
import Derived.ChangeOld
import Derived.Below
namespace Go.Proofs.Ytemekdkeggibaaa
open Go.RowKit

def withinB (ss tt : List ByteArray) : Bool := setB ss && (setB tt && decide ((pick ss tt false).length = 0))

theorem set_parts {ss : List ByteArray} (h : setB ss = true) : ss.length ≤ 64 ∧ risB ss = true := by
  simp [setB] at h; exact ⟨h.1, h.2.2⟩

set_option maxHeartbeats 800000 in
theorem sWithin_any (a : Option Addr) (n c : Nat) (ss : List ByteArray) (a' : Option Addr) (n' c' : Nat) (tt : List ByteArray) (w : World) (h : Strs w a n c ss) (h' : Strs w a' n' c' tt) :
    Calls Try.prog 19 #[.slice a n c, .slice a' n' c'] w fun e w' => e = .returned (.bool (withinB ss tt)) ∧ Below w.heap.size w w' := by
  cases v1 : setB ss
  · go_enter Try.func19, Try.ntmps19
    go_wp2_with fail
    refine (sIsSet_any _ _ _ _ _ h).mono ?_
    rintro e w1 ⟨rfl, rfl⟩
    go_wp2_with fail
    go_ret
    exact ⟨ret_bool (by simp [withinB, v1]), Below.refl _ _⟩
  · cases v2 : setB tt
    · go_enter Try.func19, Try.ntmps19
      go_wp2_with fail
      refine (sIsSet_any _ _ _ _ _ h).mono ?_
      rintro e w1 ⟨rfl, rfl⟩
      go_wp2_with fail
      refine (sIsSet_any _ _ _ _ _ h').mono ?_
      rintro e w1 ⟨rfl, rfl⟩
      go_wp2_with fail
      go_ret
      exact ⟨ret_bool (by simp [withinB, v2]), Below.refl _ _⟩
    · have hn := (set_parts v1).1
      go_enter Try.func19, Try.ntmps19
      go_wp2_with fail
      refine (sIsSet_any _ _ _ _ _ h).mono ?_
      rintro e w1 ⟨rfl, rfl⟩
      go_wp2_with fail
      refine (sIsSet_any _ _ _ _ _ h').mono ?_
      rintro e w1 ⟨rfl, rfl⟩
      go_wp2_with fail
      refine (l1pick_any _ _ _ _ _ _ _ _ _ _ h h' (by have := h.len; omega)).mono ?_
      rintro e w1 ⟨x, cx, rfl, ho, hb⟩
      clear ho
      go_wp2_with fail
      go_ret
      refine ⟨ret_bool ?_, hb⟩
      simp only [withinB, v1, v2, Bool.true_and]
      rw [Bool.eq_iff_iff]; simp

set_option maxHeartbeats 800000 in
theorem iWithin_any (a : Option Addr) (n c : Nat) (ss : List ByteArray) (a' : Option Addr) (n' c' : Nat) (tt : List ByteArray) (w : World) (h : Strs w a n c ss) (h' : Strs w a' n' c' tt) :
    Calls Try.prog 20 #[.slice a n c, .slice a' n' c'] w fun e w' => e = .returned (.bool (withinB ss tt)) ∧ Below w.heap.size w w' := by
  cases v1 : setB ss
  · go_enter Try.func20, Try.ntmps20
    go_wp2_with fail
    refine (iIsSet_any _ _ _ _ _ h).mono ?_
    rintro e w1 ⟨rfl, hb1⟩
    go_wp2_with fail
    go_ret
    exact ⟨ret_bool (by simp [withinB, v1]), hb1⟩
  · cases v2 : setB tt
    · go_enter Try.func20, Try.ntmps20
      go_wp2_with fail
      refine (iIsSet_any _ _ _ _ _ h).mono ?_
      rintro e w1 ⟨rfl, hb1⟩
      go_wp2_with fail
      refine (iIsSet_any _ _ _ _ _ (h'.below hb1 (Nat.le_refl _))).mono ?_
      rintro e w2 ⟨rfl, hb2⟩
      go_wp2_with fail
      go_ret
      exact ⟨ret_bool (by simp [withinB, v2]), hb1.trans (hb2.mono hb1.size)⟩
    · obtain ⟨hn, hr⟩ := set_parts v1
      obtain ⟨hn', hr'⟩ := set_parts v2
      have Hr := hide hr
      have Hr' := hide hr'
      clear hr hr'
      go_enter Try.func20, Try.ntmps20
      go_wp2_with fail
      refine (iIsSet_any _ _ _ _ _ h).mono ?_
      rintro e w1 ⟨rfl, hb1⟩
      go_wp2_with fail
      refine (iIsSet_any _ _ _ _ _ (h'.below hb1 (Nat.le_refl _))).mono ?_
      rintro e w2 ⟨rfl, hb2⟩
      have B2 := hb1.trans (hb2.mono hb1.size)
      go_wp2_with fail
      refine (merge_KL _ _ _ _ _ _ _ _ _ (h.below B2 (Nat.le_refl _)) (h'.below B2 (Nat.le_refl _)) (unhide Hr) (unhide Hr') (by have := h.len; omega) (by have := h'.len; omega)).mono ?_
      rintro e w3 ⟨x, cx, K, rfl, ho, hb3, hK⟩
      clear ho
      have HK := hide hK.last
      clear hK
      go_wp2_with fail
      go_ret
      refine ⟨ret_bool ?_, B2.trans (hb3.mono B2.size)⟩
      rw [unhide HK]
      simp only [withinB, v1, v2, Bool.true_and]
      rw [Bool.eq_iff_iff]; simp

set_option maxHeartbeats 1600000 in
theorem fnExactWithin_walk (a : Option Addr) (n c : Nat) (ss : List ByteArray) (a' : Option Addr) (n' c' : Nat) (tt : List ByteArray) (w : World) (h : Strs w a n c ss) (h' : Strs w a' n' c' tt) :
    Calls Try.prog 6 #[.slice a n c, .slice a' n' c'] w fun e w' => e = .returned (.bool true) ∧ Below w.heap.size w w' := by
  go_enter Try.func6, Try.ntmps6
  go_wp2_with fail
  refine (szStringS_any _ _ _ _ _ _ h (by omega) (by omega)).mono ?_
  rintro e w' ⟨⟨r, rfl, hr⟩, rfl⟩
  by_cases h0 : r < 0
  · go_wp2_with fail
    go_ret
    exact ⟨rfl, Below.refl _ _⟩
  · have hn : n ≤ 1048576 ∧ r ≤ 1048576 := by rcases hr with hr | ⟨_, hr⟩ <;> omega
    have h0' : 0 ≤ r := by omega
    clear hr h0
    go_wp2_with fail
    refine (szStringS_any _ _ _ _ _ _ h' (by omega) (by omega)).mono ?_
    rintro e w' ⟨⟨r', rfl, hr⟩, rfl⟩
    by_cases h1 : r' < 0
    · go_wp2_with fail
      go_ret
      exact ⟨rfl, Below.refl _ _⟩
    · have hn' : n' ≤ 1048576 := by rcases hr with hr | ⟨_, hr⟩ <;> omega
      have h1' : 0 ≤ r' := by omega
      clear hr h1
      go_wp2_with fail
      refine (toStringS_any _ _ _ _ _ h hn.1).mono ?_
      rintro e w1 ⟨rfl, hb1, ho1⟩
      have s1 := Strs.of_owns ho1 h.sizes
      have B1 := hb1
      go_wp2_with fail
      refine (toStringS_any _ _ _ _ _ (h'.below B1 (Nat.le_refl _)) hn').mono ?_
      rintro e w2 ⟨rfl, hb2, ho2⟩
      have s2 := Strs.of_owns ho2 h'.sizes
      have B2 := B1.trans (hb2.mono B1.size)
      go_wp2_with fail
      refine (sWithin_any _ _ _ _ _ _ _ _ _ (s1.below hb2 (Nat.le_refl _)) s2).mono ?_
      rintro e w3 ⟨rfl, hb3⟩
      have B3 := B2.trans (hb3.mono B2.size)
      clear s1 s2 ho1 ho2 hb1 hb2 hb3 B1 B2
      go_wp2_with fail
      refine (toStringS_any _ _ _ _ _ (h.below B3 (Nat.le_refl _)) hn.1).mono ?_
      rintro e w4 ⟨rfl, hb4, ho4⟩
      have s1 := Strs.of_owns ho4 h.sizes
      have B4 := B3.trans (hb4.mono B3.size)
      go_wp2_with fail
      refine (toStringS_any _ _ _ _ _ (h'.below B4 (Nat.le_refl _)) hn').mono ?_
      rintro e w5 ⟨rfl, hb5, ho5⟩
      have s1 := s1.below hb5 (Nat.le_refl _)
      have s2 := Strs.of_owns ho5 h'.sizes
      have B5 := B4.trans (hb5.mono B4.size)
      clear ho4 ho5 hb4 hb5 B4 B3
      go_wp2_with fail
      refine (iWithin_any _ _ _ _ _ _ _ _ _ s1 s2).mono ?_
      rintro e w6 ⟨rfl, hb6⟩
      have s1 := s1.below hb6 (Nat.le_refl _)
      have s2 := s2.below hb6 (Nat.le_refl _)
      have B6 := B5.trans (hb6.mono B5.size)
      clear hb6 B5
      go_wp2_with fail
      refine (toStringS_any _ _ _ _ _ (h.below B6 (Nat.le_refl _)) hn.1).mono ?_
      rintro e w7 ⟨rfl, hb7, ho7⟩
      have s3 := Strs.of_owns ho7 h.sizes
      have B7 := B6.trans (hb7.mono B6.size)
      go_wp2_with fail
      refine (eqStringS_same _ _ _ _ _ _ _ (s1.below hb7 (Nat.le_refl _)) s3).mono ?_
      rintro e w8 ⟨rfl, hb8⟩
      have B8 := B7.trans (hb8.mono B7.size)
      have s2 := (s2.below hb7 (Nat.le_refl _)).below hb8 (Nat.le_refl _)
      clear s1 s3 ho7 hb7 hb8 B7 B6
      go_wp2_with fail
      refine (toStringS_any _ _ _ _ _ (h'.below B8 (Nat.le_refl _)) hn').mono ?_
      rintro e w9 ⟨rfl, hb9, ho9⟩
      have s3 := Strs.of_owns ho9 h'.sizes
      have B9 := B8.trans (hb9.mono B8.size)
      go_wp2_with fail
      refine (eqStringS_same _ _ _ _ _ _ _ (s2.below hb9 (Nat.le_refl _)) s3).mono ?_
      rintro e w10 ⟨rfl, hb10⟩
      go_wp2_with fail
      go_ret
      exact ⟨rfl, B9.trans (hb10.mono B9.size)⟩

end Go.Proofs.Ytemekdkeggibaaa

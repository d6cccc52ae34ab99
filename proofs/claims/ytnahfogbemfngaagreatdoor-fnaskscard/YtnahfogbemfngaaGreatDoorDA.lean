/-
  The draws of names. Own work.
-/
import Derived.Test.YtnahfogbemfngaaGreatDoorRd
import Derived.Test.YtnahfogbemfngaaGreatDoorOwn0
import Derived.Test.YtnahfogbemfngaaGreatDoorSorted
import Derived.Test.YtnahfogbemfngaaGreatDoorFA0
import Derived.Deep.RegionHeld3
namespace Go.Proofs.YtnahfogbemfngaaGreatDoor
open Go.RowKit
set_option linter.unusedVariables false

theorem Touch.drewN {lo hi : Nat} (w : World) (k : Nat) : Touch lo hi w (w.drewN k) := Touch.of_below (below_drewN (Below.refl w.heap.size w) k) (Nat.le_refl _)

theorem Touch.then_below {lo hi B : Nat} {w w1 w2 : World} (t : Touch lo hi w w1) (h : Below B w1 w2) (hB : w.heap.size ≤ B) : Touch lo hi w w2 :=
  ⟨h.os.trans t.os, h.tape.trans t.tape, h.output.trans t.output, Nat.le_trans t.size h.size, fun k hk h' => (h.block k (by omega)).trans (t.block k hk h')⟩

theorem Rd.setFar {w w' : World} {R : Nat} {a : Option Addr} {n c p : Nat} (h : Rd w R a n c p) (hb : Below (R + 1) w w') : Rd w' R a n c p := h.after hb (Nat.lt_succ_self _)

set_option maxHeartbeats 800000 in
theorem next_t (R : Nat) (a : Option Addr) (n c : Nat) (w : World) (h : RdAt w R a n c) :
    Calls Tryz.prog 11 #[.pointer (some ⟨R, 0, none⟩)] w fun e w' => ∃ r : Int, e = .returned (.int .i64 r) ∧ 0 ≤ r ∧ r ≤ 255 ∧ RdAt w' R a n c ∧ Touch R (R + 1) w w' := by
  obtain ⟨p, h⟩ := h
  have c0 := h.row.cell 0
  have c1 := h.row.cell 1
  have f1 := h.row.frozen 1
  simp at c0 c1
  have hsm := h.small
  by_cases hp : p < n
  · obtain ⟨b, off, z, ha, hbR, hz, z0, z1⟩ := h.cells p hp
    subst ha
    have ip : (p : Int) < (n : Int) := by omega
    go_enter Tryz.func11, Tryz.ntmps11
    go_wp2
    go_quiet (fail)
    go_wp2
    go_quiet (fail)
    go_wp2
    go_ret
    refine ⟨_, rfl, z0, z1, ⟨p + 1, ?_⟩, ?_⟩
    · rw [show ((p : Int) + 1) = ((p + 1 : Nat) : Int) from by omega]
      exact (h.after (below_drewN (Below.refl (R + 1) w) _) (by omega)).step hp
    · exact (Touch.drewN w _).trans (Touch.setCell _ ⟨R, 1, none⟩ _ (Nat.le_refl R) (Nat.lt_succ_self R))
  · have ip : (n : Int) ≤ (p : Int) := by omega
    go_enter Tryz.func11, Tryz.ntmps11
    go_wp2
    go_quiet (fail)
    go_wp2
    go_ret
    exact ⟨_, rfl, by omega, by omega, ⟨p, h.after (below_drewN (Below.refl (R + 1) w) _) (by omega)⟩, Touch.drewN w _⟩

theorem RdAt.after {w w' : World} {B R : Nat} {a : Option Addr} {n c : Nat} (h : RdAt w R a n c) (hb : Below B w w') (hB : R < B) : RdAt w' R a n c := by
  obtain ⟨p, h⟩ := h
  exact ⟨p, h.after hb hB⟩

theorem RdAt.lt {w : World} {R : Nat} {a : Option Addr} {n c : Nat} (h : RdAt w R a n c) : R < w.heap.size := by
  obtain ⟨p, h⟩ := h
  exact h.row.lt

theorem word_at (w : World) (k : Nat) (hk : k < 8) : ∃ s : ByteArray, s.size ≤ 10 ∧ (w.alloc (.cells #[.string ⟨#[114, 101, 97, 100]⟩, .string ⟨#[119, 114, 105, 116, 101]⟩, .string ⟨#[97, 100, 109, 105, 110]⟩, .string ⟨#[109, 97, 105, 108]⟩, .string ⟨#[97]⟩, .string ⟨#[98]⟩, .string ⟨#[99, 46, 100]⟩, .string ⟨#[122, 95, 57]⟩] 9)).cell? ⟨w.heap.size, k, none⟩ = some (.string s) := by
  have h := (Row.new w #[.string ⟨#[114, 101, 97, 100]⟩, .string ⟨#[119, 114, 105, 116, 101]⟩, .string ⟨#[97, 100, 109, 105, 110]⟩, .string ⟨#[109, 97, 105, 108]⟩, .string ⟨#[97]⟩, .string ⟨#[98]⟩, .string ⟨#[99, 46, 100]⟩, .string ⟨#[122, 95, 57]⟩] 9).cell k
  match k, hk with
  | 0, _ => exact ⟨_, by decide, h⟩
  | 1, _ => exact ⟨_, by decide, h⟩
  | 2, _ => exact ⟨_, by decide, h⟩
  | 3, _ => exact ⟨_, by decide, h⟩
  | 4, _ => exact ⟨_, by decide, h⟩
  | 5, _ => exact ⟨_, by decide, h⟩
  | 6, _ => exact ⟨_, by decide, h⟩
  | 7, _ => exact ⟨_, by decide, h⟩

/-- what l1word answers -/
def WordAns (R : Nat) (a : Option Addr) (n c : Nat) (w : World) (e : Ending) (w' : World) : Prop :=
  ∃ s : ByteArray, e = .returned (.string s) ∧ s.size ≤ 1000 ∧ RdAt w' R a n c ∧ Touch R (R + 1) w w'

set_option maxRecDepth 100000 in
set_option maxHeartbeats 1600000 in
theorem l1word_t (R : Nat) (a : Option Addr) (n c : Nat) (w : World) (h : RdAt w R a n c) :
    Calls Tryz.prog 25 #[.pointer (some ⟨R, 0, none⟩)] w fun e w' => WordAns R a n c w e w' := by
  go_enter Tryz.func25, Tryz.ntmps25
  go_wp2_with fail
  refine (next_t R a n c w h).mono ?_
  rintro e w1 ⟨x, rfl, x0, x1, h1, t1⟩
  by_cases e6 : x % 8 = 6
  · have q6 : (x % 8 == 6) = true := beq_iff_eq.2 e6
    clear e6
    go_wp2_with fail
    refine (next_t R a n c _ h1).mono ?_
    rintro e w2 ⟨y, rfl, y0, y1, h2, t2⟩
    go_wp2_with fail
    refine (l1decimal_int _ _ (by omega) (by omega)).mono ?_
    rintro e w3 ⟨rfl, hb3⟩
    have z3 := decB_size (x / 8).toNat
    have k3 : (⟨#[115]⟩ : ByteArray).size = 1 := rfl
    have k4 : (⟨#[58]⟩ : ByteArray).size = 1 := rfl
    go_wp2_with fail
    refine (l1decimal_int _ _ (by omega) (by omega)).mono ?_
    rintro e w4 ⟨rfl, hb4⟩
    have z4 := decB_size y.toNat
    have lt2 := h2.lt
    go_wp2_with fail
    go_ret
    refine ⟨_, rfl, ?_, (h2.after hb3 lt2).after hb4 (Nat.lt_of_lt_of_le lt2 hb3.size), ((t1.trans t2).then_below hb3 (Nat.le_trans t1.size t2.size)).then_below hb4 (Nat.le_trans (Nat.le_trans t1.size t2.size) hb3.size)⟩
    rw [size_app, size_app, size_app]
    omega
  by_cases e7 : x % 8 = 7
  · have q6 : (x % 8 == 6) = false := beq_eq_false_iff_ne.2 e6
    have q7 : (x % 8 == 7) = true := beq_iff_eq.2 e7
    clear e6 e7
    by_cases h240 : 240 < x
    · go_wp2_with fail
      go_ret
      exact ⟨_, rfl, by decide, h1, t1⟩
    · have i240 : ¬ (240 < x) := h240
      go_wp2_with fail
      refine (next_t R a n c _ h1).mono ?_
      rintro e w2 ⟨y, rfl, y0, y1, h2, t2⟩
      go_wp2_with fail
      refine (l1decimal_int _ _ (by omega) (by omega)).mono ?_
      rintro e w3 ⟨rfl, hb3⟩
      have z3 := decB_size (y % 90).toNat
      have lt2 := h2.lt
      go_wp2_with fail
      go_ret
      refine ⟨_, rfl, ?_, h2.after hb3 lt2, (t1.trans t2).then_below hb3 (Nat.le_trans t1.size t2.size)⟩
      rw [size_app]
      have : (⟨#[120, 46]⟩ : ByteArray).size = 2 := rfl
      omega
  have q6 : (x % 8 == 6) = false := beq_eq_false_iff_ne.2 e6
  have q7 : (x % 8 == 7) = false := beq_eq_false_iff_ne.2 e7
  clear e6 e7
  obtain ⟨s, hs, hc⟩ := word_at w1 (x / 8 % 8).toNat (by omega)
  have lt1 := h1.lt
  go_wp2_with fail
  go_ret
  exact ⟨s, rfl, by omega, h1.after ((Below.refl w1.heap.size w1).alloc (Nat.le_refl _) _) lt1, t1.then_below ((Below.refl w1.heap.size w1).alloc (Nat.le_refl _) _) t1.size⟩

end Go.Proofs.YtnahfogbemfngaaGreatDoor

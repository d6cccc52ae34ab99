/-
  FnExactFormatAsk: the law. Own work.
-/
import Derived.Test.YtemekdkeggibaabDoorFD
import Derived.Deep.RegionWith
namespace Go.Proofs.YtemekdkeggibaabDoor
open Go.RowKit

set_option maxHeartbeats 1600000 in
theorem fnExactFormatAsk_walk (cl us : ByteArray) (lv : Int) (a : Option Addr) (n c : Nat) (ss : List ByteArray) (w : World)
    (hcl : cl.size ≤ maxLen) (hus : us.size ≤ maxLen) (h : Strs w a n c ss) (ht : Pow w) :
    Calls Tryd.prog 4 #[.agg #[.string cl, .string us, .int .i64 lv, .slice a n c]] w fun e w' => e = .returned (.bool true) ∧ Below w.heap.size w w' := by
  have B0 := (Below.refl w.heap.size w).alloc (Nat.le_refl _) (.cells #[.string cl, .string us, .int .i64 lv, .slice a n c] 29)
  have R0 := Row.new w #[.string cl, .string us, .int .i64 lv, .slice a n c] 29
  go_enter Tryd.func4, Tryd.ntmps4
  go_wp2_with fail
  refine (szAsk_any cl us lv a n c ss _ _ hcl hus (h.below B0 (Nat.le_refl _)) (by omega) (by omega)).mono ?_
  rintro e w1 ⟨⟨r, rfl, hr⟩, hb1⟩
  have B1 := B0.trans (hb1.mono (by simp))
  by_cases e0 : r < 0
  · go_wp2_with fail
    go_ret
    exact ⟨rfl, B1⟩
  · have e0' : 0 ≤ r := by omega
    have k1 : n ≤ 1048576 := by rcases hr with hr | ⟨_, hr⟩ <;> omega
    clear hr e0
    have R1 := R0.after hb1 (Nat.le_refl _)
    obtain ⟨c0, c1, c2, c3⟩ := ask_all R1 (Below.refl _ _)
    clear R0 B0 hb1
    go_wp2_with fail
    refine (toAsk_any cl us lv a n c ss _ (h.below B1 (Nat.le_refl _)) k1).mono ?_
    rintro e w2 ⟨x1, rfl, t1, hb2⟩
    go_wp2_with fail
    refine (sFormatAsk_any cl us lv _ n n ss _ hcl hus t1).mono ?_
    rintro e w3 ⟨rfl, hb3⟩
    have B3 := (B1.trans (hb2.mono B1.size)).trans (hb3.mono (Nat.le_trans B1.size hb2.size))
    have R3 := (R1.after hb2 (Nat.le_refl _)).after hb3 (Nat.le_refl _)
    clear c0 c1 c2 c3 hb2 hb3 t1
    obtain ⟨c0, c1, c2, c3⟩ := ask_all R3 (Below.refl _ _)
    go_wp2_with fail
    refine (toAsk_any cl us lv a n c ss _ (h.below B3 (Nat.le_refl _)) k1).mono ?_
    rintro e w4 ⟨y1, rfl, t1, hb4⟩
    have B4 := B3.trans (hb4.mono B3.size)
    have R4 := R3.after hb4 (Nat.le_refl _)
    have B5 := B4.alloc B4.size (.cells #[.string cl, .string us, .int .i64 lv, .slice (some y1) n n] 32)
    have B45 := (Below.refl w4.heap.size w4).alloc (Nat.le_refl _) (.cells #[.string cl, .string us, .int .i64 lv, .slice (some y1) n n] 32)
    have R5 := R4.alloc (.cells #[.string cl, .string us, .int .i64 lv, .slice (some y1) n n] 32)
    have X5 := Row.new w4 #[.string cl, .string us, .int .i64 lv, .slice (some y1) n n] 32
    have t1' := t1.below B45 (Nat.le_refl _)
    have ht5 := ht.below B5
    clear c0 c1 c2 c3 hb4 t1 B45
    go_wp2_with fail
    refine (iFormatAsk_any cl us lv _ n n ss _ hcl hus t1' ht5).mono ?_
    rintro e w6 ⟨rfl, hb6⟩
    have B6 := B5.trans (hb6.mono (Nat.le_trans B4.size (by simp)))
    have R6 := R5.after hb6 (Nat.le_refl _)
    have X6 := X5.after hb6 (Nat.le_refl _)
    have u1 := t1'.below hb6 (Nat.le_refl _)
    clear R3 R4 R5 X5 t1' hb6 B4 B5 B3 R1 B1 ht5 ht
    go_wp2_with fail
    obtain ⟨c0, c1, c2, c3⟩ := ask_all R6 (Below.refl _ _)
    obtain ⟨d0, d1, d2, d3⟩ := ask_all X6 (Below.refl _ _)
    go_region_with (first
      | (go_at_call 14; refine (toAsk_any cl us lv a n c ss _ ?_ k1).mono ?_; exact h.below B6.drew (Nat.le_refl _); rintro e w7 ⟨z1, rfl, v1, hb7⟩; have X7 := Row.after (w := w6.drew) ⟨X6.out⟩ hb7 (Nat.le_refl _); obtain ⟨d0', d1', d2', d3'⟩ := ask_all X7 (Below.refl _ _))
      | (go_at_call 16; refine (eqAsk_same cl us lv _ n _ ss _ _ _ ?_ ?_).mono ?_; exact (u1.drewN 1).below hb7 (Nat.le_refl _); exact v1; rintro e w8 ⟨rfl, hb8⟩))
    all_goals
      clear d0 d1 d2 d3 c0 c1 c2 c3
      go_wp2_with fail
      go_ret
      exact ⟨rfl, (B6.drew.trans (hb7.mono B6.size)).trans (hb8.mono (Nat.le_trans B6.size hb7.size))⟩

end Go.Proofs.YtemekdkeggibaabDoor

/-
  FnExactValidRequest: the law. Own work.
-/
import Derived.Test.YtemekdkeggibaaaVR2
import Derived.Deep.RegionWith
namespace Go.Proofs.Ytemekdkeggibaaa
open Go.RowKit

set_option maxHeartbeats 1600000 in
theorem fnExactValidRequest_walk (cl us : ByteArray) (lv nw : Int) (a1 : Option Addr) (n1 c1 : Nat) (s1 : List ByteArray) (a2 : Option Addr) (n2 c2 : Nat) (s2 : List ByteArray) (w : World)
    (hcl : cl.size ≤ maxLen) (hus : us.size ≤ maxLen) (h1 : Strs w a1 n1 c1 s1) (h2 : Strs w a2 n2 c2 s2) :
    Calls Try.prog 5 #[.agg #[.string cl, .string us, .int .i64 lv, .int .i64 nw, .slice a1 n1 c1, .slice a2 n2 c2]] w fun e w' => e = .returned (.bool true) ∧ Below w.heap.size w w' := by
  have B0 := (Below.refl w.heap.size w).alloc (Nat.le_refl _) (.cells #[.string cl, .string us, .int .i64 lv, .int .i64 nw, .slice a1 n1 c1, .slice a2 n2 c2] 29)
  have R0 := Row.new w #[.string cl, .string us, .int .i64 lv, .int .i64 nw, .slice a1 n1 c1, .slice a2 n2 c2] 29
  go_enter Try.func5, Try.ntmps5
  go_wp2_with fail
  refine (szRequest_any cl us lv nw a1 n1 c1 s1 a2 n2 c2 s2 _ _ hcl hus (h1.below B0 (Nat.le_refl _)) (h2.below B0 (Nat.le_refl _)) (by omega) (by omega)).mono ?_
  rintro e w1 ⟨⟨r, rfl, hr⟩, hb1⟩
  have B1 := B0.trans (hb1.mono (by simp))
  by_cases e0 : r < 0
  · go_wp2_with fail
    go_ret
    exact ⟨rfl, B1⟩
  · have e0' : 0 ≤ r := by omega
    have k1 : n1 ≤ 1048576 := by rcases hr with hr | ⟨_, hr⟩ <;> omega
    have k2 : n2 ≤ 1048576 := by rcases hr with hr | ⟨_, hr⟩ <;> omega
    clear hr e0
    have R1 := R0.after hb1 (Nat.le_refl _)
    have c0 := R1.cell 0
    have c1' := R1.cell 1
    have c2' := R1.cell 2
    have c3 := R1.cell 3
    have c4 := R1.cell 4
    have c5 := R1.cell 5
    simp at c0 c1' c2' c3 c4 c5
    clear R0 B0 hb1
    go_wp2_with fail
    refine (toRequest_any cl us lv nw a1 n1 c1 s1 a2 n2 c2 s2 _ (h1.below B1 (Nat.le_refl _)) (h2.below B1 (Nat.le_refl _)) k1 k2).mono ?_
    rintro e w2 ⟨x1, x2, rfl, t1, t2, hb2⟩
    go_wp2_with fail
    refine (sValidRequest_any cl us lv nw _ n1 n1 s1 _ n2 n2 s2 _ hcl hus t1 t2).mono ?_
    rintro e w3 ⟨rfl, hb3⟩
    have B3 := (B1.trans (hb2.mono B1.size)).trans (hb3.mono (Nat.le_trans B1.size hb2.size))
    have R3 := (R1.after hb2 (Nat.le_refl _)).after hb3 (Nat.le_refl _)
    clear c0 c1' c2' c3 c4 c5 hb2 hb3 t1 t2
    have c0 := R3.cell 0
    have c1' := R3.cell 1
    have c2' := R3.cell 2
    have c3 := R3.cell 3
    have c4 := R3.cell 4
    have c5 := R3.cell 5
    simp at c0 c1' c2' c3 c4 c5
    go_wp2_with fail
    refine (toRequest_any cl us lv nw a1 n1 c1 s1 a2 n2 c2 s2 _ (h1.below B3 (Nat.le_refl _)) (h2.below B3 (Nat.le_refl _)) k1 k2).mono ?_
    rintro e w4 ⟨y1, y2, rfl, t1, t2, hb4⟩
    have B4 := B3.trans (hb4.mono B3.size)
    have R4 := R3.after hb4 (Nat.le_refl _)
    have B5 := B4.alloc B4.size (.cells #[.string cl, .string us, .int .i64 lv, .int .i64 nw, .slice (some y1) n1 n1, .slice (some y2) n2 n2] 32)
    have B45 := (Below.refl w4.heap.size w4).alloc (Nat.le_refl _) (.cells #[.string cl, .string us, .int .i64 lv, .int .i64 nw, .slice (some y1) n1 n1, .slice (some y2) n2 n2] 32)
    have R5 := R4.alloc (.cells #[.string cl, .string us, .int .i64 lv, .int .i64 nw, .slice (some y1) n1 n1, .slice (some y2) n2 n2] 32)
    have X5 := Row.new w4 #[.string cl, .string us, .int .i64 lv, .int .i64 nw, .slice (some y1) n1 n1, .slice (some y2) n2 n2] 32
    have t1' := t1.below B45 (Nat.le_refl _)
    have t2' := t2.below B45 (Nat.le_refl _)
    clear c0 c1' c2' c3 c4 c5 hb4 t1 t2 B45
    go_wp2_with fail
    refine (iValidRequest_any cl us lv nw _ n1 n1 s1 _ n2 n2 s2 _ hcl hus t1' t2').mono ?_
    rintro e w6 ⟨rfl, hb6⟩
    have B6 := B5.trans (hb6.mono (Nat.le_trans B4.size (by simp)))
    have R6 := R5.after hb6 (Nat.le_refl _)
    have X6 := X5.after hb6 (Nat.le_refl _)
    have u1 := t1'.below hb6 (Nat.le_refl _)
    have u2 := t2'.below hb6 (Nat.le_refl _)
    clear R3 R4 R5 X5 t1' t2' hb6 B4 B5 B3 R1 B1
    go_wp2_with fail
    have c0 := R6.cell 0
    have c1' := R6.cell 1
    have c2' := R6.cell 2
    have c3 := R6.cell 3
    have c4 := R6.cell 4
    have c5 := R6.cell 5
    have d0 := X6.cell 0
    have d1 := X6.cell 1
    have d2 := X6.cell 2
    have d3 := X6.cell 3
    have d4 := X6.cell 4
    have d5 := X6.cell 5
    simp at c0 c1' c2' c3 c4 c5 d0 d1 d2 d3 d4 d5
    go_region_with (first
      | (go_at_call 16; refine (toRequest_any cl us lv nw a1 n1 c1 s1 a2 n2 c2 s2 _ ?_ ?_ k1 k2).mono ?_; exact h1.below B6.drew (Nat.le_refl _); exact h2.below B6.drew (Nat.le_refl _); rintro e w7 ⟨z1, z2, rfl, v1, v2, hb7⟩; have X7 := Row.after (w := w6.drew) ⟨X6.out⟩ hb7 (Nat.le_refl _); have d0' := X7.cell 0; have d1' := X7.cell 1; have d2' := X7.cell 2; have d3' := X7.cell 3; have d4' := X7.cell 4; have d5' := X7.cell 5; simp at d0' d1' d2' d3' d4' d5')
      | (go_at_call 18; refine (eqRequest_same cl us lv nw _ n1 _ s1 _ n2 _ s2 _ _ _ _ _ ?_ ?_ ?_ ?_).mono ?_; exact (u1.drewN 1).below hb7 (Nat.le_refl _); exact (u2.drewN 1).below hb7 (Nat.le_refl _); exact v1; exact v2; rintro e w8 ⟨rfl, hb8⟩))
    all_goals
      clear d0 d1 d2 d3 d4 d5 c0 c1' c2' c3 c4 c5
      go_wp2_with fail
      go_ret
      exact ⟨rfl, (B6.drew.trans (hb7.mono B6.size)).trans (hb8.mono (Nat.le_trans B6.size hb7.size))⟩

end Go.Proofs.Ytemekdkeggibaaa

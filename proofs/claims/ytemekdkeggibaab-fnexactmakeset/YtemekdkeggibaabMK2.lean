/-
  FnExactMakeSet: the law. Own work.
-/
import Derived.Test.YtemekdkeggibaabMK
namespace Go.Proofs.Ytemekdkeggibaab
open Go.RowKit

set_option maxRecDepth 100000 in
set_option maxHeartbeats 2000000 in
theorem fnExactMakeSet_walk (a : Option Addr) (n c : Nat) (ss : List ByteArray) (w : World) (h : Strs w a n c ss) :
    Calls Try.prog 3 #[.slice a n c] w fun e w' => e = .returned (.bool true) ∧ Below w.heap.size w w' := by
  go_enter Try.func3, Try.ntmps3
  go_wp2_with fail
  refine (szStringS_any _ _ _ _ _ _ h (by omega) (by omega)).mono ?_
  rintro e w' ⟨⟨r, rfl, hr⟩, rfl⟩
  by_cases h0 : r < 0
  · go_wp2_with fail
    go_ret
    exact ⟨rfl, Below.refl _ _⟩
  have hn : n ≤ 1048576 := by rcases hr with hr | ⟨_, hr⟩ <;> omega
  have h0' : 0 ≤ r := by omega
  clear hr h0
  -- w0
  go_wp2_with fail
  refine (toStringS_any _ _ _ _ _ h hn).mono ?_
  rintro e w1 ⟨rfl, hb1, ho1⟩
  have s1 := Strs.of_owns ho1 h.sizes
  go_wp2_with fail
  refine (sMakeSet_any _ _ _ _ _ s1).mono ?_
  rintro e w3 ⟨x0, c0, LL, code, rfl, ho3, hb3, hu⟩
  have hL : LL.length ≤ 64 := hu.len
  have hLs := hu.sizes (by rw [← h.len]; exact h.sizes)
  have Hu := hide hu
  clear hu
  have B3 := hb1.trans (hb3.mono hb1.size)
  have OW := OwnS.of (owns_mono ho3 (Nat.zero_le _)) hLs
  clear s1 ho1 ho3 hb1 hb3
  -- x0
  go_wp2_with fail
  refine (toStringS_any _ _ _ _ _ (h.below B3 (Nat.le_refl _)) hn).mono ?_
  rintro e w4 ⟨rfl, hb4, ho4⟩
  have B4 := B3.trans (hb4.mono B3.size)
  have OX := OwnS.of ho4 h.sizes
  have z34 := hb4.size
  have OW := OW.below hb4 (Nat.le_refl _)
  clear ho4 hb4
  -- g0
  go_wp2_with fail
  refine (iMakeSet_any _ _ _ _ _ _ OX.strs).mono ?_
  rintro e w6 ⟨y0, d0, L2, code2, rfl, ho6, hb6, hu6⟩
  obtain ⟨e1, e2⟩ := hu6.unique (unhide Hu)
  rw [e1, e2]
  rw [e1] at ho6
  clear hu6 e1 e2 L2 code2
  have B6 := B4.trans (hb6.mono B4.size)
  have z56 := hb6.size
  have OG := OwnS.of ho6 hLs
  have OW := OW.below hb6 (by have := OW.top; omega)
  have OX := OX.below hb6 (Nat.le_refl _)
  clear ho6 hb6
  go_wp2_with fail
  refine (eqStringS_same _ _ _ _ _ _ _ OG.strs OW.strs).mono ?_
  rintro e w7 ⟨rfl, hb7⟩
  have B7 := B6.trans (hb7.mono B6.size)
  have OG := OG.below hb7 (Nat.le_refl _)
  have OW := OW.below hb7 (by have := OW.top; omega)
  have OX := OX.below hb7 (by have := OX.top; omega)
  clear hb7
  go_wp2_with fail
  refine (toStringS_any _ _ _ _ _ (h.below B7 (Nat.le_refl _)) hn).mono ?_
  rintro e w8 ⟨rfl, hb8, ho8⟩
  have B8 := B7.trans (hb8.mono B7.size)
  have OG := OG.below hb8 (by have := OG.top; omega)
  have OW := OW.below hb8 (by have := OW.top; omega)
  have OX := OX.below hb8 (by have := OX.top; omega)
  go_wp2_with fail
  refine (eqStringS_same _ _ _ _ _ _ _ OX.strs (Strs.of_owns ho8 h.sizes)).mono ?_
  rintro e w11 ⟨rfl, hb11⟩
  have B11 := B8.trans (hb11.mono B8.size)
  have OG := OG.below hb11 (by have := OG.top; omega)
  have OW := OW.below hb11 (by have := OW.top; omega)
  have OX := OX.below hb11 (by have := OX.top; omega)
  clear ho8 hb8 hb11 B4 B6 B7 B8
  have q3 := B3.size
  -- marks on x0
  go_wp2_with fail
  refine (markStringS_int _ _ _ _ _ _ _ _ OX (by omega) (by omega)).mono ?_
  rintro e w13 ⟨rfl, OX', T13⟩
  have B13 := below_touch B11 T13 q3 B11.size
  have OG := OG.touch T13 (by omega)
  have OW := OW.touch T13 (by omega)
  clear OX' T13 OX B11
  have hnn : ¬ ((1 : Int) + n < 0) := by omega
  go_wp2_with fail
  refine (eqStringS_same _ _ _ _ _ _ _ OG.strs OW.strs).mono ?_
  rintro e w14 ⟨rfl, hb14⟩
  have B14 := B13.trans (hb14.mono B13.size)
  have OG := OG.below hb14 (by have := OG.top; omega)
  have OW := OW.below hb14 (by have := OW.top; omega)
  clear hb14 B13 hnn
  -- marks on g0
  go_wp2_with fail
  refine (markStringS_int _ _ _ _ _ _ _ _ OG (by omega) (by omega)).mono ?_
  rintro e w15 ⟨rfl, OM, T15⟩
  have B15 := below_touch B14 T15 (by omega) B14.size
  have OW := OW.touch T15 (by omega)
  clear T15 OG B14
  go_wp2_with fail
  refine (heldStringS_int _ _ _ _ _ OM.strs (by omega) (by omega)).mono ?_
  rintro e w16 ⟨rfl, hb16⟩
  have B16 := B15.trans (hb16.mono B15.size)
  have OM := OM.below hb16 (by have := OM.top; omega)
  have OW := OW.below hb16 (by have := OW.top; omega)
  clear hb16 B15
  have hq : ¬ ((1 : Int) + LL.length < 0) := by omega
  -- once more
  go_wp2_with fail
  refine (toStringS_any _ _ _ _ _ (h.below B16 (Nat.le_refl _)) hn).mono ?_
  rintro e w18 ⟨rfl, hb18, ho18⟩
  have B18 := B16.trans (hb18.mono B16.size)
  have s1 := Strs.of_owns ho18 h.sizes
  have OM := OM.below hb18 (by have := OM.top; omega)
  have OW := OW.below hb18 (by have := OW.top; omega)
  clear ho18 hb18 B16
  go_wp2_with fail
  refine (iMakeSet_any _ _ _ _ _ _ s1).mono ?_
  rintro e w19 ⟨y1, d1, L3, code3, rfl, ho19, hb19, hu19⟩
  obtain ⟨e1, e2⟩ := hu19.unique (unhide Hu)
  rw [e1, e2]
  rw [e1] at ho19
  clear hu19 e1 e2 L3 code3
  have B19 := B18.trans (hb19.mono B18.size)
  have OM := OM.below hb19 (by have := OM.top; omega)
  have OW := OW.below hb19 (by have := OW.top; omega)
  clear hb19 B18 s1
  go_wp2_with fail
  refine (eqStringS_same _ _ _ _ _ _ _ (Strs.of_owns ho19 hLs) OW.strs).mono ?_
  rintro e w20 ⟨rfl, hb20⟩
  have B20 := B19.trans (hb20.mono B19.size)
  have OM := OM.below hb20 (by have := OM.top; omega)
  clear hb20 B19 OW ho19
  go_wp2_with fail
  refine (heldStringS_int _ _ _ _ _ OM.strs (by omega) (by omega)).mono ?_
  rintro e w21 ⟨rfl, hb21⟩
  have B21 := B20.trans (hb21.mono B20.size)
  clear hb21 B20 OM
  go_wp2
  go_ret
  exact ⟨rfl, B21⟩

end Go.Proofs.Ytemekdkeggibaab

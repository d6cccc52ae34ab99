/-
  The law of safe nodes, walked. Own work.
-/
import Derived.Test.YtjapdeehnfoonaaGreatDoorSFO
import Derived.Test.YtjapdeehnfoonaaGreatDoorZT1
import Derived.Test.YtjapdeehnfoonaaGreatDoorMWS
namespace Go.Proofs.YtjapdeehnfoonaaGreatDoor
open Go.RowKit
set_option linter.unusedVariables false

set_option maxRecDepth 100000 in
set_option maxHeartbeats 3200000 in
theorem fnExactSafe_walk (a b f : Option Addr) (n c m d p g : Nat) (N : List Nd) (L : List St) (T : List Int) (nd : Int) (aT aN aA : Addr) (w : World) (h1 : NdsR w a n c N) (h2 : StsR w b m d L) (h3 : IntsR w f p g T) (hT : TabOK w) (hV : Vok w aT) (hE : Eok w aN aA) :
    Calls Tryz.prog 3 #[.agg #[.slice a n c, .slice b m d, .slice f p g], .int .i64 nd] w fun e w' => e = .returned (.bool true) ∧ Below w.heap.size w w' := by
  have R0 := Row.new w #[.slice a n c, .slice b m d, .slice f p g] 26
  have B0 := (Below.refl w.heap.size w).alloc (Nat.le_refl _) (.cells #[.slice a n c, .slice b m d, .slice f p g] 26)
  have N0 := h1.below B0 (Nat.le_refl _)
  have L0 := h2.below B0 (Nat.le_refl _)
  have T0 := hT.below B0 (Nat.le_refl _)
  have I0 := h3.below B0 (Nat.le_refl _)
  have V0 := hV.below B0 (Nat.le_refl _)
  have E0 := hE.below B0 (Nat.le_refl _)
  go_enter Tryz.func3, Tryz.ntmps3
  go_wp2_with (go_at_call 4; refine (szTyped_any _ _ _ _ _ _ _ _ _ N L T _ N0 L0 I0).mono ?_; rintro e w1 ⟨⟨r, rfl, hr⟩, hb1⟩; have Hr := hide hr; clear hr; have E1 := B0.trans (hb1.mono B0.size); have N1 := N0.below hb1 (Nat.le_refl _); have L1 := L0.below hb1 (Nat.le_refl _); have T1 := T0.below hb1 (Nat.le_refl _); have I1 := I0.below hb1 (Nat.le_refl _); have V1 := V0.below hb1 (Nat.le_refl _); have F1 := E0.below hb1 (Nat.le_refl _); have R1 := R0.after hb1 (Nat.le_refl _); obtain ⟨q0, q1, q2⟩ := rowT3 R1)
  · go_ret
    exact ⟨rfl, E1⟩
  · have hs : smallT n m p N L := by
      rcases unhide Hr with e | e
      · omega
      · exact e.2.2
    refine (toTyped_any _ _ _ _ _ _ _ _ _ N L T _ N1 L1 I1 hs).mono ?_
    rintro e w2 ⟨x1, x2, x3, rfl, Na, La, Ia, hb2⟩
    have E2 := E1.trans (hb2.mono E1.size)
    have N2 := N1.below hb2 (Nat.le_refl _)
    have L2 := L1.below hb2 (Nat.le_refl _)
    have T2 := T1.below hb2 (Nat.le_refl _)
    have I2 := I1.below hb2 (Nat.le_refl _)
    have V2 := V1.below hb2 (Nat.le_refl _)
    have F2 := F1.below hb2 (Nat.le_refl _)
    have R2 := R1.after hb2 (Nat.le_refl _)
    clear N0 L0 T0 N1 L1 T1 R0 R1 hb1 hb2 q0 q1 q2
    go_wp2_with fail
    refine (sSafe_any _ _ _ _ _ _ _ _ _ N L T nd _ Na La Ia).mono ?_
    rintro e w3 ⟨⟨s0, rfl, hs0⟩, hb3⟩
    have HS0 := hide hs0
    clear hs0
    have E3 := E2.trans (hb3.mono E2.size)
    have N3 := N2.below hb3 (Nat.le_refl _)
    have L3 := L2.below hb3 (Nat.le_refl _)
    have T3 := T2.below hb3 (Nat.le_refl _)
    have I3 := I2.below hb3 (Nat.le_refl _)
    have V3 := V2.below hb3 (Nat.le_refl _)
    have F3 := F2.below hb3 (Nat.le_refl _)
    have R3 := R2.after hb3 (Nat.le_refl _)
    obtain ⟨q0, q1, q2⟩ := rowT3 R3
    clear N2 L2 T2 R2 hb3 Na La
    go_wp2_with fail
    refine (toTyped_any _ _ _ _ _ _ _ _ _ N L T _ N3 L3 I3 hs).mono ?_
    rintro e w4 ⟨y1, y2, y3, rfl, Nb, Lb, Ib, hb4⟩
    have E4 := E3.trans (hb4.mono E3.size)
    have N4 := N3.below hb4 (Nat.le_refl _)
    have L4 := L3.below hb4 (Nat.le_refl _)
    have T4 := T3.below hb4 (Nat.le_refl _)
    have I4 := I3.below hb4 (Nat.le_refl _)
    have V4 := V3.below hb4 (Nat.le_refl _)
    have F4 := F3.below hb4 (Nat.le_refl _)
    have R4 := R3.after hb4 (Nat.le_refl _)
    clear N3 L3 T3 R3 hb4 q0 q1 q2
    go_wp2_with fail
    have C4 := (Below.refl w4.heap.size w4).alloc (Nat.le_refl _) (.cells #[.slice (some y1) n n, .slice (some y2) m m, .slice (some y3) p p] 32)
    have E5 := E4.trans (C4.mono E4.size)
    have X4 := Row.new w4 #[.slice (some y1) n n, .slice (some y2) m m, .slice (some y3) p p] 32
    have Nb5 := Nb.below C4 (Nat.le_refl _)
    have Ib5 := Ib.below C4 (Nat.le_refl _)
    have Lb5 := Lb.below C4 (Nat.le_refl _)
    have N5 := N4.below C4 (Nat.le_refl _)
    have L5 := L4.below C4 (Nat.le_refl _)
    have T5 := T4.below C4 (Nat.le_refl _)
    have I5 := I4.below C4 (Nat.le_refl _)
    have V5 := V4.below C4 (Nat.le_refl _)
    have F5 := F4.below C4 (Nat.le_refl _)
    have R5 := R4.after C4 (Nat.le_refl _)
    refine (iSafe_any _ _ _ _ _ _ _ _ _ N L T nd aT aN aA _ Nb5 Lb5 Ib5 T5 V5 F5).mono ?_
    rintro e w6 ⟨⟨s1, rfl, hs1⟩, hb6⟩
    obtain rfl : s1 = s0 := hs1.one (unhide HS0)
    clear hs1 HS0
    have E6 := E5.trans (hb6.mono E5.size)
    have Nb6 := Nb5.below hb6 (Nat.le_refl _)
    have Lb6 := Lb5.below hb6 (Nat.le_refl _)
    have N6 := N5.below hb6 (Nat.le_refl _)
    have I6 := I5.below hb6 (Nat.le_refl _)
    have Ib6 := Ib5.below hb6 (Nat.le_refl _)
    have L6 := L5.below hb6 (Nat.le_refl _)
    have X6 := X4.after hb6 (Nat.le_refl _)
    have R6 := R5.after hb6 (Nat.le_refl _)
    obtain ⟨q0, q1, q2⟩ := rowT3 X6
    obtain ⟨p0, p1, p2⟩ := rowT3 R6
    clear Nb5 Lb5 N5 L5 T5 R5 Nb Lb N4 L4 T4 R4 C4 X4 hb6
    go_wp2_with fail
    have D6 : Below w6.heap.size w6 w6.drew := (Below.refl _ _).drew
    have s6 : w6.drew.cell? ⟨w4.heap.size, 0, none⟩ = some (.slice (some y1) n n) ∧ w6.drew.cell? ⟨w4.heap.size, 1, none⟩ = some (.slice (some y2) m m) ∧ w6.drew.cell? ⟨w4.heap.size, 2, none⟩ = some (.slice (some y3) p p) ∧ w6.drew.cell? ⟨w.heap.size, 0, none⟩ = some (.slice a n c) ∧ w6.drew.cell? ⟨w.heap.size, 1, none⟩ = some (.slice b m d) ∧ w6.drew.cell? ⟨w.heap.size, 2, none⟩ = some (.slice f p g) := ⟨q0, q1, q2, p0, p1, p2⟩
    go_region_held3 (fun w' => w'.cell? ⟨w4.heap.size, 0, none⟩ = some (.slice (some y1) n n) ∧ w'.cell? ⟨w4.heap.size, 1, none⟩ = some (.slice (some y2) m m) ∧ w'.cell? ⟨w4.heap.size, 2, none⟩ = some (.slice (some y3) p p) ∧ w'.cell? ⟨w.heap.size, 0, none⟩ = some (.slice a n c) ∧ w'.cell? ⟨w.heap.size, 1, none⟩ = some (.slice b m d) ∧ w'.cell? ⟨w.heap.size, 2, none⟩ = some (.slice f p g)) (first | assumption | go_keep)
      (first
        | (go_at_call 6; refine (toTyped_any _ _ _ _ _ _ _ _ _ N L T _ (N6.below D6 (Nat.le_refl _)) (L6.below D6 (Nat.le_refl _)) (I6.below D6 (Nat.le_refl _)) hs).mono ?_; rintro e w7 ⟨z1, z2, z3, rfl, Nc, Lc, Ic, hb7⟩; have G7 := D6.trans (hb7.mono D6.size); have s7 : w7.cell? ⟨w4.heap.size, 0, none⟩ = some (.slice (some y1) n n) ∧ w7.cell? ⟨w4.heap.size, 1, none⟩ = some (.slice (some y2) m m) ∧ w7.cell? ⟨w4.heap.size, 2, none⟩ = some (.slice (some y3) p p) ∧ w7.cell? ⟨w.heap.size, 0, none⟩ = some (.slice a n c) ∧ w7.cell? ⟨w.heap.size, 1, none⟩ = some (.slice b m d) ∧ w7.cell? ⟨w.heap.size, 2, none⟩ = some (.slice f p g) := ⟨(X6.after G7 (Nat.le_refl _)).cell 0, (X6.after G7 (Nat.le_refl _)).cell 1, (X6.after G7 (Nat.le_refl _)).cell 2, (R6.after G7 (Nat.le_refl _)).cell 0, (R6.after G7 (Nat.le_refl _)).cell 1, (R6.after G7 (Nat.le_refl _)).cell 2⟩)
        | (go_at_call 8; refine (eqTyped_same _ _ _ _ _ _ _ _ _ _ _ _ _ _ _ N L T _ (Nb6.below G7 (Nat.le_refl _)) Nc (Lb6.below G7 (Nat.le_refl _)) Lc (Ib6.below G7 (Nat.le_refl _)) Ic).mono ?_; rintro e w8 ⟨rfl, hb8⟩; have G8 := G7.trans (hb8.mono G7.size); have s8 : w8.cell? ⟨w4.heap.size, 0, none⟩ = some (.slice (some y1) n n) ∧ w8.cell? ⟨w4.heap.size, 1, none⟩ = some (.slice (some y2) m m) ∧ w8.cell? ⟨w4.heap.size, 2, none⟩ = some (.slice (some y3) p p) ∧ w8.cell? ⟨w.heap.size, 0, none⟩ = some (.slice a n c) ∧ w8.cell? ⟨w.heap.size, 1, none⟩ = some (.slice b m d) ∧ w8.cell? ⟨w.heap.size, 2, none⟩ = some (.slice f p g) := ⟨(X6.after G8 (Nat.le_refl _)).cell 0, (X6.after G8 (Nat.le_refl _)).cell 1, (X6.after G8 (Nat.le_refl _)).cell 2, (R6.after G8 (Nat.le_refl _)).cell 0, (R6.after G8 (Nat.le_refl _)).cell 1, (R6.after G8 (Nat.le_refl _)).cell 2⟩))
    go_wp2_with fail
    go_ret
    exact ⟨rfl, E6.trans (G8.mono E6.size)⟩

end Go.Proofs.YtjapdeehnfoonaaGreatDoor

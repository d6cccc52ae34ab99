/-
  FnExactVerify: the law's walk. Own work.
-/
import Derived.Test.YteefbljehlepjaaDoorYT
import Derived.Test.YteefbljehlepjaaDoorEZ1
import Derived.Test.YteefbljehlepjaaDoorEZ3
import Derived.Test.YteefbljehlepjaaDoorEZ4
namespace Go.Proofs.YteefbljehlepjaaDoor
open Go.RowKit Go.Lib
set_option linter.unusedVariables false

set_option maxRecDepth 100000 in
set_option maxHeartbeats 6400000 in
theorem fnExactVerify_walk (a b : Option Addr) (n c m d : Nat) (s : Int) (N : List Vl) (L : List Is1) (aT : Addr) (w : World) (h1 : VlsR w a n c N) (h2 : IssR w b m d L) (hv : Vok w aT) :
    Calls Tryd.prog 3 #[.agg #[.slice a n c, .int .i64 s, .slice b m d]] w fun e w' => e = .returned (.bool true) ∧ Below w.heap.size w w' := by
  have R0 := Row.new w #[.slice a n c, .int .i64 s, .slice b m d] 25
  have B0 := (Below.refl w.heap.size w).alloc (Nat.le_refl _) (.cells #[.slice a n c, .int .i64 s, .slice b m d] 25)
  have Hl := hide h1.len
  have Hm := hide h2.len
  have H1 := hide h1
  have H2 := hide h2
  have HV := hide hv
  clear h1 h2 hv
  go_enter Tryd.func3, Tryd.ntmps3
  go_wp2_with (go_at_call 4; refine (szCode_any _ _ _ _ _ _ _ N L _ ((unhide H1).below B0 (Nat.le_refl _)) ((unhide H2).below B0 (Nat.le_refl _))).mono ?_; rintro e w1 ⟨⟨r, rfl, hr⟩, hb1⟩; have Hr := hide hr; clear hr; have E1 := B0.trans (hb1.mono B0.size); have R1 := R0.after hb1 (Nat.le_refl _); obtain ⟨q0, q1, q2⟩ := rowC R1)
  · go_ret
    exact ⟨rfl, E1⟩
  have hs : smallC n m N := by
    rcases unhide Hr with e | e
    · omega
    · exact e.2.2
  have Hs := hide hs
  clear hs Hr R0 B0 hb1
  -- w0, w1
  refine (toCode_any _ _ _ _ _ _ _ N L _ ((unhide H1).below E1 (Nat.le_refl _)) ((unhide H2).below E1 (Nat.le_refl _)) (unhide Hs)).mono ?_
  rintro e w2 ⟨x1, x2, rfl, k1, k2, Va, Ia, hb2⟩
  have E2 := E1.trans (hb2.mono E1.size)
  have R2 := R1.after hb2 (Nat.le_refl _)
  clear R1 hb2 q0 q1 q2 k1 k2 E1
  go_wp2_with fail
  refine (sVerify_any _ _ _ _ _ _ _ N L _ (Va.hiV.vls (unhide Hl) (unhide Hs).1.1 (unhide Hs).1.2.1) (Ia.iss (unhide Hm) (unhide Hs).2)).mono ?_
  rintro e w3 ⟨rfl, hb3⟩
  have E3 := E2.trans (hb3.mono E2.size)
  have R3 := R2.after hb3 (Nat.le_refl _)
  have HI : ∀ W (g1 g2 : Nat), HiB W g1 g2 n N → HiI W g2 m L → Vok W aT → Calls Tryd.prog 7 #[.agg #[.slice (some ⟨g1, 0, none⟩) n n, .int .i64 s, .slice (some ⟨g2, 0, none⟩) m m]] W fun e w' => VfA W (verR N s L) e w' := fun W g1 g2 hV hI hk => iVerify_any _ _ _ _ _ _ s N L aT W (hV.hiV.vls (unhide Hl) (unhide Hs).1.1 (unhide Hs).1.2.1) (hI.iss (unhide Hm) (unhide Hs).2) hk
  have HI := hide HI
  obtain ⟨v1, HV1⟩ : ∃ v, v = (verR N s L).1 := ⟨_, rfl⟩
  obtain ⟨v2, HV2⟩ : ∃ v, v = (verR N s L).2 := ⟨_, rfl⟩
  rw [← HV1, ← HV2]
  have HI2 : Hid (∀ W (g1 g2 : Nat), HiB W g1 g2 n N → HiI W g2 m L → Vok W aT → Calls Tryd.prog 7 #[.agg #[.slice (some ⟨g1, 0, none⟩) n n, .int .i64 s, .slice (some ⟨g2, 0, none⟩) m m]] W fun e w' => e = .returned (.tuple #[.int .i64 v1, .int .i64 v2]) ∧ Below W.heap.size W w') := hide (fun W g1 g2 a1 a2 a3 => by rw [HV1, HV2]; exact unhide HI W g1 g2 a1 a2 a3)
  clear HI HV1 HV2
  obtain ⟨q0, q1, q2⟩ := rowC R3
  have z3 := R3.lt
  clear R2 hb3 Va Ia E2
  -- x0
  go_wp2_with fail
  refine (toCode_any _ _ _ _ _ _ _ N L _ ((unhide H1).below E3 (Nat.le_refl _)) ((unhide H2).below E3 (Nat.le_refl _)) (unhide Hs)).mono ?_
  rintro e w4 ⟨g1, g2, rfl, k1, k2, Vx, Ix, hb4⟩
  have E4 := E3.trans (hb4.mono E3.size)
  have R4 := R3.after hb4 (Nat.le_refl _)
  clear R3 hb4 q0 q1 q2 E3
  have C4 := (Below.refl w4.heap.size w4).alloc (Nat.le_refl _) (.cells #[.slice (some ⟨g1, 0, none⟩) n n, .int .i64 s, .slice (some ⟨g2, 0, none⟩) m m] 32)
  have X5 := Row.new w4 #[.slice (some ⟨g1, 0, none⟩) n n, .int .i64 s, .slice (some ⟨g2, 0, none⟩) m m] 32
  have E5 := E4.trans (C4.mono E4.size)
  have R5 := R4.after C4 (Nat.le_refl _)
  have Vx := Vx.below C4 (Nat.le_refl _)
  have Ix := Ix.below C4 (Nat.le_refl _)
  go_wp2_with fail
  generalize w4.alloc (.cells #[.slice (some ⟨g1, 0, none⟩) n n, .int .i64 s, .slice (some ⟨g2, 0, none⟩) m m] 32) = w5 at C4 X5 E5 R5 Vx Ix ⊢
  clear C4 R4 E4
  -- g0, g1
  refine (unhide HI2 w5 g1 g2 Vx Ix ((unhide HV).below E5 (Nat.le_refl _))).mono ?_
  rintro e w6 ⟨rfl, hb6⟩
  have E7 := E5.trans (hb6.mono E5.size)
  have R7 := R5.after hb6 (Nat.le_refl _)
  have X7 := X5.after hb6 (Nat.le_refl _)
  have Vx := Vx.below hb6 (Nat.le_refl _)
  have Ix := Ix.below hb6 (Nat.le_refl _)
  obtain ⟨q0, q1, q2⟩ := rowC R7
  obtain ⟨p0, p1, p2⟩ := rowC X7
  have b1 : (v1 != v1) = false := by simp
  have b2 : (v2 != v2) = false := by simp
  clear hb6 R5 X5 E5
  go_wp2_with fail
  have D7 : Below w6.heap.size w6 w6.drew := (Below.refl _ _).drew
  have s7 : w6.drew.cell? ⟨w4.heap.size, 0, none⟩ = some (.slice (some ⟨g1, 0, none⟩) n n) ∧ w6.drew.cell? ⟨w4.heap.size, 1, none⟩ = some (.int .i64 s) ∧ w6.drew.cell? ⟨w4.heap.size, 2, none⟩ = some (.slice (some ⟨g2, 0, none⟩) m m) ∧ w6.drew.cell? ⟨w.heap.size, 0, none⟩ = some (.slice a n c) ∧ w6.drew.cell? ⟨w.heap.size, 1, none⟩ = some (.int .i64 s) ∧ w6.drew.cell? ⟨w.heap.size, 2, none⟩ = some (.slice b m d) := ⟨p0, p1, p2, q0, q1, q2⟩
  have hcells : ∀ W, Below w6.heap.size w6 W → W.cell? ⟨w4.heap.size, 0, none⟩ = some (.slice (some ⟨g1, 0, none⟩) n n) ∧ W.cell? ⟨w4.heap.size, 1, none⟩ = some (.int .i64 s) ∧ W.cell? ⟨w4.heap.size, 2, none⟩ = some (.slice (some ⟨g2, 0, none⟩) m m) ∧ W.cell? ⟨w.heap.size, 0, none⟩ = some (.slice a n c) ∧ W.cell? ⟨w.heap.size, 1, none⟩ = some (.int .i64 s) ∧ W.cell? ⟨w.heap.size, 2, none⟩ = some (.slice b m d) := fun W hW => ⟨(rowC (X7.after hW (Nat.le_refl _))).1, (rowC (X7.after hW (Nat.le_refl _))).2.1, (rowC (X7.after hW (Nat.le_refl _))).2.2, (rowC (R7.after hW (Nat.le_refl _))).1, (rowC (R7.after hW (Nat.le_refl _))).2.1, (rowC (R7.after hW (Nat.le_refl _))).2.2⟩
  have Hc := hide hcells
  clear hcells
  go_region_held3 (fun w' => w'.cell? ⟨w4.heap.size, 0, none⟩ = some (.slice (some ⟨g1, 0, none⟩) n n) ∧ w'.cell? ⟨w4.heap.size, 1, none⟩ = some (.int .i64 s) ∧ w'.cell? ⟨w4.heap.size, 2, none⟩ = some (.slice (some ⟨g2, 0, none⟩) m m) ∧ w'.cell? ⟨w.heap.size, 0, none⟩ = some (.slice a n c) ∧ w'.cell? ⟨w.heap.size, 1, none⟩ = some (.int .i64 s) ∧ w'.cell? ⟨w.heap.size, 2, none⟩ = some (.slice b m d)) (first | assumption | go_keep)
    (first
      | (go_at_call 6; refine (toCode_any _ _ _ _ _ _ _ N L _ ((unhide H1).below (E7.trans (D7.mono E7.size)) (Nat.le_refl _)) ((unhide H2).below (E7.trans (D7.mono E7.size)) (Nat.le_refl _)) (unhide Hs)).mono ?_; rintro e w8 ⟨y1, y2, rfl, _, _, Vc, Ic, hb8⟩; have G8 := D7.trans (hb8.mono D7.size); have s8 := unhide Hc w8 G8)
      | (go_at_call 8; refine (eqCode_same _ _ _ _ _ _ _ _ _ _ _ N L _ ((Vx.below G8 (Nat.le_refl _)).hiV.vls (unhide Hl) (unhide Hs).1.1 (unhide Hs).1.2.1) (Vc.hiV.vls (unhide Hl) (unhide Hs).1.1 (unhide Hs).1.2.1) ((Ix.below G8 (Nat.le_refl _)).iss (unhide Hm) (unhide Hs).2) (Ic.iss (unhide Hm) (unhide Hs).2)).mono ?_; rintro e w9 ⟨rfl, hb9⟩; have G9 := G8.trans (hb9.mono G8.size); have s9 := unhide Hc w9 G9))
  have E9 := E7.trans (G9.mono E7.size)
  clear R7 X7 E7 G9 G8 s7 s8 s9 p0 p1 p2 q0 q1 q2 Vc Ic hb8 hb9 D7 Hc
  go_wp2_with fail
  go_ret
  exact ⟨rfl, E9⟩

end Go.Proofs.YteefbljehlepjaaDoor

/-
  FnExactEncodeCode: the law's walk. Own work.
-/
import Derived.Test.YtnbeodlgmdenlaaEW0
import Derived.Test.YtnbeodlgmdenlaaEW1
import Derived.Test.YtnbeodlgmdenlaaEZ4
import Derived.Test.YtnbeodlgmdenlaaEY3
namespace Go.Proofs.Ytnbeodlgmdenlaa
open Go.RowKit Go.Lib
set_option linter.unusedVariables false

theorem encR_len (P : List Vl) (s : Int) (I : List Is1) : (encR P s I).length ≤ 20000000 := by
  rw [encR]
  split
  · rename_i h
    rw [shapB, Bool.and_eq_true, Bool.and_eq_true] at h
    have h1 := of_decide_eq_true h.1.1
    have h2 := flat_len valE 4000 P (fun x hx => valE_len (List.all_eq_true.1 h.1.2 x hx))
    have h3 := flat_len insE 3 I (fun x _ => by rw [insE_len]; exact Nat.le_refl _)
    rw [codeE]
    simp only [List.length_append, beB_len, List.length_cons, List.length_nil]
    omega
  · simp

theorem HiB.touch {w w' : World} {g hi n lo' hi' : Nat} {N : List Vl} (h : HiB w g hi n N) (T : Touch lo' hi' w w') (hd : hi ≤ lo' ∨ hi' ≤ g) : HiB w' g hi n N := by
  obtain ⟨hg, cs, qf, R, hz, hx, hq, hh⟩ := h
  refine ⟨hg, cs, qf, R.touch T (by omega), hz, fun j hj => ?_, hq, hh⟩
  have hqq := (hx j hj).q
  have hqh := hh j hj
  exact (hx j hj).carry (fun _ _ _ => rfl) (T.block _ hqq.2 (by omega))

set_option maxRecDepth 100000 in
set_option maxHeartbeats 6400000 in
theorem fnExactEncodeCode_walk (a b : Option Addr) (n c m d : Nat) (s : Int) (N : List Vl) (L : List Is1) (w : World) (h1 : VlsR w a n c N) (h2 : IssR w b m d L) :
    Calls Try.prog 3 #[.agg #[.slice a n c, .int .i64 s, .slice b m d]] w fun e w' => e = .returned (.bool true) ∧ Below w.heap.size w w' := by
  have R0 := Row.new w #[.slice a n c, .int .i64 s, .slice b m d] 25
  have B0 := (Below.refl w.heap.size w).alloc (Nat.le_refl _) (.cells #[.slice a n c, .int .i64 s, .slice b m d] 25)
  have Hl := hide h1.len
  have Hm := hide h2.len
  have H1 := hide h1
  have H2 := hide h2
  clear h1 h2
  go_enter Try.func3, Try.ntmps3
  go_wp2_with (go_at_call 4; refine (szCode_any _ _ _ _ _ _ _ N L _ ((unhide H1).below B0 (Nat.le_refl _)) ((unhide H2).below B0 (Nat.le_refl _))).mono ?_; rintro e w1 ⟨⟨r, rfl, hr⟩, hb1⟩; have Hr := hide hr; clear hr; have E1 := B0.trans (hb1.mono B0.size); have R1 := R0.after hb1 (Nat.le_refl _); obtain ⟨q0, q1, q2⟩ := rowC R1)
  · go_ret
    exact ⟨rfl, E1⟩
  have hs : smallC n m N := by
    rcases unhide Hr with e | e
    · omega
    · exact e.2.2
  have Hs := hide hs
  clear hs Hr R0 B0 hb1
  -- w0
  refine (toCode_any _ _ _ _ _ _ _ N L _ ((unhide H1).below E1 (Nat.le_refl _)) ((unhide H2).below E1 (Nat.le_refl _)) (unhide Hs)).mono ?_
  rintro e w2 ⟨x1, x2, rfl, k1, k2, Va, Ia, hb2⟩
  have E2 := E1.trans (hb2.mono E1.size)
  have R2 := R1.after hb2 (Nat.le_refl _)
  clear R1 hb2 q0 q1 q2 k1 k2 E1
  go_wp2_with fail
  refine (sEncode_any _ _ _ _ _ _ _ N L _ (Va.hiV.vls (unhide Hl) (unhide Hs).1.1 (unhide Hs).1.2.1) (Ia.iss (unhide Hm) (unhide Hs).2)).mono ?_
  rintro e w3 ⟨v3, rfl, ow3, hb3⟩
  have E3 := E2.trans (hb3.mono E2.size)
  have R3 := R2.after hb3 (Nat.le_refl _)
  have hlen := encR_len N s L
  have HI : ∀ W (g1 g2 : Nat), HiB W g1 g2 n N → HiI W g2 m L → Calls Try.prog 7 #[.agg #[.slice (some ⟨g1, 0, none⟩) n n, .int .i64 s, .slice (some ⟨g2, 0, none⟩) m m]] W fun e w' => EncAns W (encR N s L) e w' := fun W g1 g2 hV hI => iEncode_any _ _ _ _ _ _ s N L W (hV.hiV.vls (unhide Hl) (unhide Hs).1.1 (unhide Hs).1.2.1) (hI.iss (unhide Hm) (unhide Hs).2)
  have HI := hide HI
  generalize encR N s L = R at ow3 HI hlen
  obtain ⟨xw, cw, rfl⟩ := bytes_form ow3
  have OW := OwnB.of ow3 rfl
  obtain ⟨q0, q1, q2⟩ := rowC R3
  have z3 := R3.lt
  clear R2 hb3 ow3 Va Ia E2
  -- x0
  go_wp2_with fail
  refine (toCode_any _ _ _ _ _ _ _ N L _ ((unhide H1).below E3 (Nat.le_refl _)) ((unhide H2).below E3 (Nat.le_refl _)) (unhide Hs)).mono ?_
  rintro e w4 ⟨g1, g2, rfl, k1, k2, Vx, Ix, hb4⟩
  have E4 := E3.trans (hb4.mono E3.size)
  have R4 := R3.after hb4 (Nat.le_refl _)
  have OW := OW.below hb4 (Nat.le_refl _)
  have k3 : g2 < w4.heap.size := by obtain ⟨cs, RR, _⟩ := Ix; exact RR.lt
  have z4 := hb4.size
  have k4 := Vx.1
  clear R3 hb4 q0 q1 q2 E3
  have C4 := (Below.refl w4.heap.size w4).alloc (Nat.le_refl _) (.cells #[.slice (some ⟨g1, 0, none⟩) n n, .int .i64 s, .slice (some ⟨g2, 0, none⟩) m m] 32)
  have X5 := Row.new w4 #[.slice (some ⟨g1, 0, none⟩) n n, .int .i64 s, .slice (some ⟨g2, 0, none⟩) m m] 32
  have E5 := E4.trans (C4.mono E4.size)
  have R5 := R4.after C4 (Nat.le_refl _)
  have Vx := Vx.below C4 (Nat.le_refl _)
  have Ix := Ix.below C4 (Nat.le_refl _)
  have OW := OW.below C4 (by have := OW.top; omega)
  have z5 : (w4.alloc (.cells #[.slice (some ⟨g1, 0, none⟩) n n, .int .i64 s, .slice (some ⟨g2, 0, none⟩) m m] 32)).heap.size = w4.heap.size + 1 := by simp
  go_wp2_with fail
  generalize w4.alloc (.cells #[.slice (some ⟨g1, 0, none⟩) n n, .int .i64 s, .slice (some ⟨g2, 0, none⟩) m m] 32) = w5 at C4 X5 E5 R5 Vx Ix OW z5 ⊢
  clear C4 R4 E4
  -- g0
  refine (unhide HI w5 g1 g2 Vx Ix).mono ?_
  rintro e w6 ⟨v6, rfl, ow6, hb6⟩
  obtain ⟨xg, cg, rfl⟩ := bytes_form ow6
  have OG := OwnB.of ow6 rfl
  have E6 := E5.trans (hb6.mono E5.size)
  have R6 := R5.after hb6 (Nat.le_refl _)
  have X6 := X5.after hb6 (Nat.le_refl _)
  have Vx := Vx.below hb6 (Nat.le_refl _)
  have Ix := Ix.below hb6 (Nat.le_refl _)
  have OW := OW.below hb6 (by have := OW.top; omega)
  have z6 := hb6.size
  clear hb6 ow6 R5 X5 E5
  go_wp2_with fail
  refine (eqByteS_same _ _ _ _ _ _ _ _ _ _ _ OG OW (by omega)).mono ?_
  rintro e w7 ⟨rfl, hb7⟩
  have E7 := E6.trans (hb7.mono E6.size)
  have R7 := R6.after hb7 (Nat.le_refl _)
  have X7 := X6.after hb7 (Nat.le_refl _)
  have Vx := Vx.below hb7 (Nat.le_refl _)
  have Ix := Ix.below hb7 (Nat.le_refl _)
  have OW := OW.below hb7 (by have := OW.top; omega)
  have OG := OG.below hb7 (by have := OG.top; omega)
  have z7 := hb7.size
  obtain ⟨q0, q1, q2⟩ := rowC R7
  obtain ⟨p0, p1, p2⟩ := rowC X7
  clear hb7 R6 X6 E6
  -- x0 is as it was
  go_wp2_with fail
  have D7 : Below w7.heap.size w7 w7.drew := (Below.refl _ _).drew
  have s7 : w7.drew.cell? ⟨w4.heap.size, 0, none⟩ = some (.slice (some ⟨g1, 0, none⟩) n n) ∧ w7.drew.cell? ⟨w4.heap.size, 1, none⟩ = some (.int .i64 s) ∧ w7.drew.cell? ⟨w4.heap.size, 2, none⟩ = some (.slice (some ⟨g2, 0, none⟩) m m) ∧ w7.drew.cell? ⟨w.heap.size, 0, none⟩ = some (.slice a n c) ∧ w7.drew.cell? ⟨w.heap.size, 1, none⟩ = some (.int .i64 s) ∧ w7.drew.cell? ⟨w.heap.size, 2, none⟩ = some (.slice b m d) := ⟨p0, p1, p2, q0, q1, q2⟩
  have hcells : ∀ W, Below w7.heap.size w7 W → W.cell? ⟨w4.heap.size, 0, none⟩ = some (.slice (some ⟨g1, 0, none⟩) n n) ∧ W.cell? ⟨w4.heap.size, 1, none⟩ = some (.int .i64 s) ∧ W.cell? ⟨w4.heap.size, 2, none⟩ = some (.slice (some ⟨g2, 0, none⟩) m m) ∧ W.cell? ⟨w.heap.size, 0, none⟩ = some (.slice a n c) ∧ W.cell? ⟨w.heap.size, 1, none⟩ = some (.int .i64 s) ∧ W.cell? ⟨w.heap.size, 2, none⟩ = some (.slice b m d) := fun W hW => ⟨(rowC (X7.after hW (Nat.le_refl _))).1, (rowC (X7.after hW (Nat.le_refl _))).2.1, (rowC (X7.after hW (Nat.le_refl _))).2.2, (rowC (R7.after hW (Nat.le_refl _))).1, (rowC (R7.after hW (Nat.le_refl _))).2.1, (rowC (R7.after hW (Nat.le_refl _))).2.2⟩
  have Hc := hide hcells
  clear hcells
  go_region_held3 (fun w' => w'.cell? ⟨w4.heap.size, 0, none⟩ = some (.slice (some ⟨g1, 0, none⟩) n n) ∧ w'.cell? ⟨w4.heap.size, 1, none⟩ = some (.int .i64 s) ∧ w'.cell? ⟨w4.heap.size, 2, none⟩ = some (.slice (some ⟨g2, 0, none⟩) m m) ∧ w'.cell? ⟨w.heap.size, 0, none⟩ = some (.slice a n c) ∧ w'.cell? ⟨w.heap.size, 1, none⟩ = some (.int .i64 s) ∧ w'.cell? ⟨w.heap.size, 2, none⟩ = some (.slice b m d)) (first | assumption | go_keep)
    (first
      | (go_at_call 6; refine (toCode_any _ _ _ _ _ _ _ N L _ ((unhide H1).below (E7.trans (D7.mono E7.size)) (Nat.le_refl _)) ((unhide H2).below (E7.trans (D7.mono E7.size)) (Nat.le_refl _)) (unhide Hs)).mono ?_; rintro e w8 ⟨y1, y2, rfl, _, _, Vc, Ic, hb8⟩; have G8 := D7.trans (hb8.mono D7.size); have s8 := unhide Hc w8 G8)
      | (go_at_call 9; refine (eqCode_same _ _ _ _ _ _ _ _ _ _ _ N L _ ((Vx.below G8 (Nat.le_refl _)).hiV.vls (unhide Hl) (unhide Hs).1.1 (unhide Hs).1.2.1) (Vc.hiV.vls (unhide Hl) (unhide Hs).1.1 (unhide Hs).1.2.1) ((Ix.below G8 (Nat.le_refl _)).iss (unhide Hm) (unhide Hs).2) (Ic.iss (unhide Hm) (unhide Hs).2)).mono ?_; rintro e w9 ⟨rfl, hb9⟩; have G9 := G8.trans (hb9.mono G8.size); have s9 := unhide Hc w9 G9))
  have E9 := E7.trans (G9.mono E7.size)
  have R9 := R7.after G9 (Nat.le_refl _)
  have X9 := X7.after G9 (Nat.le_refl _)
  have Vx := Vx.below G9 (Nat.le_refl _)
  have Ix := Ix.below G9 (Nat.le_refl _)
  have OW := OW.below G9 (by have := OW.top; omega)
  have OG := OG.below G9 (by have := OG.top; omega)
  have z9 := G9.size
  clear R7 X7 E7 G9 G8 s7 s8 s9 p0 p1 p2 q0 q1 q2 Vc Ic hb8 hb9 D7 Hc
  obtain ⟨p0, p1, p2⟩ := rowC X9
  have e1 := E9.size
  -- marks on x0
  go_wp2_with fail
  refine (markCode_any g1 g2 n m s N L _ Vx Ix (unhide Hl) (unhide Hm) (unhide Hs)).mono ?_
  rintro e w10 ⟨⟨z, rfl, hz⟩, T10⟩
  have E10 := below_touch E9 T10 (by omega) E9.size
  have R10 := R9.touch T10 (.inl (by omega))
  have OW := OW.touch T10 (.inl (by omega))
  have OG := OG.touch T10 (.inr (by omega))
  have hzn : ¬ (z < 0) := by omega
  have z10 := T10.size
  clear T10 Vx Ix X9 R9 E9 p0 p1 p2
  go_wp2_with fail
  refine (eqByteS_same _ _ _ _ _ _ _ _ _ _ _ OG OW (by omega)).mono ?_
  rintro e w11 ⟨rfl, hb11⟩
  have E11 := E10.trans (hb11.mono E10.size)
  have R11 := R10.after hb11 (Nat.le_refl _)
  have OW := OW.below hb11 (by have := OW.top; omega)
  have OG := OG.below hb11 (by have := OG.top; omega)
  have z11 := hb11.size
  clear hb11 R10 E10
  -- marks on g0
  go_wp2_with fail
  refine (markByteS_any _ _ _ _ _ _ 1 _ OG (by omega)).mono ?_
  rintro e w12 ⟨rfl, OM, T12⟩
  have E12 := below_touch E11 T12 (by omega) E11.size
  have R12 := R11.touch T12 (.inl (by omega))
  have OW := OW.touch T12 (.inl (by omega))
  have z12 := T12.size
  clear OG T12 R11 E11
  go_wp2_with fail
  refine (heldByteS_any _ _ _ _ _ 1 _ OM (by omega)).mono ?_
  rintro e w13 ⟨rfl, hb13⟩
  have E13 := E12.trans (hb13.mono E12.size)
  have R13 := R12.after hb13 (Nat.le_refl _)
  have OW := OW.below hb13 (by have := OW.top; omega)
  have OM := OM.below hb13 (by have := OM.top; omega)
  have z13 := hb13.size
  have hq : ¬ (((1 + R.length : Nat) : Int) < 0) := by omega
  obtain ⟨q0, q1, q2⟩ := rowC R13
  clear hb13 R12 E12
  -- once more
  go_wp2_with fail
  refine (toCode_any _ _ _ _ _ _ _ N L _ ((unhide H1).below E13 (Nat.le_refl _)) ((unhide H2).below E13 (Nat.le_refl _)) (unhide Hs)).mono ?_
  rintro e w14 ⟨y1, y2, rfl, _, _, Vc, Ic, hb14⟩
  have E14 := E13.trans (hb14.mono E13.size)
  have OW := OW.below hb14 (by have := OW.top; omega)
  have OM := OM.below hb14 (by have := OM.top; omega)
  have z14 := hb14.size
  clear hb14 R13 E13 q0 q1 q2
  go_wp2_with fail
  refine (unhide HI w14 y1 y2 Vc Ic).mono ?_
  rintro e w15 ⟨v15, rfl, ow15, hb15⟩
  obtain ⟨xh, ch, rfl⟩ := bytes_form ow15
  have OH := OwnB.of ow15 rfl
  have E15 := E14.trans (hb15.mono E14.size)
  have OW := OW.below hb15 (by have := OW.top; omega)
  have OM := OM.below hb15 (by have := OM.top; omega)
  have z15 := hb15.size
  clear hb15 Vc Ic ow15 E14
  go_wp2_with fail
  refine (eqByteS_same _ _ _ _ _ _ _ _ _ _ _ OH OW (by omega)).mono ?_
  rintro e w16 ⟨rfl, hb16⟩
  have E16 := E15.trans (hb16.mono E15.size)
  have OM := OM.below hb16 (by have := OM.top; omega)
  clear hb16 OH OW E15
  go_wp2_with fail
  refine (heldByteS_any _ _ _ _ _ 1 _ OM (by omega)).mono ?_
  rintro e w17 ⟨rfl, hb17⟩
  have E17 := E16.trans (hb17.mono E16.size)
  clear hb17 OM E16
  go_wp2_with fail
  go_ret
  exact ⟨rfl, E17⟩

end Go.Proofs.Ytnbeodlgmdenlaa

/-
  FnExactValidRequest: the law's helpers. Own work.
-/
import Derived.Test.YtemekdkeggibaaaVR
namespace Go.Proofs.Ytemekdkeggibaaa
open Go.RowKit

set_option maxHeartbeats 800000 in
theorem szRequest_any (cl us : ByteArray) (lv nw : Int) (a1 : Option Addr) (n1 c1 : Nat) (s1 : List ByteArray) (a2 : Option Addr) (n2 c2 : Nat) (s2 : List ByteArray) (L : Int) (w : World)
    (hcl : cl.size ≤ maxLen) (hus : us.size ≤ maxLen) (h1 : Strs w a1 n1 c1 s1) (h2 : Strs w a2 n2 c2 s2) (hL : 0 ≤ L) (hL' : L ≤ 1048576) :
    Calls Try.prog 14 #[.agg #[.string cl, .string us, .int .i64 lv, .int .i64 nw, .slice a1 n1 c1, .slice a2 n2 c2], .int .i64 L] w fun e w' => (∃ r : Int, e = .returned (.int .i64 r) ∧ (r = -1 ∨ 0 ≤ r ∧ n1 ≤ 1048576 ∧ n2 ≤ 1048576)) ∧ Below w.heap.size w w' := by
  unfold maxLen at hcl hus
  have b0 : Below w.heap.size w (w.alloc (.cells #[.string cl, .string us, .int .i64 lv, .int .i64 nw, .slice a1 n1 c1, .slice a2 n2 c2] 29)) := (Below.refl _ _).alloc (Nat.le_refl _) _
  have g1 := h1.below b0 (Nat.le_refl _)
  have g2 := h2.below b0 (Nat.le_refl _)
  by_cases e1 : L - cl.size < 0
  · go_enter Try.func14, Try.ntmps14
    go_wp2_with fail
    go_ret
    exact ⟨⟨_, rfl, .inl rfl⟩, b0⟩
  · have e1' : 0 ≤ L - cl.size := by omega
    by_cases e2 : L - cl.size - us.size < 0
    · go_enter Try.func14, Try.ntmps14
      go_wp2_with fail
      go_ret
      exact ⟨⟨_, rfl, .inl rfl⟩, b0⟩
    · have e2' : 0 ≤ L - cl.size - us.size := by omega
      go_enter Try.func14, Try.ntmps14
      go_wp2_with fail
      refine (szStringS_any _ _ _ _ _ _ g1 (by omega) (by omega)).mono ?_
      rintro e w' ⟨⟨r, rfl, hr⟩, rfl⟩
      by_cases e3 : r < 0
      · go_wp2_with fail
        go_ret
        exact ⟨⟨_, rfl, .inl rfl⟩, b0⟩
      · have e3' : 0 ≤ r := by omega
        have hr1 : n1 ≤ 1048576 ∧ r ≤ 1048576 := by rcases hr with hr | ⟨_, hr⟩ <;> omega
        clear hr
        go_wp2_with fail
        refine (szStringS_any _ _ _ _ _ _ g2 (by omega) (by omega)).mono ?_
        rintro e w' ⟨⟨r2, rfl, hr⟩, rfl⟩
        by_cases e4 : r2 < 0
        · go_wp2_with fail
          go_ret
          exact ⟨⟨_, rfl, .inl rfl⟩, b0⟩
        · have e4' : 0 ≤ r2 := by omega
          have hr2 : n2 ≤ 1048576 := by rcases hr with hr | ⟨_, hr⟩ <;> omega
          clear hr
          go_wp2_with fail
          go_ret
          exact ⟨⟨_, rfl, .inr ⟨e4', hr1.1, hr2⟩⟩, b0⟩

set_option maxHeartbeats 1600000 in
theorem toRequest_any (cl us : ByteArray) (lv nw : Int) (a1 : Option Addr) (n1 c1 : Nat) (s1 : List ByteArray) (a2 : Option Addr) (n2 c2 : Nat) (s2 : List ByteArray) (w : World)
    (h1 : Strs w a1 n1 c1 s1) (h2 : Strs w a2 n2 c2 s2) (k1 : n1 ≤ 1048576) (k2 : n2 ≤ 1048576) :
    Calls Try.prog 16 #[.agg #[.string cl, .string us, .int .i64 lv, .int .i64 nw, .slice a1 n1 c1, .slice a2 n2 c2]] w fun e w' =>
      ∃ x1 x2, e = .returned (.agg #[.string cl, .string us, .int .i64 lv, .int .i64 nw, .slice (some x1) n1 n1, .slice (some x2) n2 n2]) ∧ Strs w' (some x1) n1 n1 s1 ∧ Strs w' (some x2) n2 n2 s2 ∧ Below w.heap.size w w' := by
  go_enter Try.func16, Try.ntmps16
  go_wp2_with fail
  have B0 := ((((Below.refl w.heap.size w).alloc (Nat.le_refl _) (.cells #[.string cl, .string us, .int .i64 lv, .int .i64 nw, .slice a1 n1 c1, .slice a2 n2 c2] 29)).alloc (by simp) (.cells #[.string ⟨#[]⟩, .string ⟨#[]⟩, .int .i64 0, .int .i64 0, .slice none 0 0, .slice none 0 0] 32)).alloc (by simp; omega) (.cells #[.string cl, .string us, .int .i64 lv, .int .i64 nw, .slice none 0 0, .slice none 0 0] 32))
  have R0 := ((Row.new w #[.string cl, .string us, .int .i64 lv, .int .i64 nw, .slice a1 n1 c1, .slice a2 n2 c2] 29).alloc (.cells #[.string ⟨#[]⟩, .string ⟨#[]⟩, .int .i64 0, .int .i64 0, .slice none 0 0, .slice none 0 0] 32)).alloc (.cells #[.string cl, .string us, .int .i64 lv, .int .i64 nw, .slice none 0 0, .slice none 0 0] 32)
  have R1 := (Row.new (w.alloc (.cells #[.string cl, .string us, .int .i64 lv, .int .i64 nw, .slice a1 n1 c1, .slice a2 n2 c2] 29)) #[.string ⟨#[]⟩, .string ⟨#[]⟩, .int .i64 0, .int .i64 0, .slice none 0 0, .slice none 0 0] 32).alloc (.cells #[.string cl, .string us, .int .i64 lv, .int .i64 nw, .slice none 0 0, .slice none 0 0] 32)
  have R2 := Row.new ((w.alloc (.cells #[.string cl, .string us, .int .i64 lv, .int .i64 nw, .slice a1 n1 c1, .slice a2 n2 c2] 29)).alloc (.cells #[.string ⟨#[]⟩, .string ⟨#[]⟩, .int .i64 0, .int .i64 0, .slice none 0 0, .slice none 0 0] 32)) #[.string cl, .string us, .int .i64 lv, .int .i64 nw, .slice none 0 0, .slice none 0 0] 32
  simp only [World.size_alloc] at R1 R2
  have Z := R2.lt
  refine (toStringS_any _ _ _ _ _ (h1.below B0 (Nat.le_refl _)) k1).mono ?_
  rintro e w1 ⟨rfl, hb1, ho1⟩
  have B1 := B0.trans (hb1.mono (by simp; omega))
  have r0 := R0.after hb1 (Nat.le_refl _)
  have r1 := R1.after hb1 (Nat.le_refl _)
  have r2 := R2.after hb1 (Nat.le_refl _)
  have z1 := hb1.size
  have s1' := Strs.of_owns ho1 h1.sizes
  simp only [World.size_alloc] at z1 s1'
  clear B0 R0 R1 R2 ho1 hb1 Z
  have q0 := r0.cell 5
  have q1 := r2.cell 4
  have q2 := r2.frozen 4
  simp only [List.getElem?_toArray, List.getElem?_cons_succ, List.getElem?_cons_zero] at q0 q1
  go_wp2_with fail
  have B2 := B1.setCell (p := ⟨w.heap.size + 1 + 1, 4, none⟩) (by show w.heap.size ≤ w.heap.size + 1 + 1; omega) (.slice (some ⟨w.heap.size + 1 + 1 + 1, 0, none⟩) n1 n1)
  refine (toStringS_any _ _ _ _ _ (h2.below B2 (Nat.le_refl _)) k2).mono ?_
  rintro e w2 ⟨rfl, hb2, ho2⟩
  have r1' := (r1.setFar (p := ⟨w.heap.size + 1 + 1, 4, none⟩) (by show w.heap.size + 1 ≠ w.heap.size + 1 + 1; omega) (.slice (some ⟨w.heap.size + 1 + 1 + 1, 0, none⟩) n1 n1)).after hb2 (Nat.le_refl _)
  have r2' := (r2.set 4 (.slice (some ⟨w.heap.size + 1 + 1 + 1, 0, none⟩) n1 n1)).after hb2 (Nat.le_refl _)
  have s1'' := (s1'.setFar (p := ⟨w.heap.size + 1 + 1, 4, none⟩) (fun x hx => by cases hx; show w.heap.size + 1 + 1 ≠ w.heap.size + 1 + 1 + 1; omega) (.slice (some ⟨w.heap.size + 1 + 1 + 1, 0, none⟩) n1 n1)).below hb2 (Nat.le_refl _)
  have s2' := Strs.of_owns ho2 h2.sizes
  have B3 := B2.trans (hb2.mono (by simp; omega))
  have z2 := hb2.size
  simp only [World.size_setCell] at z2 s2'
  clear r0 r1 r2 s1' q0 q1 q2 B1 B2 hb2 ho2
  have f1 := fun j => r1'.frozen j
  have f2 := fun j => r2'.frozen j
  have p0 := r1'.cell 0
  have p1 := r1'.cell 1
  have p2 := r1'.cell 2
  have p3 := r1'.cell 3
  have p4 := r1'.cell 4
  have p5 := r1'.cell 5
  have q0 := r2'.cell 0
  have q1 := r2'.cell 1
  have q2 := r2'.cell 2
  have q3 := r2'.cell 3
  have q4 := r2'.cell 4
  have q5 := r2'.cell 5
  simp at p0 p1 p2 p3 p4 p5 q0 q1 q2 q3 q4 q5
  go_wp2_with fail
  refine bodyPost_ret (v := .agg #[.string cl, .string us, .int .i64 lv, .int .i64 nw, .slice (some ⟨w.heap.size + 1 + 1 + 1, 0, none⟩) n1 n1, .slice (some ⟨w1.heap.size, 0, none⟩) n2 n2]) (by simp [results, Try.results16, go_sem, p0, p1, p2, p3, p4, p5]) rfl ⟨_, _, rfl, ?_, ?_, ?_⟩
  · clear p0 p1 p2 p3 p4 p5 q0 q1 q2 q3 q4 q5 f1 f2 r1' r2'
    refine Strs.setFar (Strs.setFar (Strs.setFar (Strs.setFar (Strs.setFar (Strs.setFar (Strs.setFar s1'' ?_ _) ?_ _) ?_ _) ?_ _) ?_ _) ?_ _) ?_ _
    all_goals (intro x hx; cases hx; dsimp only; omega)
  · clear p0 p1 p2 p3 p4 p5 q0 q1 q2 q3 q4 q5 f1 f2 r1' r2'
    refine Strs.setFar (Strs.setFar (Strs.setFar (Strs.setFar (Strs.setFar (Strs.setFar (Strs.setFar s2' ?_ _) ?_ _) ?_ _) ?_ _) ?_ _) ?_ _) ?_ _
    all_goals (intro x hx; cases hx; dsimp only; omega)
  · clear p0 p1 p2 p3 p4 p5 q0 q1 q2 q3 q4 q5 f1 f2 r1' r2'
    refine Below.setCell (Below.setCell (Below.setCell (Below.setCell (Below.setCell (Below.setCell (Below.setCell B3 ?_ _) ?_ _) ?_ _) ?_ _) ?_ _) ?_ _) ?_ _
    all_goals (dsimp only; omega)

set_option maxHeartbeats 800000 in
theorem eqRequest_same (cl us : ByteArray) (lv nw : Int) (a1 : Option Addr) (n1 c1 : Nat) (s1 : List ByteArray) (a2 : Option Addr) (n2 c2 : Nat) (s2 : List ByteArray) (a1' : Option Addr) (c1' : Nat) (a2' : Option Addr) (c2' : Nat) (w : World)
    (h1 : Strs w a1 n1 c1 s1) (h2 : Strs w a2 n2 c2 s2) (h1' : Strs w a1' n1 c1' s1) (h2' : Strs w a2' n2 c2' s2) :
    Calls Try.prog 18 #[.agg #[.string cl, .string us, .int .i64 lv, .int .i64 nw, .slice a1 n1 c1, .slice a2 n2 c2], .agg #[.string cl, .string us, .int .i64 lv, .int .i64 nw, .slice a1' n1 c1', .slice a2' n2 c2']] w fun e w' => e = .returned (.bool true) ∧ Below w.heap.size w w' := by
  have B0 := ((Below.refl w.heap.size w).alloc (Nat.le_refl _) (.cells #[.string cl, .string us, .int .i64 lv, .int .i64 nw, .slice a1 n1 c1, .slice a2 n2 c2] 32)).alloc (by simp) (.cells #[.string cl, .string us, .int .i64 lv, .int .i64 nw, .slice a1' n1 c1', .slice a2' n2 c2'] 32)
  have R0 := (Row.new w #[.string cl, .string us, .int .i64 lv, .int .i64 nw, .slice a1 n1 c1, .slice a2 n2 c2] 32).alloc (.cells #[.string cl, .string us, .int .i64 lv, .int .i64 nw, .slice a1' n1 c1', .slice a2' n2 c2'] 32)
  have R1 := Row.new (w.alloc (.cells #[.string cl, .string us, .int .i64 lv, .int .i64 nw, .slice a1 n1 c1, .slice a2 n2 c2] 32)) #[.string cl, .string us, .int .i64 lv, .int .i64 nw, .slice a1' n1 c1', .slice a2' n2 c2'] 32
  simp only [World.size_alloc] at R1
  go_enter Try.func18, Try.ntmps18
  go_wp2_with fail
  refine (eqStringS_same _ _ _ _ _ _ _ (h1.below B0 (Nat.le_refl _)) (h1'.below B0 (Nat.le_refl _))).mono ?_
  rintro e w1 ⟨rfl, hb1⟩
  have B1 := B0.trans (hb1.mono (by simp; omega))
  have q0 := (R0.after hb1 (Nat.le_refl _)).cell 5
  have q1 := (R1.after hb1 (Nat.le_refl _)).cell 5
  have z1 := hb1.size
  simp at q0 q1 z1
  clear R0 R1 B0 hb1
  go_wp2_with fail
  refine (eqStringS_same _ _ _ _ _ _ _ (h2.below B1 (Nat.le_refl _)) (h2'.below B1 (Nat.le_refl _))).mono ?_
  rintro e w2 ⟨rfl, hb2⟩
  go_wp2_with fail
  go_ret
  exact ⟨rfl, B1.trans (hb2.mono (by omega))⟩

end Go.Proofs.Ytemekdkeggibaaa

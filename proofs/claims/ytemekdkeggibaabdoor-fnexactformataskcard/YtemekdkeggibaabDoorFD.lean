/-
  FnExactFormatAsk: the law's helpers. Own work.
-/
import Derived.Test.YtemekdkeggibaabDoorFC
namespace Go.Proofs.YtemekdkeggibaabDoor
open Go.RowKit

set_option maxHeartbeats 800000 in
theorem szAsk_any (cl us : ByteArray) (lv : Int) (a : Option Addr) (n c : Nat) (ss : List ByteArray) (L : Int) (w : World)
    (hcl : cl.size ≤ maxLen) (hus : us.size ≤ maxLen) (h : Strs w a n c ss) (hL : 0 ≤ L) (hL' : L ≤ 1048576) :
    Calls Tryd.prog 12 #[.agg #[.string cl, .string us, .int .i64 lv, .slice a n c], .int .i64 L] w fun e w' => (∃ r : Int, e = .returned (.int .i64 r) ∧ (r = -1 ∨ 0 ≤ r ∧ n ≤ 1048576)) ∧ Below w.heap.size w w' := by
  unfold maxLen at hcl hus
  have b0 : Below w.heap.size w (w.alloc (.cells #[.string cl, .string us, .int .i64 lv, .slice a n c] 29)) := (Below.refl _ _).alloc (Nat.le_refl _) _
  have g := h.below b0 (Nat.le_refl _)
  by_cases e1 : L - cl.size < 0
  · go_enter Tryd.func12, Tryd.ntmps12
    go_wp2_with fail
    go_ret
    exact ⟨⟨_, rfl, .inl rfl⟩, b0⟩
  · have e1' : 0 ≤ L - cl.size := by omega
    by_cases e2 : L - cl.size - us.size < 0
    · go_enter Tryd.func12, Tryd.ntmps12
      go_wp2_with fail
      go_ret
      exact ⟨⟨_, rfl, .inl rfl⟩, b0⟩
    · have e2' : 0 ≤ L - cl.size - us.size := by omega
      go_enter Tryd.func12, Tryd.ntmps12
      go_wp2_with fail
      refine (szStringS_any _ _ _ _ _ _ g (by omega) (by omega)).mono ?_
      rintro e w' ⟨⟨r, rfl, hr⟩, rfl⟩
      by_cases e3 : r < 0
      · go_wp2_with fail
        go_ret
        exact ⟨⟨_, rfl, .inl rfl⟩, b0⟩
      · have e3' : 0 ≤ r := by omega
        have hr1 : n ≤ 1048576 := by rcases hr with hr | ⟨_, hr⟩ <;> omega
        clear hr
        go_wp2_with fail
        go_ret
        exact ⟨⟨_, rfl, .inr ⟨e3', hr1⟩⟩, b0⟩

set_option maxHeartbeats 1600000 in
theorem toAsk_any (cl us : ByteArray) (lv : Int) (a : Option Addr) (n c : Nat) (ss : List ByteArray) (w : World) (h : Strs w a n c ss) (k : n ≤ 1048576) :
    Calls Tryd.prog 14 #[.agg #[.string cl, .string us, .int .i64 lv, .slice a n c]] w fun e w' =>
      ∃ x, e = .returned (.agg #[.string cl, .string us, .int .i64 lv, .slice (some x) n n]) ∧ Strs w' (some x) n n ss ∧ Below w.heap.size w w' := by
  go_enter Tryd.func14, Tryd.ntmps14
  go_wp2_with fail
  have B0 := ((((Below.refl w.heap.size w).alloc (Nat.le_refl _) (.cells #[.string cl, .string us, .int .i64 lv, .slice a n c] 29)).alloc (by simp) (.cells #[.string ⟨#[]⟩, .string ⟨#[]⟩, .int .i64 0, .slice none 0 0] 32)).alloc (by simp; omega) (.cells #[.string cl, .string us, .int .i64 lv, .slice none 0 0] 32))
  have R1 := (Row.new (w.alloc (.cells #[.string cl, .string us, .int .i64 lv, .slice a n c] 29)) #[.string ⟨#[]⟩, .string ⟨#[]⟩, .int .i64 0, .slice none 0 0] 32).alloc (.cells #[.string cl, .string us, .int .i64 lv, .slice none 0 0] 32)
  have R2 := Row.new ((w.alloc (.cells #[.string cl, .string us, .int .i64 lv, .slice a n c] 29)).alloc (.cells #[.string ⟨#[]⟩, .string ⟨#[]⟩, .int .i64 0, .slice none 0 0] 32)) #[.string cl, .string us, .int .i64 lv, .slice none 0 0] 32
  simp only [World.size_alloc] at R1 R2
  refine (toStringS_any _ _ _ _ _ (h.below B0 (Nat.le_refl _)) k).mono ?_
  rintro e w1 ⟨rfl, hb1, ho1⟩
  have B1 := B0.trans (hb1.mono (by simp; omega))
  have r1 := (R1.after hb1 (Nat.le_refl _)).setFar (p := ⟨w.heap.size + 1 + 1, 3, none⟩) (by show w.heap.size + 1 ≠ w.heap.size + 1 + 1; omega) (.slice (some ⟨w.heap.size + 1 + 1 + 1, 0, none⟩) n n)
  have r2 := (R2.after hb1 (Nat.le_refl _)).set 3 (.slice (some ⟨w.heap.size + 1 + 1 + 1, 0, none⟩) n n)
  have z1 := hb1.size
  have s1 := Strs.of_owns ho1 h.sizes
  have q1 := (R2.after hb1 (Nat.le_refl _)).cell 3
  have q2 := (R2.after hb1 (Nat.le_refl _)).frozen 3
  simp only [World.size_alloc] at z1 s1
  simp at q1
  clear B0 R1 R2 ho1 hb1
  have f1 := fun j => r1.frozen j
  have f2 := fun j => r2.frozen j
  have p0 := r1.cell 0
  have p1 := r1.cell 1
  have p2 := r1.cell 2
  have p3 := r1.cell 3
  have c0 := r2.cell 0
  have c1 := r2.cell 1
  have c2 := r2.cell 2
  have c3 := r2.cell 3
  simp at p0 p1 p2 p3 c0 c1 c2 c3
  go_wp2_with fail
  refine bodyPost_ret (v := .agg #[.string cl, .string us, .int .i64 lv, .slice (some ⟨w.heap.size + 1 + 1 + 1, 0, none⟩) n n]) (by simp [results, Tryd.results14, go_sem, p0, p1, p2, p3]) rfl ⟨_, rfl, ?_, ?_⟩
  · clear p0 p1 p2 p3 c0 c1 c2 c3 f1 f2 r1 r2 q1 q2
    refine Strs.setFar (Strs.setFar (Strs.setFar (Strs.setFar (Strs.setFar s1 ?_ _) ?_ _) ?_ _) ?_ _) ?_ _
    all_goals (intro x hx; cases hx; dsimp only; omega)
  · clear p0 p1 p2 p3 c0 c1 c2 c3 f1 f2 r1 r2 q1 q2
    refine Below.setCell (Below.setCell (Below.setCell (Below.setCell (Below.setCell B1 ?_ _) ?_ _) ?_ _) ?_ _) ?_ _
    all_goals (dsimp only; omega)

set_option maxHeartbeats 800000 in
theorem eqAsk_same (cl us : ByteArray) (lv : Int) (a : Option Addr) (n c : Nat) (ss : List ByteArray) (a' : Option Addr) (c' : Nat) (w : World) (h : Strs w a n c ss) (h' : Strs w a' n c' ss) :
    Calls Tryd.prog 16 #[.agg #[.string cl, .string us, .int .i64 lv, .slice a n c], .agg #[.string cl, .string us, .int .i64 lv, .slice a' n c']] w fun e w' => e = .returned (.bool true) ∧ Below w.heap.size w w' := by
  have B0 := ((Below.refl w.heap.size w).alloc (Nat.le_refl _) (.cells #[.string cl, .string us, .int .i64 lv, .slice a n c] 32)).alloc (by simp) (.cells #[.string cl, .string us, .int .i64 lv, .slice a' n c'] 32)
  go_enter Tryd.func16, Tryd.ntmps16
  go_wp2_with fail
  refine (eqStringS_same _ _ _ _ _ _ _ (h.below B0 (Nat.le_refl _)) (h'.below B0 (Nat.le_refl _))).mono ?_
  rintro e w1 ⟨rfl, hb1⟩
  have B1 := B0.trans (hb1.mono (by simp; omega))
  go_wp2_with fail
  go_ret
  exact ⟨rfl, B1⟩

end Go.Proofs.YtemekdkeggibaabDoor

/-
  The program's reader: a value. Own work.
-/
import Derived.Test.YtmkoidbpkhiohaaKE
namespace Go.Proofs.Ytmkoidbpkhiohaa
open Go.RowKit
set_option linter.unusedVariables false

/-- a value, its names the call's own, and the reader behind it -/
def VlAns (w : World) (g : Nat) (h0 h1 h2 : Int) (r : Vl × Rs) (e : Ending) (w' : World) : Prop := ∃ a c, e = .returned (.agg #[.int .i64 r.1.kind, .int .i64 r.1.num, .string r.1.text, .slice a r.1.names.length c]) ∧ w'.ownsRow w.heap.size 9 1 (.slice a r.1.names.length c) r.1.names.length (r.1.names.map Value.string) ∧ IRs w' g h0 h1 h2 r.2 ∧ Touch g (g + 1) w w'

theorem Touch.alloc {lo hi : Nat} {w w' : World} (T : Touch lo hi w w') (o : Obj) : Touch lo hi w (w'.alloc o) := T.trans (Touch.of_below ((Below.refl w'.heap.size w').alloc (Nat.le_refl _) o) (Nat.le_refl _))

theorem Touch.setNew {lo hi : Nat} {w w' : World} (T : Touch lo hi w w') (p : Addr) (u : Value) (hp : w.heap.size ≤ p.block) : Touch lo hi w (w'.setCell p u) :=
  ⟨T.os, T.tape, T.output, by simp; exact T.size, fun k hk hd => (heap_setCell_other w' p k u (by omega)).trans (T.block k hk hd)⟩

theorem Touch.put4 {lo hi : Nat} {w w' : World} {b : Nat} (T : Touch lo hi w w') (hp : w.heap.size ≤ b) (v0 v1 v2 v3 : Value) : Touch lo hi w (put4 w' b v0 v1 v2 v3) :=
  (((T.setNew ⟨b, 0, none⟩ v0 hp).setNew ⟨b, 1, none⟩ v1 hp).setNew ⟨b, 2, none⟩ v2 hp).setNew ⟨b, 3, none⟩ v3 hp

theorem Row.touch' {w w' : World} {b lo hi : Nat} {cs : Array Value} {t : TypeId} (h : Row w b cs t) (T : Touch lo hi w w') (hd : b < lo ∨ hi ≤ b) : Row w' b cs t := ⟨(T.block b h.lt hd).trans h.out⟩

theorem IRs.put4 {w : World} {g b : Nat} {h0 h1 h2 : Int} {s : Rs} (h : IRs w g h0 h1 h2 s) (v0 v1 v2 v3 : Value) (hp : g < b) : IRs (put4 w b v0 v1 v2 v3) g h0 h1 h2 s :=
  (((h.setFar ⟨b, 0, none⟩ v0 hp).setFar ⟨b, 1, none⟩ v1 hp).setFar ⟨b, 2, none⟩ v2 hp).setFar ⟨b, 3, none⟩ v3 hp

theorem owns_setFar' {w : World} {base : Nat} {e : TypeId} {size n : Nat} {v : Value} {xs : List Value} (h : w.ownsRow base e size v n xs) (p : Addr) (u : Value) (hd : ∀ q, v.ownBlock = some q → q ≠ p.block) : (w.setCell p u).ownsRow base e size v n xs := by
  refine ⟨h.1, ?_⟩
  rcases h.2 with h2 | ⟨g, cap, cur, hv, h3, hg, h4⟩
  · exact .inl h2
  · exact .inr ⟨g, cap, cur, hv, h3, (heap_setCell_other w p g u (hd g (by rw [hv]; rfl))).trans hg, h4⟩

theorem own_put4' {w : World} {base : Nat} {e : TypeId} {size n b : Nat} {v : Value} {xs : List Value} (h : w.ownsRow base e size v n xs) (hd : ∀ q, v.ownBlock = some q → q ≠ b) {v0 v1 v2 v3 : Value} : (put4 w b v0 v1 v2 v3).ownsRow base e size v n xs :=
  owns_setFar' (owns_setFar' (owns_setFar' (owns_setFar' h ⟨b, 0, none⟩ v0 hd) ⟨b, 1, none⟩ v1 hd) ⟨b, 2, none⟩ v2 hd) ⟨b, 3, none⟩ v3 hd

/-- a value out of its block -/
theorem res_val {fn : Func} {a : Tmp} (h : fn.results = #[.cell a 42]) {tmps : Array Value} {w : World} {b : Nat} {v0 v1 v2 v3 : Value} (ha : tmps.getD a undef = .pointer (some ⟨b, 0, none⟩))
    (g0 : w.cell? ⟨b, 0, none⟩ = some v0) (g1 : w.cell? ⟨b, 1, none⟩ = some v1) (g2 : w.cell? ⟨b, 2, none⟩ = some v2) (g3 : w.cell? ⟨b, 3, none⟩ = some v3) :
    (results fn tmps).run Try.prog w = .ok (.agg #[v0, v1, v2, v3]) w := by
  rw [Array.getD_eq_getD_getElem?] at ha
  simp [results, h, ha, go_sem, g0, g1, g2, g3]

set_option maxRecDepth 100000 in
set_option maxHeartbeats 6400000 in
theorem rvalue_any (g : Nat) (h0 h1 h2 : Int) (s : Rs) (w : World) (h : IRs w g h0 h1 h2 s) :
    Calls Try.prog 29 #[.pointer (some ⟨g, 0, none⟩)] w fun e w' => VlAns w g h0 h1 h2 (valI s) e w' := by
  have hg := h.lt
  have hA := h.alloc (.cells #[.int .i64 0, .int .i64 0, .string ⟨#[]⟩, .slice none 0 0] 42)
  have HN := hide (number_1 g h0 h1 h2 s _ hA)
  have RR := Row.new w #[.int .i64 0, .int .i64 0, .string ⟨#[]⟩, .slice none 0 0] 42
  have TT := (Touch.refl g (g + 1) w).alloc (.cells #[.int .i64 0, .int .i64 0, .string ⟨#[]⟩, .slice none 0 0] 42)
  have hr := num1_range s h.ok
  have hr0 := hr.1
  have hr1 := hr.2
  have HX := hide (show valI s = valKI (numI 1 s).1 (numI 1 s).2 from rfl)
  generalize numI 1 s = r at HN HX hr0 hr1
  obtain ⟨k, s1⟩ := r
  simp only at hr0 hr1 HX
  clear hr h hA
  go_enter Try.func29, Try.ntmps29
  go_wp2_with fail
  refine (unhide HN).mono ?_
  rintro e w1 ⟨rfl, hR, hT⟩
  simp only at hR
  have z1 := hT.size
  simp only [World.size_alloc] at z1
  have RR1 := (RR.touch' hT (.inr (by omega))).alloc (.cells #[.int .i64 k, .int .i64 0, .string ⟨#[]⟩, .slice none 0 0] 42)
  have RV := Row.new w1 #[.int .i64 k, .int .i64 0, .string ⟨#[]⟩, .slice none 0 0] 42
  have hR1 := hR.alloc (.cells #[.int .i64 k, .int .i64 0, .string ⟨#[]⟩, .slice none 0 0] 42)
  have T1 := (TT.trans hT).alloc (.cells #[.int .i64 k, .int .i64 0, .string ⟨#[]⟩, .slice none 0 0] 42)
  clear HN hT TT RR hR
  by_cases k1 : k = 1
  · subst k1
    have HX := hide ((unhide HX).trans (show valKI 1 s1 = (⟨1, (numI 1 s1).1, ⟨#[]⟩, []⟩, (numI 1 s1).2) from rfl))
    have HN2 := hide (number_1 g h0 h1 h2 s1 _ hR1)
    generalize numI 1 s1 = r at HN2 HX
    obtain ⟨a, s2⟩ := r
    go_wp2_with fail
    refine (unhide HN2).mono ?_
    rintro e w2 ⟨rfl, hR2, hT2⟩
    simp only at hR2
    have RV2 := RV.touch' hT2 (.inr (by omega))
    have RR2 := RR1.touch' hT2 (.inr (by omega))
    obtain ⟨c0, c1, c2, c3⟩ := rowV RV2
    have fv := fun j => RV2.frozen j
    obtain ⟨e0, e1, e2, e3⟩ := rowV RR2
    have fr := fun j => RR2.frozen j
    have hne : w.heap.size ≠ w1.heap.size := by omega
    have hne' : w1.heap.size ≠ w.heap.size := by omega
    have RV3 := RV2.set 1 (.int .i64 a)
    have RR3 := RR2.setFar (p := ⟨w1.heap.size, 1, none⟩) (by show w.heap.size ≠ w1.heap.size; omega) (.int .i64 a)
    have hR3 := hR2.setFar ⟨w1.heap.size, 1, none⟩ (.int .i64 a) (by show g < w1.heap.size; omega)
    have T3 := (T1.trans hT2).setNew ⟨w1.heap.size, 1, none⟩ (.int .i64 a) (by show w.heap.size ≤ w1.heap.size; omega)
    simp only [List.setIfInBounds_toArray, List.set_cons_succ, List.set_cons_zero] at RV3
    clear RV2 RR2 hR2 hT2
    go_wp2_with fail
    generalize w2.setCell ⟨w1.heap.size, 1, none⟩ (.int .i64 a) = W3 at RV3 RR3 hR3 T3 ⊢
    clear c0 c1 c2 c3 fv fr e0 e1 e2 e3
    have RF := put4_row RR3 (.int .i64 1) (.int .i64 a) (.string ⟨#[]⟩) (.slice none 0 0)
    obtain ⟨g0, g1, g2, g3⟩ := rowV RF
    simp only [put4] at g0 g1 g2 g3
    refine bodyPost_ret (res_val Try.results29 rfl g0 g1 g2 g3) rfl ?_
    rw [unhide HX]
    exact ⟨_, _, rfl, own_put4' (World.ownsRow_nil _ _ _ _) (by intro q hq; cases hq), IRs.put4 hR3 _ _ _ _ hg, Touch.put4 T3 (Nat.le_refl _) _ _ _ _⟩
  by_cases k2 : k = 2
  · subst k2
    have HX := hide ((unhide HX).trans (show valKI 2 s1 = (⟨2, (numI 8 s1).1, ⟨#[]⟩, []⟩, (numI 8 s1).2) from rfl))
    have HN2 := hide (number_8 g h0 h1 h2 s1 _ hR1)
    generalize numI 8 s1 = r at HN2 HX
    obtain ⟨a, s2⟩ := r
    go_wp2_with fail
    refine (unhide HN2).mono ?_
    rintro e w2 ⟨rfl, hR2, hT2⟩
    simp only at hR2
    have RV2 := RV.touch' hT2 (.inr (by omega))
    have RR2 := RR1.touch' hT2 (.inr (by omega))
    obtain ⟨c0, c1, c2, c3⟩ := rowV RV2
    have fv := fun j => RV2.frozen j
    obtain ⟨e0, e1, e2, e3⟩ := rowV RR2
    have fr := fun j => RR2.frozen j
    have hne : w.heap.size ≠ w1.heap.size := by omega
    have hne' : w1.heap.size ≠ w.heap.size := by omega
    have RV3 := RV2.set 1 (.int .i64 a)
    have RR3 := RR2.setFar (p := ⟨w1.heap.size, 1, none⟩) (by show w.heap.size ≠ w1.heap.size; omega) (.int .i64 a)
    have hR3 := hR2.setFar ⟨w1.heap.size, 1, none⟩ (.int .i64 a) (by show g < w1.heap.size; omega)
    have T3 := (T1.trans hT2).setNew ⟨w1.heap.size, 1, none⟩ (.int .i64 a) (by show w.heap.size ≤ w1.heap.size; omega)
    simp only [List.setIfInBounds_toArray, List.set_cons_succ, List.set_cons_zero] at RV3
    clear RV2 RR2 hR2 hT2
    go_wp2_with fail
    generalize w2.setCell ⟨w1.heap.size, 1, none⟩ (.int .i64 a) = W3 at RV3 RR3 hR3 T3 ⊢
    clear c0 c1 c2 c3 fv fr e0 e1 e2 e3
    have RF := put4_row RR3 (.int .i64 2) (.int .i64 a) (.string ⟨#[]⟩) (.slice none 0 0)
    obtain ⟨g0, g1, g2, g3⟩ := rowV RF
    simp only [put4] at g0 g1 g2 g3
    refine bodyPost_ret (res_val Try.results29 rfl g0 g1 g2 g3) rfl ?_
    rw [unhide HX]
    exact ⟨_, _, rfl, own_put4' (World.ownsRow_nil _ _ _ _) (by intro q hq; cases hq), IRs.put4 hR3 _ _ _ _ hg, Touch.put4 T3 (Nat.le_refl _) _ _ _ _⟩
  by_cases k3 : k = 3
  · subst k3
    have HX := hide ((unhide HX).trans (show valKI 3 s1 = (⟨3, 0, (textI s1).1, []⟩, (textI s1).2) from rfl))
    have HN2 := hide (rtext_any g h0 h1 h2 s1 _ hR1)
    generalize textI s1 = r at HN2 HX
    obtain ⟨a, s2⟩ := r
    go_wp2_with fail
    refine (unhide HN2).mono ?_
    rintro e w2 ⟨rfl, hR2, hT2⟩
    simp only at hR2
    have RV2 := RV.touch' hT2 (.inr (by omega))
    have RR2 := RR1.touch' hT2 (.inr (by omega))
    obtain ⟨c0, c1, c2, c3⟩ := rowV RV2
    have fv := fun j => RV2.frozen j
    obtain ⟨e0, e1, e2, e3⟩ := rowV RR2
    have fr := fun j => RR2.frozen j
    have hne : w.heap.size ≠ w1.heap.size := by omega
    have hne' : w1.heap.size ≠ w.heap.size := by omega
    have RV3 := RV2.set 2 (.string a)
    have RR3 := RR2.setFar (p := ⟨w1.heap.size, 2, none⟩) (by show w.heap.size ≠ w1.heap.size; omega) (.string a)
    have hR3 := hR2.setFar ⟨w1.heap.size, 2, none⟩ (.string a) (by show g < w1.heap.size; omega)
    have T3 := (T1.trans hT2).setNew ⟨w1.heap.size, 2, none⟩ (.string a) (by show w.heap.size ≤ w1.heap.size; omega)
    simp only [List.setIfInBounds_toArray, List.set_cons_succ, List.set_cons_zero] at RV3
    clear RV2 RR2 hR2 hT2
    go_wp2_with fail
    generalize w2.setCell ⟨w1.heap.size, 2, none⟩ (.string a) = W3 at RV3 RR3 hR3 T3 ⊢
    clear c0 c1 c2 c3 fv fr e0 e1 e2 e3
    have RF := put4_row RR3 (.int .i64 3) (.int .i64 0) (.string a) (.slice none 0 0)
    obtain ⟨g0, g1, g2, g3⟩ := rowV RF
    simp only [put4] at g0 g1 g2 g3
    refine bodyPost_ret (res_val Try.results29 rfl g0 g1 g2 g3) rfl ?_
    rw [unhide HX]
    exact ⟨_, _, rfl, own_put4' (World.ownsRow_nil _ _ _ _) (by intro q hq; cases hq), IRs.put4 hR3 _ _ _ _ hg, Touch.put4 T3 (Nat.le_refl _) _ _ _ _⟩
  by_cases k4 : k = 4
  · subst k4
    have HX := hide ((unhide HX).trans (show valKI 4 s1 = (⟨4, 0, ⟨#[]⟩, (namesI s1).1⟩, (namesI s1).2) from rfl))
    have HN2 := hide (names_any g h0 h1 h2 s1 _ hR1)
    generalize namesI s1 = r at HN2 HX
    obtain ⟨a, s2⟩ := r
    go_wp2_with fail
    refine (unhide HN2).mono ?_
    rintro e w2 ⟨ad, cd, rfl, ow2, hR2, hT2⟩
    simp only at hR2 ow2
    simp only [World.size_alloc] at ow2
    have RV2 := RV.touch' hT2 (.inr (by omega))
    have RR2 := RR1.touch' hT2 (.inr (by omega))
    obtain ⟨c0, c1, c2, c3⟩ := rowV RV2
    have fv := fun j => RV2.frozen j
    obtain ⟨e0, e1, e2, e3⟩ := rowV RR2
    have fr := fun j => RR2.frozen j
    have hne : w.heap.size ≠ w1.heap.size := by omega
    have hne' : w1.heap.size ≠ w.heap.size := by omega
    have RV3 := RV2.set 3 (.slice ad a.length cd)
    have RR3 := RR2.setFar (p := ⟨w1.heap.size, 3, none⟩) (by show w.heap.size ≠ w1.heap.size; omega) (.slice ad a.length cd)
    have hR3 := hR2.setFar ⟨w1.heap.size, 3, none⟩ (.slice ad a.length cd) (by show g < w1.heap.size; omega)
    have T3 := (T1.trans hT2).setNew ⟨w1.heap.size, 3, none⟩ (.slice ad a.length cd) (by show w.heap.size ≤ w1.heap.size; omega)
    have ow3 := owns_setFar' ow2 ⟨w1.heap.size, 3, none⟩ (.slice ad a.length cd) (fun q hq => by have := (ow2.lt q hq).1; show q ≠ w1.heap.size; omega)
    simp only [List.setIfInBounds_toArray, List.set_cons_succ, List.set_cons_zero] at RV3
    clear RV2 RR2 hR2 hT2 ow2
    go_wp2_with fail
    generalize w2.setCell ⟨w1.heap.size, 3, none⟩ (.slice ad a.length cd) = W3 at RV3 RR3 hR3 T3 ow3 ⊢
    clear c0 c1 c2 c3 fv fr e0 e1 e2 e3
    have ow4 := ownsRow_low' ow3 (show w.heap.size ≤ w1.heap.size + 1 by omega)
    have RF := put4_row RR3 (.int .i64 4) (.int .i64 0) (.string ⟨#[]⟩) (.slice ad a.length cd)
    obtain ⟨g0, g1, g2, g3⟩ := rowV RF
    simp only [put4] at g0 g1 g2 g3
    refine bodyPost_ret (res_val Try.results29 rfl g0 g1 g2 g3) rfl ?_
    rw [unhide HX]
    exact ⟨_, _, rfl, own_put4' ow4 (by intro q hq; have := (ow3.lt q hq).1; omega), IRs.put4 hR3 _ _ _ _ hg, Touch.put4 T3 (Nat.le_refl _) _ _ _ _⟩
  have HX := hide ((unhide HX).trans (show valKI k s1 = (⟨k, 0, ⟨#[]⟩, []⟩, s1) by unfold valKI; rw [if_neg k1, if_neg k2, if_neg k3, if_neg k4]; rfl))
  have i1 : (k == 1) = false := beq_eq_false_iff_ne.2 k1
  have i2 : (k == 2) = false := beq_eq_false_iff_ne.2 k2
  have i3 : (k == 3) = false := beq_eq_false_iff_ne.2 k3
  have i4 : (k == 4) = false := beq_eq_false_iff_ne.2 k4
  obtain ⟨c0, c1, c2, c3⟩ := rowV RV
  have f0 := fun j => (RR1).frozen j
  obtain ⟨e0, e1, e2, e3⟩ := rowV RR1
  go_wp2_with fail
  have RF := put4_row RR1 (.int .i64 k) (.int .i64 0) (.string ⟨#[]⟩) (.slice none 0 0)
  obtain ⟨g0, g1, g2, g3⟩ := rowV RF
  simp only [put4] at g0 g1 g2 g3
  refine bodyPost_ret (res_val Try.results29 rfl g0 g1 g2 g3) rfl ?_
  rw [unhide HX]
  exact ⟨_, _, rfl, own_put4' (World.ownsRow_nil _ _ _ _) (by intro q hq; cases hq), IRs.put4 hR1 _ _ _ _ hg, Touch.put4 T1 (Nat.le_refl _) _ _ _ _⟩

end Go.Proofs.Ytmkoidbpkhiohaa

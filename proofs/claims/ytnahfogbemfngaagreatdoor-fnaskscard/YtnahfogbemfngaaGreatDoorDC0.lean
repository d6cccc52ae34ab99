/-
  The draws of pairs of lists. Own work.
-/
import Derived.Test.YtnahfogbemfngaaGreatDoorDB
namespace Go.Proofs.YtnahfogbemfngaaGreatDoor
open Go.RowKit
set_option linter.unusedVariables false

theorem Names.snoc {w : World} {base cx : Nat} {x : Option Addr} {K : List ByteArray} {s : ByteArray} (h : w.ownsRow base 9 1 (.slice x (K.length + 1) cx) (K.length + 1) (K.map Value.string ++ [.string s])) (hK : ∀ u ∈ K, u.size ≤ 1000) (hs : s.size ≤ 1000) : Names w base x (K ++ [s]) cx :=
  ⟨by rw [List.map_append, List.length_append]; exact h, fun u hu => by
    rcases List.mem_append.1 hu with hu | hu
    · exact hK u hu
    · simp only [List.mem_singleton] at hu; subst hu; exact hs⟩

theorem Names.app {w : World} {base cx : Nat} {x : Option Addr} {K L : List ByteArray} (h : w.ownsRow base 9 1 (.slice x (K.length + L.length) cx) (K.length + L.length) (K.map Value.string ++ L.map Value.string)) (hK : ∀ u ∈ K, u.size ≤ 1000) (hL : ∀ u ∈ L, u.size ≤ 1000) : Names w base x (K ++ L) cx :=
  ⟨by rw [List.map_append, List.length_append]; exact h, fun u hu => by
    rcases List.mem_append.1 hu with hu | hu
    · exact hK u hu
    · exact hL u hu⟩

set_option maxRecDepth 100000 in
set_option maxHeartbeats 6400000 in
theorem l1spoil_t (R : Nat) (a : Option Addr) (n c : Nat) (base : Nat) (x : Option Addr) (K : List ByteArray) (cx : Nat) (w : World) (h : RdAt w R a n c) (hN : Names w base x K cx) (hK : K.length ≤ 64) :
    Calls Tryz.prog 13 #[.pointer (some ⟨R, 0, none⟩), .slice x K.length cx] w fun e w' => ListAns R a n c w 128 e w' := by
  obtain ⟨i, hi, hz0, hz1, hz2⟩ := info_parts infoS
  have hR := h.lt
  have hsm := hN.small
  have Hsm := hide hsm
  clear hsm
  go_enter Tryz.func13, Tryz.ntmps13
  go_wp2_with (at_builtin; refine append_strs rfl _ _ rfl w.heap.size _ _ _ rfl (World.ownsRow_nil _ _ _ _) x K.length cx K rfl hN.strs (owns_nil hN.own) ?c1 (Nat.le_refl _) ?_)
  case c1 => omega
  intro v1 w1 hown1 hgrow1
  have B1 : Below w.heap.size w w1 := (Below.refl _ _).grown hgrow1 (Nat.le_refl _) (fun k hk => by cases hk)
  obtain ⟨x1, cx1, hf1⟩ := owns_form hown1
  rw [hf1] at hown1 ⊢
  clear hf1 hgrow1 hN
  have N1 : Names w1 w.heap.size x1 K cx1 := ⟨hown1, unhide Hsm⟩
  clear hown1
  have h1 := h.after B1 hR
  go_wp2_with fail
  refine (next_t R a n c w1 h1).mono ?_
  rintro e w2 ⟨y, rfl, y0, y1, h2, t2⟩
  have T2 : Touch R (R + 1) w w2 := (Touch.of_below B1 (Nat.le_refl _)).trans t2
  have N2 := N1.touch t2 (by omega)
  have hbs := T2.size
  clear h h1 N1 B1 t2
  have O2 := N2.own
  by_cases e3 : y % 5 = 3
  · have q0 : (y % 5 == 0) = false := beq_eq_false_iff_ne.2 (by omega)
    have q1 : (y % 5 == 1) = false := beq_eq_false_iff_ne.2 (by omega)
    have q2 : (y % 5 == 2) = false := beq_eq_false_iff_ne.2 (by omega)
    have q3 : (y % 5 == 3) = true := beq_iff_eq.2 e3
    clear e3
    go_wp2_with fail
    refine (l1wide_int _ _ _ (by omega) (by omega) (by omega) (by omega)).mono ?_
    rintro e w3 ⟨x3, c3, K3, rfl, l3, N3, b3⟩
    have l3' : K3.length ≤ 64 := by omega
    clear l3
    have T3 := T2.then_below b3 T2.size
    have h3 := h2.after b3 h2.lt
    have O3 := (N2.below b3 (Nat.le_refl _)).own
    have S3 := N3.strs
    have n3 := owns_nil N3.own
    have Hs3 := hide N3.small
    have hbs3 := T3.size
    clear N3 N2 O2 T2 h2 b3
    go_wp2_with (at_builtin; refine append_strs rfl _ _ rfl w.heap.size _ _ _ rfl O3 x3 K3.length c3 K3 rfl S3 n3 ?d1 hbs3 ?_)
    case d1 => omega
    intro v4 w4 hown4 hgrow4
    have B4 : Below w.heap.size w3 w4 := (Below.refl w.heap.size w3).grown hgrow4 hbs3 (fun k hk => (O3.lt k hk).1)
    obtain ⟨x4, cx4, hf4⟩ := owns_form hown4
    rw [hf4] at hown4 ⊢
    clear hf4 hgrow4
    go_wp2_with fail
    go_ret
    exact ⟨x4, cx4, K ++ K3, by rw [List.length_append]; rfl, by rw [List.length_append]; omega, Names.app hown4 (unhide Hsm) (unhide Hs3), h3.after B4 hR, T3.then_below B4 (Nat.le_refl _)⟩
  have q3 : (y % 5 == 3) = false := beq_eq_false_iff_ne.2 e3
  by_cases e4 : y % 5 = 4
  · have q0 : (y % 5 == 0) = false := beq_eq_false_iff_ne.2 (by omega)
    have q1 : (y % 5 == 1) = false := beq_eq_false_iff_ne.2 (by omega)
    have q2 : (y % 5 == 2) = false := beq_eq_false_iff_ne.2 (by omega)
    clear e3 e4
    by_cases hz : 0 < K.length
    · have iz : (0 : Int) < (K.length : Int) := by omega
      obtain ⟨b, off, ha, hbl, hc⟩ := N2.strs.at hz
      have hcl := hc (K.length - 1) (by omega)
      clear hc
      subst ha
      have t1 : ((K.length : Int) - 1).toNat = K.length - 1 := by omega
      have j1 : (0 : Int) ≤ (K.length : Int) - 1 := by omega
      have j2 : (K.length : Int) - 1 < (K.length : Int) := by omega
      have Hl := hide (show (nth K (K.length - 1)).size ≤ 1000 by rw [nth_eq K _ (by omega)]; exact unhide Hsm _ (List.getElem_mem _))
      go_wp2_with (at_builtin; refine wpList_append_own _ rfl _ _ 23 rfl w.heap.size 9 i (.string ByteArray.empty) 1 16 Tryz.underlying23 hi hz0 hz1 hz2 rfl (by decide) _ _ _ rfl (O2.alloc _) ⟨w2.heap.size, 0, none⟩ 1 1 [.string (nth K (K.length - 1))] rfl rfl ?c1 ?c2 ?c3 ?c4 ?c5 ?_)
      case c1 => exact cell_one_new _ _ _
      case c2 => intro u hu; simp at hu; subst hu; rfl
      case c3 => unfold maxLen; omega
      case c4 => omega
      case c5 => simp; omega
      intro v' w3 hown' hgrow _
      have B3 : Below w.heap.size w2 w3 := ((Below.refl w.heap.size w2).alloc hbs _).grown hgrow (by simp; omega) (fun k hk => (O2.lt k hk).1)
      obtain ⟨x', cx', hf⟩ := owns_form hown'
      rw [hf] at hown' ⊢
      clear hgrow hf
      go_wp2_with fail
      go_ret
      exact ⟨x', cx', K ++ [nth K (K.length - 1)], by rw [List.length_append]; rfl, by rw [List.length_append]; simp; omega, Names.snoc hown' (unhide Hsm) (unhide Hl), h2.after B3 hR, T2.then_below B3 (Nat.le_refl _)⟩
    · have iz : ¬ ((0 : Int) < (K.length : Int)) := by omega
      go_wp2_with fail
      go_ret
      exact ⟨x1, cx1, K, rfl, by omega, N2, h2, T2⟩
  · have hq : y % 5 = 0 ∨ y % 5 = 1 ∨ y % 5 = 2 := by omega
    clear e3 e4
    rcases hq with hq | hq | hq
    · have q0 : (y % 5 == 0) = true := beq_iff_eq.2 hq
      clear hq
      go_wp2_with (at_builtin; refine wpList_append_own _ rfl _ _ 23 rfl w.heap.size 9 i (.string ByteArray.empty) 1 16 Tryz.underlying23 hi hz0 hz1 hz2 rfl (by decide) _ _ _ rfl (O2.alloc _) ⟨w2.heap.size, 0, none⟩ 1 1 [.string (⟨#[]⟩ : ByteArray)] rfl rfl ?c1 ?c2 ?c3 ?c4 ?c5 ?_)
      case c1 => exact cell_one_new _ _ _
      case c2 => intro u hu; simp at hu; subst hu; rfl
      case c3 => unfold maxLen; omega
      case c4 => omega
      case c5 => simp; omega
      intro v' w3 hown' hgrow _
      have B3 : Below w.heap.size w2 w3 := ((Below.refl w.heap.size w2).alloc hbs _).grown hgrow (by simp; omega) (fun k hk => (O2.lt k hk).1)
      obtain ⟨x', cx', hf⟩ := owns_form hown'
      rw [hf] at hown' ⊢
      clear hgrow hf
      go_wp2_with fail
      go_ret
      exact ⟨x', cx', K ++ [(⟨#[]⟩ : ByteArray)], by rw [List.length_append]; rfl, by rw [List.length_append]; simp; omega, Names.snoc hown' (unhide Hsm) (by decide), h2.after B3 hR, T2.then_below B3 (Nat.le_refl _)⟩
    · have q0 : (y % 5 == 0) = false := beq_eq_false_iff_ne.2 (by omega)
      have q1 : (y % 5 == 1) = true := beq_iff_eq.2 hq
      clear hq
      go_wp2_with (at_builtin; refine wpList_append_own _ rfl _ _ 23 rfl w.heap.size 9 i (.string ByteArray.empty) 1 16 Tryz.underlying23 hi hz0 hz1 hz2 rfl (by decide) _ _ _ rfl (O2.alloc _) ⟨w2.heap.size, 0, none⟩ 1 1 [.string (⟨#[97]⟩ : ByteArray)] rfl rfl ?c1 ?c2 ?c3 ?c4 ?c5 ?_)
      case c1 => exact cell_one_new _ _ _
      case c2 => intro u hu; simp at hu; subst hu; rfl
      case c3 => unfold maxLen; omega
      case c4 => omega
      case c5 => simp; omega
      intro v' w3 hown' hgrow _
      have B3 : Below w.heap.size w2 w3 := ((Below.refl w.heap.size w2).alloc hbs _).grown hgrow (by simp; omega) (fun k hk => (O2.lt k hk).1)
      obtain ⟨x', cx', hf⟩ := owns_form hown'
      rw [hf] at hown' ⊢
      clear hgrow hf
      go_wp2_with fail
      go_ret
      exact ⟨x', cx', K ++ [(⟨#[97]⟩ : ByteArray)], by rw [List.length_append]; rfl, by rw [List.length_append]; simp; omega, Names.snoc hown' (unhide Hsm) (by decide), h2.after B3 hR, T2.then_below B3 (Nat.le_refl _)⟩
    · have q0 : (y % 5 == 0) = false := beq_eq_false_iff_ne.2 (by omega)
      have q1 : (y % 5 == 1) = false := beq_eq_false_iff_ne.2 (by omega)
      have q2 : (y % 5 == 2) = true := beq_iff_eq.2 hq
      clear hq
      go_wp2_with (at_builtin; refine wpList_append_own _ rfl _ _ 23 rfl w.heap.size 9 i (.string ByteArray.empty) 1 16 Tryz.underlying23 hi hz0 hz1 hz2 rfl (by decide) _ _ _ rfl (O2.alloc _) ⟨w2.heap.size, 0, none⟩ 1 1 [.string (⟨#[122, 122, 32, 116, 111, 112]⟩ : ByteArray)] rfl rfl ?c1 ?c2 ?c3 ?c4 ?c5 ?_)
      case c1 => exact cell_one_new _ _ _
      case c2 => intro u hu; simp at hu; subst hu; rfl
      case c3 => unfold maxLen; omega
      case c4 => omega
      case c5 => simp; omega
      intro v' w3 hown' hgrow _
      have B3 : Below w.heap.size w2 w3 := ((Below.refl w.heap.size w2).alloc hbs _).grown hgrow (by simp; omega) (fun k hk => (O2.lt k hk).1)
      obtain ⟨x', cx', hf⟩ := owns_form hown'
      rw [hf] at hown' ⊢
      clear hgrow hf
      go_wp2_with fail
      go_ret
      exact ⟨x', cx', K ++ [(⟨#[122, 122, 32, 116, 111, 112]⟩ : ByteArray)], by rw [List.length_append]; rfl, by rw [List.length_append]; simp; omega, Names.snoc hown' (unhide Hsm) (by decide), h2.after B3 hR, T2.then_below B3 (Nat.le_refl _)⟩

end Go.Proofs.YtnahfogbemfngaaGreatDoor

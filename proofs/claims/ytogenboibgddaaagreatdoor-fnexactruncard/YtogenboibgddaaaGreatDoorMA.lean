/-
  The walk over merge with impl.onAnySide. Own work.
-/
import Derived.Test.YtogenboibgddaaaGreatDoorMXAD
import Derived.Test.YtogenboibgddaaaGreatDoorMXAB
namespace Go.Proofs.YtogenboibgddaaaGreatDoor
open Go.RowKit

theorem keep_KA (x : Int) (w : World) :
    Calls Tryz.prog 138 #[.int .i64 x] w fun e w' => e = .returned (.bool true) ∧ w' = w := by
  go_enter Tryz.func138, Tryz.ntmps138
  go_wp2
  go_ret
  exact ⟨rfl, rfl⟩

theorem owns_drewN_KA {w : World} {base e size n k : Nat} {v : Value} {xs : List Value} (h : w.ownsRow base e size v n xs) : (w.drewN k).ownsRow base e size v n xs := h

set_option maxRecDepth 100000 in
set_option maxHeartbeats 4000000 in
theorem merge_KA (a : Option Addr) (n c : Nat) (ss : List ByteArray) (a' : Option Addr) (n' c' : Nat) (tt : List ByteArray) (w : World) (h : Strs w a n c ss) (h' : Strs w a' n' c' tt)
    (hs : risB ss = true) (ht : risB tt = true) (k1 : n ≤ 64) (k2 : n' ≤ 64) :
    Calls Tryz.prog 137 #[.slice a n c, .slice a' n' c', .func (Fn.func 138) #[] #[]] w fun e w' => ∃ x cx K, e = .returned (.slice x K.length cx) ∧ w'.ownsRow w.heap.size 9 1 (.slice x K.length cx) K.length (K.map Value.string) ∧ Below w.heap.size w w' ∧ KA ss tt ss.length tt.length K := by
  obtain ⟨i, hi, hz0, hz1, hz2⟩ := info_parts infoS
  have hl := h.len
  have hl' := h'.len
  subst hl hl'
  have Hs := hide hs
  have Ht := hide ht
  clear hs ht
  go_enter Tryz.func137, Tryz.ntmps137
  go_wp2
  go_loopw [7, 8, 9] (fun v i j wr => ∃ (p q : Nat) (K : List ByteArray), i = .int .i64 p ∧ j = .int .i64 q ∧ MInv ss tt p q ∧ KA ss tt p q K ∧ K.length ≤ p + q ∧ wr.ownsRow w.heap.size 9 1 v K.length (K.map Value.string) ∧ Below w.heap.size w wr) (fun _ i j _ => ss.length + tt.length - (intOf i).toNat - (intOf j).toNat)
  case atStart => exact ⟨0, 0, [], rfl, rfl, MInv.start _ _, KA.start, by simp, World.ownsRow_nil _ _ _ _, Below.refl _ _⟩
  case round =>
    obtain ⟨p, q, K, rfl, rfl, hm, kk, hK, hown, hb⟩ := hrel
    have hbs := hb.size
    have hp := hm.i_le
    have hq := hm.j_le
    have hs := unhide Hs
    have ht := unhide Ht
    by_cases hpl : p < ss.length
    · obtain ⟨b, off, ha, _, hcp⟩ := (h.below hb (Nat.le_refl _)).cells p hpl
      subst ha
      have ip : (p : Int) < (ss.length : Int) := by omega
      by_cases hql : q < tt.length
      · obtain ⟨b', off', ha', _, hcq⟩ := (h'.below hb (Nat.le_refl _)).cells q hql
        subst ha'
        have iq : (q : Int) < (tt.length : Int) := by omega
        have eq : ((q : Int) == (tt.length : Int)) = false := beq_eq_false_iff_ne.2 (by omega)
        have ep : ((p : Int) == (ss.length : Int)) = false := beq_eq_false_iff_ne.2 (by omega)
        cases hv1 : Op.bytesLess (nth ss p).toList (nth tt q).toList
        · cases hv2 : Op.bytesLess (nth tt q).toList (nth ss p).toList
          · -- the two are one
            go_wp2
            go_quiet (fail)
            go_wp2
            go_quiet (fail)
            go_wp2_with (first
              | (go_at_call 138; refine (keep_KA _ _).mono ?_; rintro e w2 ⟨rfl, hw2⟩; rw [hw2]; clear hw2)
              | (at_builtin; refine wpList_append_own _ rfl _ _ 26 rfl w.heap.size 9 i (.string ByteArray.empty) 1 16 Tryz.underlying26 hi hz0 hz1 hz2 rfl (by decide) _ _ _ rfl (World.ownsRow.alloc (owns_drewN_KA hown) _) ⟨wr.heap.size, 0, none⟩ 1 1 [.string (nth ss p)] rfl rfl ?c1 ?c2 ?c3 ?c4 ?c5 ?_))
            case c1 => exact cell_one_new _ _ _
            case c2 => intro u hu; simp at hu; subst hu; rfl
            case c3 => unfold maxLen; omega
            case c4 => omega
            case c5 => simp; omega
            intro v' w1 hown' hgrow _
            have hb1 : Below w.heap.size w w1 := ((below_drewN hb _).alloc hbs _).grown hgrow (by simp; omega) (fun k hk => (hown.lt k hk).1)
            clear hgrow
            go_wp2
            go_roundw
            case rel => exact ⟨p + 1, q + 1, _, by go_num, by go_num, (hm.both hs ht hpl hql hv1 hv2).1, (kk.both hm hs hpl hql hv1 hv2), by rw [List.length_append]; simp only [List.length_cons, List.length_nil]; omega, by rw [List.map_append, List.length_append]; exact hown', hb1⟩
            case measure => simp [intOf]; omega
          · -- the right one
            have HC : p < ss.length → sl (nth tt q) (nth ss p) = true := fun _ => hv2
            go_wp2
            go_quiet (fail)
            go_wp2
            go_quiet (fail)
            go_wp2_with (first
              | (go_at_call 138; refine (keep_KA _ _).mono ?_; rintro e w2 ⟨rfl, hw2⟩; rw [hw2]; clear hw2)
              | (at_builtin; refine wpList_append_own _ rfl _ _ 26 rfl w.heap.size 9 i (.string ByteArray.empty) 1 16 Tryz.underlying26 hi hz0 hz1 hz2 rfl (by decide) _ _ _ rfl (World.ownsRow.alloc (owns_drewN_KA hown) _) ⟨wr.heap.size, 0, none⟩ 1 1 [.string (nth tt q)] rfl rfl ?c1 ?c2 ?c3 ?c4 ?c5 ?_))
            case c1 => exact cell_one_new _ _ _
            case c2 => intro u hu; simp at hu; subst hu; rfl
            case c3 => unfold maxLen; omega
            case c4 => omega
            case c5 => simp; omega
            intro v' w1 hown' hgrow _
            have hb1 : Below w.heap.size w w1 := ((below_drewN hb _).alloc hbs _).grown hgrow (by simp; omega) (fun k hk => (hown.lt k hk).1)
            clear hgrow
            go_wp2
            go_roundw
            case rel => exact ⟨p, q + 1, _, by go_num, by go_num, (hm.right hs hql (fun hp => HC hp)).1, (kk.right hm ht hql), by rw [List.length_append]; simp only [List.length_cons, List.length_nil]; omega, by rw [List.map_append, List.length_append]; exact hown', hb1⟩
            case measure => simp [intOf]; omega
        · -- the left one
          have HC : q < tt.length → sl (nth ss p) (nth tt q) = true := fun _ => hv1
          go_wp2
          go_quiet (fail)
          go_wp2_with (first
            | (go_at_call 138; refine (keep_KA _ _).mono ?_; rintro e w2 ⟨rfl, hw2⟩; rw [hw2]; clear hw2)
            | (at_builtin; refine wpList_append_own _ rfl _ _ 26 rfl w.heap.size 9 i (.string ByteArray.empty) 1 16 Tryz.underlying26 hi hz0 hz1 hz2 rfl (by decide) _ _ _ rfl (World.ownsRow.alloc (owns_drewN_KA hown) _) ⟨wr.heap.size, 0, none⟩ 1 1 [.string (nth ss p)] rfl rfl ?c1 ?c2 ?c3 ?c4 ?c5 ?_))
          case c1 => exact cell_one_new _ _ _
          case c2 => intro u hu; simp at hu; subst hu; rfl
          case c3 => unfold maxLen; omega
          case c4 => omega
          case c5 => simp; omega
          intro v' w1 hown' hgrow _
          have hb1 : Below w.heap.size w w1 := ((below_drewN hb _).alloc hbs _).grown hgrow (by simp; omega) (fun k hk => (hown.lt k hk).1)
          clear hgrow
          go_wp2
          go_roundw
          case rel => exact ⟨p + 1, q, _, by go_num, by go_num, (hm.left ht hpl (fun hq => HC hq)).1, (kk.left hm hs hpl), by rw [List.length_append]; simp only [List.length_cons, List.length_nil]; omega, by rw [List.map_append, List.length_append]; exact hown', hb1⟩
          case measure => simp [intOf]; omega
      · have eq : ((q : Int) == (tt.length : Int)) = true := beq_iff_eq.2 (by omega)
        have HC : q < tt.length → sl (nth ss p) (nth tt q) = true := fun hq' => absurd hq' hql
        go_wp2
        go_quiet (fail)
        go_wp2_with (first
          | (go_at_call 138; refine (keep_KA _ _).mono ?_; rintro e w2 ⟨rfl, hw2⟩; rw [hw2]; clear hw2)
          | (at_builtin; refine wpList_append_own _ rfl _ _ 26 rfl w.heap.size 9 i (.string ByteArray.empty) 1 16 Tryz.underlying26 hi hz0 hz1 hz2 rfl (by decide) _ _ _ rfl (World.ownsRow.alloc (owns_drewN_KA hown) _) ⟨wr.heap.size, 0, none⟩ 1 1 [.string (nth ss p)] rfl rfl ?c1 ?c2 ?c3 ?c4 ?c5 ?_))
        case c1 => exact cell_one_new _ _ _
        case c2 => intro u hu; simp at hu; subst hu; rfl
        case c3 => unfold maxLen; omega
        case c4 => omega
        case c5 => simp; omega
        intro v' w1 hown' hgrow _
        have hb1 : Below w.heap.size w w1 := ((below_drewN hb _).alloc hbs _).grown hgrow (by simp; omega) (fun k hk => (hown.lt k hk).1)
        clear hgrow
        go_wp2
        go_roundw
        case rel => exact ⟨p + 1, q, _, by go_num, by go_num, (hm.left ht hpl (fun hq => HC hq)).1, (kk.left hm hs hpl), by rw [List.length_append]; simp only [List.length_cons, List.length_nil]; omega, by rw [List.map_append, List.length_append]; exact hown', hb1⟩
        case measure => simp [intOf]; omega
    · by_cases hql : q < tt.length
      · obtain ⟨b', off', ha', _, hcq⟩ := (h'.below hb (Nat.le_refl _)).cells q hql
        subst ha'
        have iq : (q : Int) < (tt.length : Int) := by omega
        have eq : ((q : Int) == (tt.length : Int)) = false := beq_eq_false_iff_ne.2 (by omega)
        have ep : ((p : Int) == (ss.length : Int)) = true := beq_iff_eq.2 (by omega)
        have ip : decide ((p : Int) < (ss.length : Int)) = false := by simp; omega
        have HC : p < ss.length → sl (nth tt q) (nth ss p) = true := fun hp' => absurd hp' hpl
        go_wp2
        go_quiet (fail)
        go_wp2
        go_quiet (fail)
        go_wp2_with (first
          | (go_at_call 138; refine (keep_KA _ _).mono ?_; rintro e w2 ⟨rfl, hw2⟩; rw [hw2]; clear hw2)
          | (at_builtin; refine wpList_append_own _ rfl _ _ 26 rfl w.heap.size 9 i (.string ByteArray.empty) 1 16 Tryz.underlying26 hi hz0 hz1 hz2 rfl (by decide) _ _ _ rfl (World.ownsRow.alloc (owns_drewN_KA hown) _) ⟨wr.heap.size, 0, none⟩ 1 1 [.string (nth tt q)] rfl rfl ?c1 ?c2 ?c3 ?c4 ?c5 ?_))
        case c1 => exact cell_one_new _ _ _
        case c2 => intro u hu; simp at hu; subst hu; rfl
        case c3 => unfold maxLen; omega
        case c4 => omega
        case c5 => simp; omega
        intro v' w1 hown' hgrow _
        have hb1 : Below w.heap.size w w1 := ((below_drewN hb _).alloc hbs _).grown hgrow (by simp; omega) (fun k hk => (hown.lt k hk).1)
        clear hgrow
        go_wp2
        go_roundw
        case rel => exact ⟨p, q + 1, _, by go_num, by go_num, (hm.right hs hql (fun hp => HC hp)).1, (kk.right hm ht hql), by rw [List.length_append]; simp only [List.length_cons, List.length_nil]; omega, by rw [List.map_append, List.length_append]; exact hown', hb1⟩
        case measure => simp [intOf]; omega
      · have e1 : p = ss.length := by omega
        have e2 : q = tt.length := by omega
        subst e1
        subst e2
        go_wp2
        go_ret
        obtain ⟨x, cx, hf⟩ := owns_form hown
        subst hf
        exact ⟨x, cx, K, rfl, hown, hb, kk⟩

end Go.Proofs.YtogenboibgddaaaGreatDoor

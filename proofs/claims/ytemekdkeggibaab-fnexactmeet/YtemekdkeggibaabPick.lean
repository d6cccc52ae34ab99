/-
  The walks over l1has, l1pick; what they keep. Own work.
-/
import Derived.Test.YtemekdkeggibaabSets
import Derived.Test.YtemekdkeggibaabLaws
import Derived.WalkSpells
import Derived.WalkLawsBesides
namespace Go.Proofs.Ytemekdkeggibaab
open Go.RowKit

/-- are the two texts one? -/
def eqS (a b : ByteArray) : Bool := a.toList == b.toList

theorem eqS_iff (a b : ByteArray) : eqS a b = true ↔ a = b := by
  rw [eqS, beq_iff_eq, ByteArray.toList_eq, ByteArray.toList_eq]
  exact ⟨bytes_ext, fun h => by rw [h]⟩

/-- does the text stand in the list? -/
def hasB (ss : List ByteArray) (s : ByteArray) : Bool := ss.any fun x => eqS x s

theorem hasB_iff (ss : List ByteArray) (s : ByteArray) : hasB ss s = true ↔ s ∈ ss := by
  rw [hasB, List.any_eq_true]
  constructor
  · rintro ⟨x, hx, he⟩; rw [eqS_iff] at he; subst he; exact hx
  · intro h; exact ⟨s, h, (eqS_iff _ _).2 rfl⟩

theorem mem_nth (ss : List ByteArray) (s : ByteArray) : s ∈ ss ↔ ∃ j, j < ss.length ∧ nth ss j = s := by
  constructor
  · intro h
    obtain ⟨j, hj, rfl⟩ := List.getElem_of_mem h
    exact ⟨j, hj, nth_eq ss j hj⟩
  · rintro ⟨j, hj, rfl⟩
    rw [nth_eq ss j hj]; exact List.getElem_mem hj

theorem hasB_at (ss : List ByteArray) (s : ByteArray) (j : Nat) (hj : j < ss.length) (h : eqS (nth ss j) s = true) : hasB ss s = true := by
  rw [hasB_iff, mem_nth]; exact ⟨j, hj, (eqS_iff _ _).1 h⟩

theorem hasB_none (ss : List ByteArray) (s : ByteArray) (h : ∀ j, j < ss.length → eqS (nth ss j) s = false) : hasB ss s = false := by
  rw [Bool.eq_false_iff]; intro k; rw [hasB_iff, mem_nth] at k
  obtain ⟨j, hj, e⟩ := k
  have := h j hj
  rw [(eqS_iff _ _).2 e] at this; cases this

set_option maxHeartbeats 800000 in
theorem l1has_any (a : Option Addr) (n c : Nat) (ss : List ByteArray) (s : ByteArray) (w : World) (h : Strs w a n c ss) :
    Calls Try.prog 35 #[.slice a n c, .string s] w fun e w' => e = .returned (.bool (hasB ss s)) ∧ w' = w := by
  have hn : n ≤ 9223372036854775807 := by have := h.cap; have := h.small; unfold maxLen at this; omega
  go_enter Try.func35, Try.ntmps35
  go_wp2
  go_loop [6, 9] (fun _ i => ∃ k : Nat, k ≤ n ∧ i = .int .i64 k ∧ ∀ j, j < k → eqS (nth ss j) s = false) (fun _ i => n - (intOf i).toNat)
  case atStart => exact ⟨0, Nat.zero_le _, rfl, fun j hj => by omega⟩
  case round =>
    obtain ⟨k, hk, rfl, ha⟩ := hrel
    have Ha := hide ha
    clear ha
    by_cases hlt : k < n
    · obtain ⟨b, off, ha', _, hc⟩ := h.cells k hlt
      subst ha'
      cases hv : ((nth ss k).toList == s.toList)
      · go_wp2
        go_round
        case rel =>
          refine ⟨k + 1, by omega, by go_num, fun j hj => ?_⟩
          by_cases e : j = k
          · subst e; exact hv
          · exact unhide Ha j (by omega)
        case measure => simp [intOf]; omega
      · have Hf := hide (hasB_at ss s k (by have := h.len; omega) hv)
        go_wp2
        go_ret
        exact ⟨ret_bool (unhide Hf).symm, rfl⟩
    · go_wp2
      go_ret
      exact ⟨ret_bool (hasB_none ss s fun j hj => unhide Ha j (by have := h.len; omega)).symm, rfl⟩

/-- What l1pick keeps. -/
def pick (ss tt : List ByteArray) (b : Bool) : List ByteArray := ss.filter fun s => hasB tt s == b

theorem take_succ_nth (ss : List ByteArray) (k : Nat) (h : k < ss.length) : ss.take (k + 1) = ss.take k ++ [nth ss k] := by
  rw [nth_eq ss k h, List.take_succ_eq_append_getElem h]

theorem pick_yes (ss tt : List ByteArray) (b : Bool) (k : Nat) (h : k < ss.length) (hv : (hasB tt (nth ss k) == b) = true) : pick (ss.take (k + 1)) tt b = pick (ss.take k) tt b ++ [nth ss k] := by
  rw [take_succ_nth ss k h, pick, pick, List.filter_append]
  simp [hv]

theorem pick_no (ss tt : List ByteArray) (b : Bool) (k : Nat) (h : k < ss.length) (hv : (hasB tt (nth ss k) == b) = false) : pick (ss.take (k + 1)) tt b = pick (ss.take k) tt b := by
  rw [take_succ_nth ss k h, pick, pick, List.filter_append]
  simp [hv]

theorem pick_len (ss tt : List ByteArray) (b : Bool) : (pick ss tt b).length ≤ ss.length := List.length_filter_le _ _

/-- The value owns its row: its form. -/
theorem owns_form {w : World} {base e n : Nat} {v : Value} {xs : List Value} (h : w.ownsRow base e 1 v n xs) : ∃ x c, v = .slice x n c := by
  rcases h.2 with ⟨rfl, rfl⟩ | ⟨g, cap, cur, rfl, _⟩
  · exact ⟨_, _, rfl⟩
  · exact ⟨_, _, rfl⟩

theorem sizes_pick (ss tt : List ByteArray) (b : Bool) (h : ∀ j, j < ss.length → (nth ss j).size ≤ maxLen) : ∀ j, j < (pick ss tt b).length → (nth (pick ss tt b) j).size ≤ maxLen := by
  intro j hj
  have hm : nth (pick ss tt b) j ∈ ss := by
    rw [nth_eq _ j hj]
    exact (List.mem_filter.1 (List.getElem_mem hj)).1
  obtain ⟨i, hi, e⟩ := (mem_nth _ _).1 hm
  rw [← e]; exact h i hi

set_option maxHeartbeats 1600000 in
theorem l1pick_any (a : Option Addr) (n c : Nat) (ss : List ByteArray) (a' : Option Addr) (n' c' : Nat) (tt : List ByteArray) (q : Bool) (w : World) (h : Strs w a n c ss) (h' : Strs w a' n' c' tt) (hsm : n ≤ 1048576) :
    Calls Try.prog 25 #[.slice a n c, .slice a' n' c', .bool q] w fun e w' => ∃ x cx, e = .returned (.slice x (pick ss tt q).length cx) ∧ w'.ownsRow w.heap.size 9 1 (.slice x (pick ss tt q).length cx) (pick ss tt q).length ((pick ss tt q).map Value.string) ∧ Below w.heap.size w w' := by
  obtain ⟨i, hi, hz0, hz1, hz2⟩ := info_parts infoS
  have Hl := hide h.len
  go_enter Try.func25, Try.ntmps25
  go_wp2
  go_loopw [7, 9, 12] (fun v _ i wr => ∃ k : Nat, k ≤ n ∧ i = .int .i64 k ∧ wr.ownsRow w.heap.size 9 1 v (pick (ss.take k) tt q).length ((pick (ss.take k) tt q).map Value.string) ∧ Below w.heap.size w wr) (fun _ _ i _ => n - (intOf i).toNat)
  case atStart => exact ⟨0, Nat.zero_le _, rfl, World.ownsRow_nil _ _ _ _, Below.refl _ _⟩
  case round =>
    obtain ⟨k, hk, rfl, hown, hb⟩ := hrel
    by_cases hlt : k < n
    · obtain ⟨b, off, ha', hbl, hc⟩ := (h.below hb (Nat.le_refl _)).cells k hlt
      have g' := h'.below hb (Nat.le_refl _)
      subst ha'
      have hkl : k < ss.length := by have := unhide Hl; omega
      have hpl : (pick (ss.take k) tt q).length ≤ k := Nat.le_trans (pick_len _ _ _) (List.length_take_le _ _)
      generalize hP : pick (ss.take k) tt q = P at *
      have HP := hide hP
      clear hP
      cases hv : (hasB tt (nth ss k) == q)
      · have Hn := hide (pick_no ss tt q k hkl hv)
        go_wp2_with (go_at_call 35; refine (l1has_any _ _ _ _ _ _ g').mono ?_; rintro e w' ⟨rfl, rfl⟩)
        go_roundw
        case rel => exact ⟨k + 1, by omega, by go_num, by rw [unhide Hn, unhide HP]; exact hown, hb⟩
        case measure => simp [intOf]; omega
      · have Hn := hide (pick_yes ss tt q k hkl hv)
        have hbs := hb.size
        go_wp2_with (first
          | (go_at_call 35; refine (l1has_any _ _ _ _ _ _ g').mono ?_; rintro e w2 ⟨rfl, hw2⟩; rw [hw2]; clear hw2)
          | (at_builtin; refine wpList_append_own _ rfl _ _ 22 rfl w.heap.size 9 i (.string ByteArray.empty) 1 16 Try.underlying22 hi hz0 hz1 hz2 rfl (by decide) _ _ _ rfl (hown.alloc _) ⟨wr.heap.size, 0, none⟩ 1 1 [.string (nth ss k)] rfl rfl ?c1 ?c2 ?c3 ?c4 ?c5 ?_))
        case c1 => exact cell_one_new _ _ _
        case c2 => intro u hu; simp at hu; subst hu; rfl
        case c3 => unfold maxLen; omega
        case c4 => omega
        case c5 => simp; omega
        intro v' w1 hown' hgrow _
        have hb1 : Below w.heap.size w w1 := (hb.alloc hbs _).grown hgrow (by simp; omega) (fun k hk => (hown.lt k hk).1)
        clear hgrow hown
        go_wp2
        go_roundw
        case rel => exact ⟨k + 1, by omega, by go_num, by rw [unhide Hn, unhide HP, List.map_append, List.length_append]; exact hown', hb1⟩
        case measure => simp [intOf]; omega
    · have e : k = n := by omega
      subst e
      go_wp2
      go_ret
      have e1 : ss.take k = ss := List.take_of_length_le (by have := unhide Hl; omega)
      rw [e1] at hown
      obtain ⟨x, cx, hf⟩ := owns_form hown
      subst hf
      exact ⟨x, cx, rfl, hown, hb⟩

end Go.Proofs.Ytemekdkeggibaab

/-
  Union of the model, MakeSet and sameNames, at lists that may be nil. Own work.
-/
import Derived.Test.YtajfgmlbeaogkacDoorSA
import Derived.Test.YtajfgmlbeaogkacDoorDD
import Derived.Shelf.Slices.In.SortNone
namespace Go.Proofs.YtajfgmlbeaogkacDoor
open Go.RowKit
set_option linter.unusedVariables false

set_option maxHeartbeats 3200000 in
theorem sUnion_all (a : Option Addr) (n c : Nat) (ss : List ByteArray) (a' : Option Addr) (n' c' : Nat) (tt : List ByteArray) (w : World) (h : Strs w a n c ss) (h' : Strs w a' n' c' tt) (k : a = none → c = 0) (k' : a' = none → c' = 0) :
    Calls Tryd.prog 19 #[.slice a n c, .slice a' n' c'] w fun e w' => UnAns w ss tt e w' := by
  cases v1 : setB ss
  · have Hn := hide (IsUnion.of_bad (ss := ss) (tt := tt) (by rw [v1]; rfl))
    go_enter Tryd.func19, Tryd.ntmps19
    go_wp2_with fail
    refine (sIsSet_any _ _ _ _ _ h).mono ?_
    rintro e w1 ⟨rfl, rfl⟩
    rw [v1]
    go_wp2
    go_ret2
    exact UnAns.nil (unhide Hn) (Below.refl _ _)
  · cases v2 : setB tt
    · have Hn := hide (IsUnion.of_bad (ss := ss) (tt := tt) (by rw [v1, v2]; rfl))
      go_enter Tryd.func19, Tryd.ntmps19
      go_wp2_with fail
      refine (sIsSet_any _ _ _ _ _ h).mono ?_
      rintro e w1 ⟨rfl, rfl⟩
      rw [v1]
      go_wp2_with fail
      refine (sIsSet_any _ _ _ _ _ h').mono ?_
      rintro e w1 ⟨rfl, rfl⟩
      rw [v2]
      go_wp2
      go_ret2
      exact UnAns.nil (unhide Hn) (Below.refl _ _)
    · have hn := (un_parts v1).1
      have hn' := (un_parts v2).1
      have ln : n ≤ 64 := by have := h.len; omega
      have ln' : n' ≤ 64 := by have := h'.len; omega
      have Hl := hide h.len
      have Hl' := hide h'.len
      have Hv := hide (show (setB ss && setB tt) = true by rw [v1, v2]; rfl)
      have Hss := hide h.sizes
      have Hts := hide h'.sizes
      go_enter Tryd.func19, Tryd.ntmps19
      go_wp2_with fail
      refine (sIsSet_any _ _ _ _ _ h).mono ?_
      rintro e w1 ⟨rfl, hw1⟩
      rw [v1, hw1]
      clear hw1
      go_wp2_with fail
      refine (sIsSet_any _ _ _ _ _ h').mono ?_
      rintro e w1 ⟨rfl, hw1⟩
      rw [v2, hw1]
      clear hw1
      go_wp2_with (at_builtin; refine append_strs rfl _ _ rfl w.heap.size _ _ _ rfl (World.ownsRow_nil _ _ _ _) a n c ss rfl h k ?c1 (Nat.le_refl _) ?_)
      case c1 => omega
      intro v1' w1 hown1 hgrow1
      have hb1 : Below w.heap.size w w1 := (Below.refl _ _).grown hgrow1 (Nat.le_refl _) (fun k hk => by cases hk)
      obtain ⟨x1, cx1, hf1⟩ := owns_form hown1
      rw [hf1] at hown1 ⊢
      clear hf1 hgrow1
      go_wp2_with (at_builtin; refine append_strs rfl _ _ rfl w.heap.size _ _ _ rfl hown1 a' n' c' tt rfl (h'.below hb1 (Nat.le_refl _)) k' ?d1 hb1.size ?_)
      case d1 => omega
      intro v2' w2 hown2 hgrow2
      have hb2 : Below w.heap.size w w2 := hb1.grown hgrow2 hb1.size (fun k hk => (hown1.lt k hk).1)
      obtain ⟨x2, cx2, hf2⟩ := owns_form hown2
      rw [hf2] at hown2 ⊢
      clear hgrow2 hown1 hf2 hb1
      have e2 : w2.ownsRow w.heap.size 9 1 (.slice x2 (ss ++ tt).length cx2) (ss ++ tt).length ((ss ++ tt).map Value.string) := by
        have q1 := unhide Hl
        have q2 := unhide Hl'
        subst q1 q2
        rw [List.map_append, List.length_append]
        simpa using hown2
      have z2 := sizes_app (fun j hj => unhide Hss j (by have := unhide Hl; omega)) (fun j hj => unhide Hts j (by have := unhide Hl'; omega))
      have s2 := Strs.of_owns e2 z2
      have hl2 : (ss ++ tt).length ≤ 1048576 := by rw [List.length_append]; omega
      have e3 : n + n' = (ss ++ tt).length := by rw [List.length_append]; have := unhide Hl; have := unhide Hl'; omega
      first | rw [e3] | (rw [Nat.zero_add]; rw [e3]) | skip
      clear e2 hown2 z2 e3
      have Ho := hide (fun (K : List ByteArray) (q : IsSorted (ss ++ tt) K) (l : 64 < K.length) => IsUnion.of_wide (unhide Hv) q l)
      have Hg := hide (fun (K : List ByteArray) (q : IsSorted (ss ++ tt) K) (l : K.length ≤ 64) => IsUnion.of_good (unhide Hv) q l)
      generalize ss ++ tt = G at s2 hl2 Ho Hg ⊢
      go_wp2_with fail
      refine (l1sorted_any _ _ _ _ _ s2 hl2).mono ?_
      rintro e w3 ⟨x, cx, K, rfl, ho, hb3, hK⟩
      have HK := hide hK
      clear hK
      have B3 := hb2.trans (hb3.mono hb2.size)
      have ho' := owns_mono ho hb2.size
      clear ho hb3 hb2 s2
      by_cases hl : 64 < K.length
      · have il : (64 : Int) < (K.length : Int) := by omega
        go_wp2
        go_ret2
        exact UnAns.nil (unhide Ho K (unhide HK) hl) B3
      · have il : (K.length : Int) ≤ 64 := by omega
        go_wp2
        go_ret2
        exact ⟨x, cx, K, 0, rfl, ho', B3, unhide Hg K (unhide HK) (by omega)⟩

theorem sorted_nil : IsSorted [] [] := ⟨by rfl, fun x => Iff.rfl⟩

set_option maxHeartbeats 1600000 in
theorem iMakeSet_nil (w : World) :
    Calls Tryd.prog 24 #[.slice none 0 0] w fun e w' => MkAns w [] e w' := by
  have s0 : Strs w none 0 0 [] := ⟨rfl, Nat.le_refl _, Nat.zero_le _, fun j hj => by omega, fun j hj => by omega⟩
  have Hm := hide (IsMake.of_good (ss := []) (M := []) (by simp) rfl sorted_nil (by simp))
  go_enter Tryd.func24, Tryd.ntmps24
  go_wp2_with fail
  refine (allNames_any _ _ _ _ _ s0).mono ?_
  rintro e w1 ⟨rfl, hw1⟩
  rw [hw1, show allB [] = true from rfl]
  clear hw1 w1
  go_wp2_with fail
  refine (Any.slices_Clone_string_nil Tryd.laysNm216 0 0 w).mono ?_
  rintro e w1 ⟨rfl, hw1⟩
  rw [hw1]
  clear hw1 w1
  go_wp2_with fail
  refine (Any.slices_Sort_string_none Tryd.lays190 none 0 w).mono ?_
  rintro e w1 ⟨rfl, hw1⟩
  rw [hw1]
  clear hw1 w1
  go_wp2_with fail
  refine (Any.slices_Compact_string_empty Tryd.lays194 none 0 w).mono ?_
  rintro e w1 ⟨rfl, hw1⟩
  rw [hw1]
  clear hw1 w1
  go_wp2_with fail
  go_ret2
  exact MkAns.nil (unhide Hm) (Below.refl _ _)

theorem iMakeSet_all (a : Option Addr) (n c : Nat) (ss : List ByteArray) (w : World) (h : Strs w a n c ss) (k : a = none → c = 0) (kb : ∀ x, a = some x → x.spot = none) :
    Calls Tryd.prog 24 #[.slice a n c] w fun e w' => MkAns w ss e w' := by
  cases a with
  | none =>
    obtain rfl := k rfl
    obtain rfl : n = 0 := by have := h.cap; omega
    obtain rfl : ss = [] := List.eq_nil_of_length_eq_zero (by have := h.len; omega)
    exact iMakeSet_nil w
  | some x =>
    obtain ⟨b, off, sp⟩ := x
    obtain rfl : sp = none := kb _ rfl
    exact iMakeSet_any b off n c ss w h

theorem owns_spot {w : World} {base n c : Nat} {x : Option Addr} {xs : List Value} (h : w.ownsRow base 9 1 (.slice x n c) n xs) : ∀ y, x = some y → y.spot = none := fun y e => by
  rcases h.2 with ⟨hv, _⟩ | ⟨g, cap, cur, hv, _⟩
  · subst e; simp only [Value.slice.injEq] at hv; cases hv.1
  · subst e; simp only [Value.slice.injEq, Option.some.injEq] at hv; rw [hv.1]

set_option maxHeartbeats 800000 in
theorem sameNames_same (a a' : Option Addr) (n c c' : Nat) (ss : List ByteArray) (w : World) (h : Strs w a n c ss) (h' : Strs w a' n c' ss) :
    Calls Tryd.prog 20 #[.slice a n c, .slice a' n c'] w fun e w' => e = .returned (.bool true) ∧ Below w.heap.size w w' := by
  have hn : n ≤ 9223372036854775807 := by have := h.cap; have := h.small; unfold maxLen at this; omega
  go_enter Tryd.func20, Tryd.ntmps20
  go_wp2
  go_loopw [5, 6, 14] (fun _ _ i wr => ∃ k : Nat, k ≤ n ∧ i = .int .i64 k ∧ Below w.heap.size w wr) (fun _ _ i _ => n - (intOf i).toNat)
  case atStart => exact ⟨0, Nat.zero_le _, rfl, Below.refl _ _⟩
  case round =>
    obtain ⟨k, hk, rfl, hb⟩ := hrel
    by_cases hlt : k < n
    · obtain ⟨b, off, ha, _, hc⟩ := (h.below hb (Nat.le_refl _)).cells k hlt
      obtain ⟨b', off', ha', _, hc'⟩ := (h'.below hb (Nat.le_refl _)).cells k hlt
      subst ha
      subst ha'
      have i3 : (k : Int) < (n : Int) := by omega
      go_wp2
      first
        | (go_roundw
           case rel => exact ⟨k + 1, by omega, by go_num, hb⟩
           case measure => simp [intOf] <;> omega)
        | (go_quiet (fail)
           go_wp2
           go_roundw
           case rel => exact ⟨k + 1, by omega, by go_num, below_drewN hb _⟩
           case measure => simp [intOf] <;> omega)
    · go_wp2
      go_ret
      exact ⟨rfl, hb⟩

end Go.Proofs.YtajfgmlbeaogkacDoor

/-
  Union, twice. Own work.
-/
import Derived.Test.YtajfgmlbeaogkacDoorSlices
import Derived.Test.YtajfgmlbeaogkacDoorOwn
import Derived.Test.YtajfgmlbeaogkacDoorSorted
import Derived.Test.YtajfgmlbeaogkacDoorMA
import Derived.Test.YtajfgmlbeaogkacDoorEvalC
namespace Go.Proofs.YtajfgmlbeaogkacDoor
open Go.RowKit

/-- what a union is -/
structure IsUnion (ss tt K : List ByteArray) (code : Int) : Prop where
  bad : (setB ss && setB tt) = false → K = [] ∧ code = 4
  good : (setB ss && setB tt) = true → ∃ M, IsSorted (ss ++ tt) M ∧ (64 < M.length → K = [] ∧ code = 3) ∧ (M.length ≤ 64 → K = M ∧ code = 0)

theorem IsUnion.unique {ss tt K K' : List ByteArray} {c c' : Int} (h : IsUnion ss tt K c) (h' : IsUnion ss tt K' c') : K = K' ∧ c = c' := by
  cases hv : (setB ss && setB tt) with
  | false =>
    obtain ⟨rfl, rfl⟩ := h.bad hv
    obtain ⟨rfl, rfl⟩ := h'.bad hv
    exact ⟨rfl, rfl⟩
  | true =>
    obtain ⟨M, hM, h1, h2⟩ := h.good hv
    obtain ⟨M', hM', h1', h2'⟩ := h'.good hv
    have e := hM.unique hM'
    subst e
    by_cases hl : 64 < M.length
    · obtain ⟨rfl, rfl⟩ := h1 hl
      obtain ⟨rfl, rfl⟩ := h1' hl
      exact ⟨rfl, rfl⟩
    · obtain ⟨rfl, rfl⟩ := h2 (by omega)
      obtain ⟨rfl, rfl⟩ := h2' (by omega)
      exact ⟨rfl, rfl⟩

theorem IsUnion.code {ss tt K : List ByteArray} {c : Int} (h : IsUnion ss tt K c) : 0 ≤ c ∧ c ≤ 4 := by
  cases hv : (setB ss && setB tt) with
  | false => obtain ⟨_, rfl⟩ := h.bad hv; omega
  | true =>
    obtain ⟨M, hM, h1, h2⟩ := h.good hv
    by_cases hl : 64 < M.length
    · obtain ⟨_, rfl⟩ := h1 hl; omega
    · obtain ⟨_, rfl⟩ := h2 (by omega); omega

theorem IsUnion.len {ss tt K : List ByteArray} {c : Int} (h : IsUnion ss tt K c) : K.length ≤ 64 := by
  cases hv : (setB ss && setB tt) with
  | false => obtain ⟨rfl, _⟩ := h.bad hv; simp
  | true =>
    obtain ⟨M, hM, h1, h2⟩ := h.good hv
    by_cases hl : 64 < M.length
    · obtain ⟨rfl, _⟩ := h1 hl; simp
    · obtain ⟨rfl, _⟩ := h2 (by omega); omega

theorem nth_append {ss tt : List ByteArray} {j : Nat} (h : j < (ss ++ tt).length) : nth (ss ++ tt) j = if j < ss.length then nth ss j else nth tt (j - ss.length) := by
  rw [nth_eq _ j h, List.getElem_append]
  split
  · rw [nth_eq _ _ (by assumption)]
  · rw [nth_eq _ _ (by simp at h; omega)]

theorem sizes_app {ss tt : List ByteArray} (h : ∀ j, j < ss.length → (nth ss j).size ≤ maxLen) (h' : ∀ j, j < tt.length → (nth tt j).size ≤ maxLen) : ∀ j, j < (ss ++ tt).length → (nth (ss ++ tt) j).size ≤ maxLen := by
  intro j hj
  rw [nth_append hj]
  split
  · exact h j (by assumption)
  · exact h' _ (by simp at hj; omega)

theorem IsUnion.sizes {ss tt K : List ByteArray} {c : Int} (h : IsUnion ss tt K c) (hs : ∀ j, j < ss.length → (nth ss j).size ≤ maxLen) (ht : ∀ j, j < tt.length → (nth tt j).size ≤ maxLen) : ∀ j, j < K.length → (nth K j).size ≤ maxLen := by
  cases hv : (setB ss && setB tt) with
  | false => obtain ⟨rfl, _⟩ := h.bad hv; intro j hj; simp at hj
  | true =>
    obtain ⟨M, hM, h1, h2⟩ := h.good hv
    by_cases hl : 64 < M.length
    · obtain ⟨rfl, _⟩ := h1 hl; intro j hj; simp at hj
    · obtain ⟨rfl, _⟩ := h2 (by omega)
      exact sizes_sorted hM (sizes_app hs ht)

theorem KA.sorted {ss tt K : List ByteArray} (h : KA ss tt ss.length tt.length K) : IsSorted (ss ++ tt) K :=
  ⟨h.rise, fun x => by rw [h.mem, List.take_length, List.take_length, List.mem_append]⟩

theorem un_parts {ss : List ByteArray} (h : setB ss = true) : ss.length ≤ 64 ∧ risB ss = true := by
  simp [setB] at h; exact ⟨h.1, h.2.2⟩

/-- what the two answer -/
def UnAns (w : World) (ss tt : List ByteArray) (e : Ending) (w' : World) : Prop :=
  ∃ x cx K c, e = .returned (.tuple #[.slice x K.length cx, .int .i64 c]) ∧ w'.ownsRow w.heap.size 9 1 (.slice x K.length cx) K.length (K.map Value.string) ∧ Below w.heap.size w w' ∧ IsUnion ss tt K c

theorem UnAns.nil {w w' : World} {ss tt : List ByteArray} {c : Int} (h : IsUnion ss tt [] c) (hb : Below w.heap.size w w') : UnAns w ss tt (.returned (.tuple #[.slice none 0 0, .int .i64 c])) w' :=
  ⟨none, 0, [], c, rfl, World.ownsRow_nil _ _ _ _, hb, h⟩

theorem IsUnion.of_bad {ss tt : List ByteArray} (h : (setB ss && setB tt) = false) : IsUnion ss tt [] 4 := ⟨fun _ => ⟨rfl, rfl⟩, fun k => by rw [h] at k; cases k⟩
theorem IsUnion.of_wide {ss tt M : List ByteArray} (h : (setB ss && setB tt) = true) (hM : IsSorted (ss ++ tt) M) (hl : 64 < M.length) : IsUnion ss tt [] 3 :=
  ⟨fun k => (by rw [h] at k; cases k), fun _ => ⟨M, hM, fun _ => ⟨rfl, rfl⟩, fun k => by omega⟩⟩
theorem IsUnion.of_good {ss tt M : List ByteArray} (h : (setB ss && setB tt) = true) (hM : IsSorted (ss ++ tt) M) (hl : M.length ≤ 64) : IsUnion ss tt M 0 :=
  ⟨fun k => (by rw [h] at k; cases k), fun _ => ⟨M, hM, fun k => (by omega), fun _ => ⟨rfl, rfl⟩⟩⟩

variable {aS aO aZ aW : Addr}

/-- what unite answers -/
def UniteAns (aS aO aZ aW : Addr) (w : World) (ss tt : List ByteArray) (e : Ending) (w' : World) : Prop :=
  ∃ x cx K c, e = .returned (.tuple #[.slice x K.length cx, errV aS aO aZ aW c]) ∧ w'.ownsRow w.heap.size 9 1 (.slice x K.length cx) K.length (K.map Value.string) ∧ Below w.heap.size w w' ∧ IsUnion ss tt K c

theorem UniteAns.nil {w w' : World} {ss tt : List ByteArray} {c : Int} (h : IsUnion ss tt [] c) (hb : Below w.heap.size w w') : UniteAns aS aO aZ aW w ss tt (.returned (.tuple #[.slice none 0 0, errV aS aO aZ aW c])) w' :=
  ⟨none, 0, [], c, rfl, World.ownsRow_nil _ _ _ _, hb, h⟩

set_option maxHeartbeats 1600000 in
theorem unite_any (a : Option Addr) (n c : Nat) (ss : List ByteArray) (a' : Option Addr) (n' c' : Nat) (tt : List ByteArray) (w : World) (hs : Sent w aS aO aZ aW) (h : Strs w a n c ss) (h' : Strs w a' n' c' tt) :
    Calls Tryd.prog 45 #[.slice a n c, .slice a' n' c'] w fun e w' => UniteAns aS aO aZ aW w ss tt e w' := by
  cases v1 : setB ss
  · have Hn := hide (IsUnion.of_bad (ss := ss) (tt := tt) (by rw [v1]; rfl))
    go_enter Tryd.func45, Tryd.ntmps45
    go_wp2_with fail
    refine (iIsSet_any _ _ _ _ _ h).mono ?_
    rintro e w1 ⟨rfl, hb1⟩
    rw [v1]
    have hg := (hs.below hb1 (Nat.le_refl _)).g0
    go_wp2
    go_quiet (fail)
    go_wp2
    go_ret2
    exact UniteAns.nil (unhide Hn) (below_drewN hb1 _)
  · cases v2 : setB tt
    · have Hn := hide (IsUnion.of_bad (ss := ss) (tt := tt) (by rw [v1, v2]; rfl))
      go_enter Tryd.func45, Tryd.ntmps45
      go_wp2_with fail
      refine (iIsSet_any _ _ _ _ _ h).mono ?_
      rintro e w1 ⟨rfl, hb1⟩
      rw [v1]
      go_wp2_with fail
      refine (iIsSet_any _ _ _ _ _ (h'.below hb1 (Nat.le_refl _))).mono ?_
      rintro e w2 ⟨rfl, hb2⟩
      rw [v2]
      have B2 := hb1.trans (hb2.mono hb1.size)
      have hg := (hs.below B2 (Nat.le_refl _)).g0
      go_wp2
      go_quiet (fail)
      go_wp2
      go_ret2
      exact UniteAns.nil (unhide Hn) (below_drewN B2 _)
    · obtain ⟨hn, hr⟩ := un_parts v1
      obtain ⟨hn', hr'⟩ := un_parts v2
      have Hr := hide hr
      have Hr' := hide hr'
      clear hr hr'
      have Hv := hide (show (setB ss && setB tt) = true by rw [v1, v2]; rfl)
      go_enter Tryd.func45, Tryd.ntmps45
      go_wp2_with fail
      refine (iIsSet_any _ _ _ _ _ h).mono ?_
      rintro e w1 ⟨rfl, hb1⟩
      rw [v1]
      go_wp2_with fail
      refine (iIsSet_any _ _ _ _ _ (h'.below hb1 (Nat.le_refl _))).mono ?_
      rintro e w2 ⟨rfl, hb2⟩
      rw [v2]
      have B2 := hb1.trans (hb2.mono hb1.size)
      go_wp2_with fail
      refine (merge_KA _ _ _ _ _ _ _ _ _ (h.below B2 (Nat.le_refl _)) (h'.below B2 (Nat.le_refl _)) (unhide Hr) (unhide Hr') (by have := h.len; omega) (by have := h'.len; omega)).mono ?_
      rintro e w3 ⟨x, cx, K, rfl, ho, hb3, hK⟩
      have HK := hide hK.sorted
      clear hK
      have B3 := B2.trans (hb3.mono B2.size)
      by_cases hl : 64 < K.length
      · have il : (64 : Int) < (K.length : Int) := by omega
        have hg := (hs.below B3 (Nat.le_refl _)).g3
        go_wp2
        go_quiet (fail)
        go_wp2
        go_ret2
        exact UniteAns.nil (IsUnion.of_wide (unhide Hv) (unhide HK) hl) (below_drewN B3 _)
      · have il : (K.length : Int) ≤ 64 := by omega
        go_wp2
        go_ret2
        exact ⟨x, cx, K, 0, rfl, owns_mono ho B2.size, B3, IsUnion.of_good (unhide Hv) (unhide HK) (by omega)⟩

set_option maxHeartbeats 800000 in
theorem iUnion_any (a : Option Addr) (n c : Nat) (ss : List ByteArray) (a' : Option Addr) (n' c' : Nat) (tt : List ByteArray) (w : World) (hs : Sent w aS aO aZ aW) (h : Strs w a n c ss) (h' : Strs w a' n' c' tt) :
    Calls Tryd.prog 18 #[.slice a n c, .slice a' n' c'] w fun e w' => UnAns w ss tt e w' := by
  go_enter Tryd.func18, Tryd.ntmps18
  go_wp2_with fail
  refine (unite_any _ _ _ _ _ _ _ _ _ hs h h').mono ?_
  rintro e w1 ⟨x, cx, K, code, rfl, ho, hb1, hu⟩
  have hc := hu.code
  go_wp2_with fail
  refine (evalCode_any code w1 (hs.below hb1 (Nat.le_refl _)) hc).mono ?_
  rintro e w2 ⟨rfl, hw2⟩
  rw [hw2]
  clear hw2
  go_wp2
  go_ret2
  exact ⟨x, cx, K, code, rfl, ho, hb1, hu⟩

theorem Strs.news {w : World} {b off n c : Nat} {ss : List ByteArray} (hq : Strs w (some ⟨b, off, none⟩) n c ss) : ∀ j u, (ss.map Value.string)[j]? = some u → w.cell? ((⟨b, off, none⟩ : Addr).add j) = some u := fun j u hu => by
  rw [List.getElem?_map, Option.map_eq_some_iff] at hu
  obtain ⟨s, hs, rfl⟩ := hu
  have hj : j < ss.length := (List.getElem?_eq_some_iff.1 hs).1
  obtain ⟨b1, off1, ha, _, hc⟩ := hq.cells j (by have := hq.len; omega)
  simp only [Option.some.injEq, Addr.mk.injEq, and_true] at ha
  obtain ⟨rfl, rfl⟩ := ha
  have hadd : (⟨b, off, none⟩ : Addr).add j = ⟨b, off + j, none⟩ := by by_cases e : j = 0 <;> simp [Addr.add, e]
  rw [hadd, hc, nth_eq _ j hj]
  rw [List.getElem?_eq_getElem hj] at hs
  cases hs; rfl

set_option maxHeartbeats 1600000 in
theorem sUnion_any (b off : Nat) (n c : Nat) (ss : List ByteArray) (b' off' : Nat) (n' c' : Nat) (tt : List ByteArray) (w : World) (h : Strs w (some ⟨b, off, none⟩) n c ss) (h' : Strs w (some ⟨b', off', none⟩) n' c' tt) :
    Calls Tryd.prog 19 #[.slice (some ⟨b, off, none⟩) n c, .slice (some ⟨b', off', none⟩) n' c'] w fun e w' => UnAns w ss tt e w' := by
  cases v1 : setB ss
  · have Hn := hide (IsUnion.of_bad (ss := ss) (tt := tt) (by rw [v1]; rfl))
    go_enter Tryd.func19, Tryd.ntmps19
    go_wp2_with fail
    refine (sIsSet_any _ _ _ _ _ h).mono ?_
    rintro e w1 ⟨rfl, rfl⟩
    rw [v1]
    go_wp2
    go_ret2
    exact UnAns.nil (unhide Hn) (Below.refl _ _)
  · cases v2 : setB tt
    · have Hn := hide (IsUnion.of_bad (ss := ss) (tt := tt) (by rw [v1, v2]; rfl))
      go_enter Tryd.func19, Tryd.ntmps19
      go_wp2_with fail
      refine (sIsSet_any _ _ _ _ _ h).mono ?_
      rintro e w1 ⟨rfl, rfl⟩
      rw [v1]
      go_wp2_with fail
      refine (sIsSet_any _ _ _ _ _ h').mono ?_
      rintro e w1 ⟨rfl, rfl⟩
      rw [v2]
      go_wp2
      go_ret2
      exact UnAns.nil (unhide Hn) (Below.refl _ _)
    · have hn := (un_parts v1).1
      have hn' := (un_parts v2).1
      have Hl := hide h.len
      have Hl' := hide h'.len
      have Hv := hide (show (setB ss && setB tt) = true by rw [v1, v2]; rfl)
      obtain ⟨i, hi, hz0, hz1, hz2⟩ := info_parts infoS
      go_enter Tryd.func19, Tryd.ntmps19
      go_wp2_with fail
      refine (sIsSet_any _ _ _ _ _ h).mono ?_
      rintro e w1 ⟨rfl, hw1⟩
      rw [v1, hw1]
      clear hw1
      go_wp2_with fail
      refine (sIsSet_any _ _ _ _ _ h').mono ?_
      rintro e w1 ⟨rfl, hw1⟩
      rw [v2, hw1]
      clear hw1
      go_wp2_with (at_builtin; refine wpList_append_own _ rfl _ _ 31 rfl w.heap.size 9 i (.string ByteArray.empty) 1 16 Tryd.underlying31 hi hz0 hz1 hz2 rfl (by decide) _ _ _ rfl (World.ownsRow_nil _ _ _ _) ⟨b, off, none⟩ n c (ss.map Value.string) rfl ?c0 ?c1 ?c2 ?c3 ?c4 ?c5 ?_)
      case c0 => have := unhide Hl; simp; omega
      case c1 => exact Strs.news h
      case c2 => intro u hu; obtain ⟨s, _, rfl⟩ := List.mem_map.1 hu; rfl
      case c3 => have := unhide Hl; unfold maxLen; omega
      case c4 => have := unhide Hl; omega
      case c5 => exact Nat.le_refl _
      intro v1' w1 hown1 hgrow1 hnil1
      clear hnil1
      have hb1 : Below w.heap.size w w1 := (Below.refl _ _).grown hgrow1 (Nat.le_refl _) (fun k hk => by cases hk)
      obtain ⟨x1, cx1, hf1⟩ := owns_form hown1
      rw [hf1] at hown1 ⊢
      clear hf1 hgrow1
      go_wp2_with (at_builtin; refine wpList_append_own _ rfl _ _ 31 rfl w.heap.size 9 i (.string ByteArray.empty) 1 16 Tryd.underlying31 hi hz0 hz1 hz2 rfl (by decide) _ _ _ rfl hown1 ⟨b', off', none⟩ n' c' (tt.map Value.string) rfl ?d0 ?d1 ?d2 ?d3 ?d4 ?d5 ?_)
      case d0 => have := unhide Hl'; simp; omega
      case d1 => exact Strs.news (h'.below hb1 (Nat.le_refl _))
      case d2 => intro u hu; obtain ⟨s, _, rfl⟩ := List.mem_map.1 hu; rfl
      case d3 => have := unhide Hl; have := unhide Hl'; unfold maxLen; omega
      case d4 => have := unhide Hl; have := unhide Hl'; omega
      case d5 => exact hb1.size
      intro v2' w2 hown2 hgrow2 hnil2
      clear hnil2
      have hb2 : Below w.heap.size w w2 := hb1.grown hgrow2 hb1.size (fun k hk => (hown1.lt k hk).1)
      obtain ⟨x2, cx2, hf2⟩ := owns_form hown2
      rw [hf2] at hown2 ⊢
      clear hf2 hgrow2 hown1 hb1
      rw [← List.map_append] at hown2
      have hst : Strs w2 x2 (n + n') cx2 (ss ++ tt) := Strs.of_owns hown2 (by
        intro j hj
        exact sizes_app (by rw [← unhide Hl]; exact h.sizes) (by rw [← unhide Hl']; exact h'.sizes) j (by have := unhide Hl; have := unhide Hl'; simp; omega))
      clear hown2
      go_wp2_with fail
      refine (l1sorted_any _ _ _ _ _ hst (by have := unhide Hl; have := unhide Hl'; omega)).mono ?_
      rintro e w3 ⟨x, cx, K, rfl, ho, hb3, hK⟩
      have HK := hide hK
      clear hK
      have B3 := hb2.trans (hb3.mono hb2.size)
      have ho' := owns_mono ho hb2.size
      clear ho hb3 hb2 hst v1 v2 hn hn' hi hz0 hz1 hz2
      by_cases hl : 64 < K.length
      · have il : (64 : Int) < (K.length : Int) := by omega
        go_wp2
        go_ret2
        exact UnAns.nil (IsUnion.of_wide (unhide Hv) (unhide HK) hl) B3
      · have il : (K.length : Int) ≤ 64 := by omega
        go_wp2
        go_ret2
        have hu := IsUnion.of_good (unhide Hv) (unhide HK) (by omega)
        exact ⟨x, cx, K, 0, rfl, ho', B3, hu⟩

end Go.Proofs.YtajfgmlbeaogkacDoor

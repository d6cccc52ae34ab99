/-
  MakeSet, twice. Own work.
-/
import Derived.Test.YtnahfogbemfngaaGreatDoorSlices0
import Derived.Test.YtnahfogbemfngaaGreatDoorMKL
namespace Go.Proofs.YtnahfogbemfngaaGreatDoor
open Go.RowKit

/-- what MakeSet is -/
structure IsMake (ss K : List ByteArray) (code : Int) : Prop where
  long : 400 < ss.length → K = [] ∧ code = 1
  name : ss.length ≤ 400 → allB ss = false → K = [] ∧ code = 2
  good : ss.length ≤ 400 → allB ss = true → ∃ M, IsSorted ss M ∧ (64 < M.length → K = [] ∧ code = 3) ∧ (M.length ≤ 64 → K = M ∧ code = 0)

theorem IsMake.unique {ss K K' : List ByteArray} {c c' : Int} (h : IsMake ss K c) (h' : IsMake ss K' c') : K = K' ∧ c = c' := by
  by_cases hl : 400 < ss.length
  · obtain ⟨rfl, rfl⟩ := h.long hl
    obtain ⟨rfl, rfl⟩ := h'.long hl
    exact ⟨rfl, rfl⟩
  · cases hv : allB ss with
    | false =>
      obtain ⟨rfl, rfl⟩ := h.name (by omega) hv
      obtain ⟨rfl, rfl⟩ := h'.name (by omega) hv
      exact ⟨rfl, rfl⟩
    | true =>
      obtain ⟨M, hM, h1, h2⟩ := h.good (by omega) hv
      obtain ⟨M', hM', h1', h2'⟩ := h'.good (by omega) hv
      have e := hM.unique hM'
      subst e
      by_cases hl : 64 < M.length
      · obtain ⟨rfl, rfl⟩ := h1 hl
        obtain ⟨rfl, rfl⟩ := h1' hl
        exact ⟨rfl, rfl⟩
      · obtain ⟨rfl, rfl⟩ := h2 (by omega)
        obtain ⟨rfl, rfl⟩ := h2' (by omega)
        exact ⟨rfl, rfl⟩

/-- nothing, or the names, rising, at most 64 of them -/
theorem IsMake.cases {ss K : List ByteArray} {c : Int} (h : IsMake ss K c) : (K = [] ∧ 1 ≤ c ∧ c ≤ 3) ∨ (c = 0 ∧ K.length ≤ 64 ∧ allB ss = true ∧ IsSorted ss K) := by
  by_cases hl : 400 < ss.length
  · obtain ⟨rfl, rfl⟩ := h.long hl
    exact .inl ⟨rfl, by omega, by omega⟩
  · cases hv : allB ss with
    | false =>
      obtain ⟨rfl, rfl⟩ := h.name (by omega) hv
      exact .inl ⟨rfl, by omega, by omega⟩
    | true =>
      obtain ⟨M, hM, h1, h2⟩ := h.good (by omega) hv
      by_cases hl : 64 < M.length
      · obtain ⟨rfl, rfl⟩ := h1 hl
        exact .inl ⟨rfl, by omega, by omega⟩
      · obtain ⟨rfl, rfl⟩ := h2 (by omega)
        exact .inr ⟨rfl, by omega, rfl, hM⟩

theorem IsMake.len {ss K : List ByteArray} {c : Int} (h : IsMake ss K c) : K.length ≤ 64 := by
  rcases h.cases with ⟨rfl, _⟩ | ⟨_, h, _⟩
  · simp
  · exact h

theorem IsMake.sizes {ss K : List ByteArray} {c : Int} (h : IsMake ss K c) (hs : ∀ j, j < ss.length → (nth ss j).size ≤ maxLen) : ∀ j, j < K.length → (nth K j).size ≤ maxLen := by
  rcases h.cases with ⟨rfl, _⟩ | ⟨_, _, _, h⟩
  · intro j hj; simp at hj
  · exact sizes_sorted h hs

theorem IsMake.of_long {ss : List ByteArray} (h : 400 < ss.length) : IsMake ss [] 1 := ⟨fun _ => ⟨rfl, rfl⟩, fun k => (by omega), fun k => by omega⟩
theorem IsMake.of_name {ss : List ByteArray} (h : ss.length ≤ 400) (hv : allB ss = false) : IsMake ss [] 2 := ⟨fun k => (by omega), fun _ _ => ⟨rfl, rfl⟩, fun _ k => by rw [hv] at k; cases k⟩
theorem IsMake.of_wide {ss M : List ByteArray} (h : ss.length ≤ 400) (hv : allB ss = true) (hM : IsSorted ss M) (hl : 64 < M.length) : IsMake ss [] 3 :=
  ⟨fun k => (by omega), fun _ k => (by rw [hv] at k; cases k), fun _ _ => ⟨M, hM, fun _ => ⟨rfl, rfl⟩, fun k => by omega⟩⟩
theorem IsMake.of_good {ss M : List ByteArray} (h : ss.length ≤ 400) (hv : allB ss = true) (hM : IsSorted ss M) (hl : M.length ≤ 64) : IsMake ss M 0 :=
  ⟨fun k => (by omega), fun _ k => (by rw [hv] at k; cases k), fun _ _ => ⟨M, hM, fun k => (by omega), fun _ => ⟨rfl, rfl⟩⟩⟩

/-- what the two answer -/
def MkAns (w : World) (ss : List ByteArray) (e : Ending) (w' : World) : Prop :=
  ∃ x cx K c, e = .returned (.tuple #[.slice x K.length cx, .int .i64 c]) ∧ w'.ownsRow w.heap.size 9 1 (.slice x K.length cx) K.length (K.map Value.string) ∧ Below w.heap.size w w' ∧ IsMake ss K c

theorem MkAns.nil {w w' : World} {ss : List ByteArray} {c : Int} (h : IsMake ss [] c) (hb : Below w.heap.size w w') : MkAns w ss (.returned (.tuple #[.slice none 0 0, .int .i64 c])) w' :=
  ⟨none, 0, [], c, rfl, World.ownsRow_nil _ _ _ _, hb, h⟩

set_option maxHeartbeats 1600000 in
theorem iMakeSet_any (b off n c : Nat) (ss : List ByteArray) (w : World) (h : Strs w (some ⟨b, off, none⟩) n c ss) :
    Calls Tryz.prog 42 #[.slice (some ⟨b, off, none⟩) n c] w fun e w' => MkAns w ss e w' := by
  have hl := h.len
  by_cases h400 : 400 < n
  · have i4 : (400 : Int) < (n : Int) := by omega
    have Hm := hide (IsMake.of_long (ss := ss) (by omega))
    clear hl
    go_enter Tryz.func42, Tryz.ntmps42
    go_wp2
    go_ret2
    exact MkAns.nil (unhide Hm) (Below.refl _ _)
  · have i4 : (n : Int) ≤ 400 := by omega
    cases hv : allB ss
    · have Hm := hide (IsMake.of_name (ss := ss) (by omega) hv)
      have Hv := hide hv
      clear hl hv
      go_enter Tryz.func42, Tryz.ntmps42
      go_wp2_with fail
      refine (allNames_any _ _ _ _ _ h).mono ?_
      rintro e w1 ⟨rfl, hw1⟩
      rw [unhide Hv, hw1]
      clear hw1
      go_wp2
      go_ret2
      exact MkAns.nil (unhide Hm) (Below.refl _ _)
    · have Hw := hide (fun (M : List ByteArray) (hM : IsSorted ss M) (hl' : 64 < M.length) => IsMake.of_wide (by omega) hv hM hl')
      have Hg := hide (fun (M : List ByteArray) (hM : IsSorted ss M) (hl' : M.length ≤ 64) => IsMake.of_good (by omega) hv hM hl')
      have Hv := hide hv
      have hn : n ≤ 1048576 := by omega
      clear hl hv
      go_enter Tryz.func42, Tryz.ntmps42
      go_wp2_with fail
      refine (allNames_any _ _ _ _ _ h).mono ?_
      rintro e w1 ⟨rfl, hw1⟩
      rw [unhide Hv, hw1]
      clear hw1
      go_wp2_with fail
      refine (clone_any _ _ _ _ _ _ h hn).mono ?_
      rintro e w1 ⟨g, cx, rfl, ho, hb⟩
      rw [← enc_toL] at ho
      go_wp2_with fail
      refine (sort_any _ _ _ _ _ _ ho hn).mono ?_
      rintro e w2 ⟨rfl, ho2, hg2⟩
      have hb2 : Below w.heap.size w w2 := hb.grown hg2 hb.size (fun k hk => (ho.lt k hk).1)
      clear ho hb hg2
      go_wp2_with fail
      refine (compact_any _ _ _ _ _ _ ho2 hn).mono ?_
      rintro e w3 ⟨rfl, ho3, hg3⟩
      have hb3 : Below w.heap.size w w3 := hb2.grown hg3 hb2.size (fun k hk => (ho2.lt k hk).1)
      clear ho2 hb2 hg3
      have hs := sortL_sorted ss
      rw [← enc_ofL] at ho3
      change IsSorted ss ((sortL ss).map ofL) at hs
      have e3 : (Lib.compact ((ss.map toL).mergeSort fun x y => decide (x ≤ y))) = sortL ss := rfl
      rw [e3] at ho3 ⊢
      have e4 : (sortL ss).length = ((sortL ss).map ofL).length := (List.length_map _).symm
      rw [e4] at ho3 ⊢
      clear e3 e4
      generalize (sortL ss).map ofL = K at *
      have HK := hide hs
      clear hs
      by_cases hl : 64 < K.length
      · have il : (64 : Int) < (K.length : Int) := by omega
        go_wp2
        go_ret2
        exact MkAns.nil (unhide Hw K (unhide HK) hl) hb3
      · have il : (K.length : Int) ≤ 64 := by omega
        go_wp2
        go_ret2
        exact ⟨_, _, K, 0, rfl, ho3, hb3, unhide Hg K (unhide HK) (by omega)⟩

set_option maxHeartbeats 1600000 in
theorem sMakeSet_any (a : Option Addr) (n c : Nat) (ss : List ByteArray) (w : World) (h : Strs w a n c ss) :
    Calls Tryz.prog 46 #[.slice a n c] w fun e w' => MkAns w ss e w' := by
  have hl := h.len
  by_cases h400 : 400 < n
  · have i4 : (400 : Int) < (n : Int) := by omega
    have Hm := hide (IsMake.of_long (ss := ss) (by omega))
    clear hl
    go_enter Tryz.func46, Tryz.ntmps46
    go_wp2
    go_ret2
    exact MkAns.nil (unhide Hm) (Below.refl _ _)
  · have i4 : (n : Int) ≤ 400 := by omega
    have Hn := hide (fun (hv : allB ss = false) => IsMake.of_name (ss := ss) (by omega) hv)
    have Hw := hide (fun (hv : allB ss = true) (M : List ByteArray) (hM : IsSorted ss M) (hl' : 64 < M.length) => IsMake.of_wide (by omega) hv hM hl')
    have Hg := hide (fun (hv : allB ss = true) (M : List ByteArray) (hM : IsSorted ss M) (hl' : M.length ≤ 64) => IsMake.of_good (by omega) hv hM hl')
    have Hl := hide hl
    clear hl
    have hn : n ≤ 1048576 := by omega
    go_enter Tryz.func46, Tryz.ntmps46
    go_wp2
    go_loop [5, 12] (fun _ i => ∃ k : Nat, k ≤ n ∧ i = .int .i64 k ∧ ∀ j, j < k → vnB (nth ss j) = true) (fun _ i => n - (intOf i).toNat)
    case atStart => exact ⟨0, Nat.zero_le _, rfl, fun j hj => by omega⟩
    case round =>
      obtain ⟨k, hk, rfl, ha⟩ := hrel
      have Ha := hide ha
      clear ha
      by_cases hlt : k < n
      · obtain ⟨b, off, ha', _, hc⟩ := h.cells k hlt
        have hsz := h.sizes k hlt
        subst ha'
        cases hv : vnB (nth ss k)
        · have Hv := hide hv
          have Hf := hide (allB_not ss k (by have := h.len; omega) hv)
          clear hv
          go_wp2_with (go_at_call 28; refine (sValidName_any _ _ hsz).mono ?_; rintro e w' ⟨rfl, rfl⟩; rw [unhide Hv])
          go_ret2
          exact MkAns.nil (unhide Hn (unhide Hf)) (Below.refl _ _)
        · have Hv := hide hv
          clear hv
          go_wp2_with (go_at_call 28; refine (sValidName_any _ _ hsz).mono ?_; rintro e w' ⟨rfl, rfl⟩; rw [unhide Hv])
          go_round
          case rel =>
            refine ⟨k + 1, by omega, by go_num, fun j hj => ?_⟩
            by_cases e : j = k
            · subst e; exact unhide Hv
            · exact unhide Ha j (by omega)
          case measure => simp [intOf]; omega
      · have HA := hide (allB_of ss fun j hj => unhide Ha j (by have := unhide Hl; omega))
        go_wp2_with fail
        refine (l1sorted_any _ _ _ _ _ h hn).mono ?_
        rintro e w3 ⟨x, cx, K, rfl, ho, hb3, hK⟩
        have HK := hide hK
        clear hK
        by_cases hl : 64 < K.length
        · have il : (64 : Int) < (K.length : Int) := by omega
          go_wp2
          go_ret2
          exact MkAns.nil (unhide Hw (unhide HA) K (unhide HK) hl) hb3
        · have il : (K.length : Int) ≤ 64 := by omega
          go_wp2
          go_ret2
          exact ⟨x, cx, K, 0, rfl, ho, hb3, unhide Hg (unhide HA) K (unhide HK) (by omega)⟩

end Go.Proofs.YtnahfogbemfngaaGreatDoor

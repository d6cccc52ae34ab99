/-
  FormatAsk: its parts. Own work.
-/
import Derived.Test.YtnahfogbemfngaaGreatDoorSlices
import Derived.Test.YtnahfogbemfngaaGreatDoorLaws0
import Derived.Test.YtnahfogbemfngaaGreatDoorMem
import Derived.Test.YtnahfogbemfngaaGreatDoorByte1
import Derived.Test.YtnahfogbemfngaaGreatDoorShelf
import Derived.Test.YtnahfogbemfngaaGreatDoorFA0
import Derived.Deep.RegionWith
namespace Go.Proofs.YtnahfogbemfngaaGreatDoor
open Go.RowKit

/-- the names, with sep between them -/
def joinB (ss : List ByteArray) (sep : ByteArray) : ByteArray := ⟨(Lib.join (ss.map (·.data.toList)) sep.data.toList).toArray⟩

theorem joinB_nil (sep : ByteArray) : joinB [] sep = ⟨#[]⟩ := rfl

theorem joinB_snoc (l : List ByteArray) (x sep : ByteArray) (h : l ≠ []) : joinB (l ++ [x]) sep = joinB l sep ++ sep ++ x := by
  apply bytes_ext
  obtain ⟨y, r, rfl⟩ := List.exists_cons_of_ne_nil h
  simp only [joinB, List.cons_append, List.map_cons, List.map_append, List.map_nil, Lib.join_cons, Lib.joinTail, ByteArray.data_append, Array.toList_append]
  simp

theorem joinB_one (x sep : ByteArray) : joinB [x] sep = ⟨#[]⟩ ++ x := by
  apply bytes_ext
  simp [joinB, Lib.join_one]

theorem joinB_size (sep : ByteArray) : ∀ (l : List ByteArray), (∀ x ∈ l, x.size ≤ 32) → sep.size = 1 → (joinB l sep).size ≤ 33 * l.length := by
  intro l hl hs
  have : ∀ k, k ≤ l.length → (joinB (l.take k) sep).size ≤ 33 * k := by
    intro k
    induction k with
    | zero => intro _; simp [joinB_nil, ByteArray.size]
    | succ k ih =>
      intro hk
      have h1 := ih (by omega)
      have hx := hl l[k] (List.getElem_mem (by omega))
      rw [List.take_succ_eq_append_getElem (by omega)]
      by_cases h0 : k = 0
      · subst h0
        rw [List.take_zero, List.nil_append, joinB_one, size_app]
        simp only [ByteArray.size, List.size_toArray, List.length_nil] at hx ⊢
        omega
      · rw [joinB_snoc _ _ _ (by intro e; have := congrArg List.length e; rw [List.length_take, List.length_nil] at this; omega), size_app, size_app]
        omega
  have := this l.length (Nat.le_refl _)
  rwa [List.take_length] at this

theorem set_small {ss : List ByteArray} (h : setB ss = true) : ss.length ≤ 64 ∧ ∀ x ∈ ss, x.size ≤ 32 := by
  simp only [setB, Bool.and_eq_true, decide_eq_true_eq] at h
  refine ⟨h.1, fun x hx => ?_⟩
  have := List.all_eq_true.1 h.2.1 x hx
  simp only [vnB, Bool.and_eq_true, decide_eq_true_eq] at this
  exact this.1.2

set_option maxHeartbeats 800000 in
theorem l1join_any (a : Option Addr) (n c : Nat) (ss : List ByteArray) (sep : ByteArray) (w : World) (h : Strs w a n c ss) (h1 : n ≤ 64) (h2 : ∀ x ∈ ss, x.size ≤ 32) (h3 : sep.size = 1) :
    Calls Tryz.prog 19 #[.slice a n c, .string sep] w fun e w' => e = .returned (.string (joinB ss sep)) ∧ w' = w := by
  have Hl := hide h.len
  have H2 := hide h2
  have H3 := hide h3
  clear h2
  go_enter Tryz.func19, Tryz.ntmps19
  go_wp2
  go_loop [5, 6, 7, 10] (fun s _ _ i => ∃ k : Nat, k ≤ n ∧ i = .int .i64 k ∧ s = .string (joinB (ss.take k) sep)) (fun _ _ _ i => n - (intOf i).toNat)
  case atStart => exact ⟨0, Nat.zero_le _, rfl, rfl⟩
  case round =>
    obtain ⟨k, hk, rfl, rfl⟩ := hrel
    have z1 := joinB_size sep (ss.take k) (fun x hx => unhide H2 x (List.mem_of_mem_take hx)) (unhide H3)
    rw [List.length_take] at z1
    by_cases hlt : k < n
    · obtain ⟨b, off, ha', _, hc⟩ := h.cells k hlt
      subst ha'
      have hkl : k < ss.length := by have := unhide Hl; omega
      have z2 : (nth ss k).size ≤ 32 := by rw [nth_eq _ k hkl]; exact unhide H2 _ (List.getElem_mem hkl)
      have Ht := hide (take_succ_nth ss k hkl)
      by_cases h0 : k = 0
      · subst h0
        rw [Nat.add_zero] at hc
        rw [List.take_zero]
        have z0 : (joinB [] sep).size = 0 := rfl
        clear z1
        go_wp2
        go_round
        case rel => exact ⟨1, by omega, by go_num, by rw [unhide Ht, List.take_zero, List.nil_append, joinB_one]; rfl⟩
        case measure => simp [intOf]; omega
      · have i0 : (0 : Int) < (k : Int) := by omega
        have Hj := hide (joinB_snoc (ss.take k) (nth ss k) sep (by intro e; have := congrArg List.length e; rw [List.length_take, List.length_nil] at this; omega))
        go_wp2
        go_round
        case rel => exact ⟨k + 1, by omega, by go_num, by rw [unhide Ht, unhide Hj]⟩
        case measure => simp [intOf]; omega
    · have e1 : ss.take k = ss := List.take_of_length_le (by have := unhide Hl; omega)
      rw [e1]
      go_wp2
      go_ret
      exact ⟨rfl, rfl⟩

end Go.Proofs.YtnahfogbemfngaaGreatDoor

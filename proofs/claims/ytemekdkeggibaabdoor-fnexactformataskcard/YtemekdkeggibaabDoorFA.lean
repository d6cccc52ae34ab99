/-
  FormatAsk: its parts. Own work.
-/
import Derived.Test.YtemekdkeggibaabDoorSlices
import Derived.Test.YtemekdkeggibaabDoorLaws
import Derived.Test.YtemekdkeggibaabDoorMem
import Derived.Test.YtemekdkeggibaabDoorMark
import Derived.Test.YtemekdkeggibaabDoorShelf
import Derived.Deep.RegionWith
namespace Go.Proofs.YtemekdkeggibaabDoor
open Go.RowKit

def decB (k : Nat) : ByteArray := ⟨(Lib.decDigits k).toArray⟩

theorem decB_small {k : Nat} (h : k < 10) : decB k = byte1 (48 + (k : Int)) := by
  have e : (48 + (k : Int)).toNat = 48 + k := by omega
  unfold decB byte1
  rw [Lib.decDigits, dif_pos h, e]
  rfl

theorem decB_big {k : Nat} (h : 10 ≤ k) : decB k = decB (k / 10) ++ decB (k % 10) := by
  apply bytes_ext
  rw [ByteArray.data_append]
  unfold decB
  rw [Lib.decDigits, dif_neg (by omega)]
  conv => rhs; rw [Lib.decDigits.eq_def (k % 10), dif_pos (by omega)]
  simp

theorem decB_size (k : Nat) : (decB k).size ≤ k + 1 := by
  induction k using Nat.strongRecOn with
  | _ k ih =>
    by_cases h : k < 10
    · rw [decB_small h, byte1_size]; omega
    · rw [decB_big (by omega), size_app, decB_small (k := k % 10) (by omega), byte1_size]
      have := ih (k / 10) (by omega)
      omega

theorem l1dec_cast (m : Nat) (x : Int) {w : World} {Q : Ending → World → Prop} (h : Calls Tryd.prog 23 #[.int .i64 m] w Q) (e : x = m) : Calls Tryd.prog 23 #[.int .i64 x] w Q := by rw [e]; exact h

set_option maxRecDepth 100000 in
set_option maxHeartbeats 800000 in
theorem l1decimal_any (k : Nat) (w : World) (hk : k ≤ 9999999) :
    Calls Tryd.prog 23 #[.int .i64 k] w fun e w' => e = .returned (.string (decB k)) ∧ Below w.heap.size w w' := by
  induction k using Nat.strongRecOn generalizing w with
  | _ k ih =>
    by_cases h : k < 10
    · have i1 : (k : Int) < 10 := by omega
      have i2 : (48 + (k : Int)) < 256 := by omega
      have hcv := conv1
      have Hd := hide (decB_small h)
      go_enter Tryd.func23, Tryd.ntmps23
      go_wp2
      go_ret
      exact ⟨by rw [unhide Hd]; rfl, (Below.refl _ _).alloc (Nat.le_refl _) _⟩
    · have i1 : (10 : Int) ≤ (k : Int) := by omega
      have Hd := hide (decB_big (k := k) (by omega))
      have z1 := decB_size (k / 10)
      have z2 := decB_size (k % 10)
      have Hi : Hid (∀ (m : Nat), m < k → ∀ (w : World), m ≤ 9999999 → Calls Tryd.prog 23 #[.int .i64 m] w fun e w' => e = .returned (.string (decB m)) ∧ Below w.heap.size w w') := ih
      clear ih
      go_enter Tryd.func23, Tryd.ntmps23
      go_wp2_with fail
      refine (l1dec_cast (k / 10) _ (unhide Hi (k / 10) (by omega) w (by omega)) (by omega)).mono ?_
      rintro e w1 ⟨rfl, hb1⟩
      go_wp2_with fail
      refine (l1dec_cast (k % 10) _ (unhide Hi (k % 10) (by omega) w1 (by omega)) (by omega)).mono ?_
      rintro e w2 ⟨rfl, hb2⟩
      go_wp2_with fail
      go_ret
      exact ⟨by rw [unhide Hd]; rfl, hb1.trans (hb2.mono hb1.size)⟩

/-- the names, with sep between them -/
def joinB (ss : List ByteArray) (sep : ByteArray) : ByteArray := ⟨(Lib.join (ss.map (·.data.toList)) sep.data.toList).toArray⟩

theorem joinB_nil (sep : ByteArray) : joinB [] sep = ⟨#[]⟩ := rfl

theorem joinB_snoc (l : List ByteArray) (x sep : ByteArray) (h : l ≠ []) : joinB (l ++ [x]) sep = joinB l sep ++ sep ++ x := by
  apply bytes_ext
  obtain ⟨y, r, rfl⟩ := List.exists_cons_of_ne_nil h
  simp only [joinB, List.cons_append, List.map_cons, List.map_append, List.map_nil, Lib.join_cons, Lib.joinTail, ByteArray.data_append, Array.toList_append]
  simp

theorem joinB_one (x sep : ByteArray) : joinB [x] sep = ⟨#[]⟩ ++ x := by
  apply bytes_ext
  simp [joinB, Lib.join_one]

theorem joinB_size (sep : ByteArray) : ∀ (l : List ByteArray), (∀ x ∈ l, x.size ≤ 32) → sep.size = 1 → (joinB l sep).size ≤ 33 * l.length := by
  intro l hl hs
  have : ∀ k, k ≤ l.length → (joinB (l.take k) sep).size ≤ 33 * k := by
    intro k
    induction k with
    | zero => intro _; simp [joinB_nil, ByteArray.size]
    | succ k ih =>
      intro hk
      have h1 := ih (by omega)
      have hx := hl l[k] (List.getElem_mem (by omega))
      rw [List.take_succ_eq_append_getElem (by omega)]
      by_cases h0 : k = 0
      · subst h0
        rw [List.take_zero, List.nil_append, joinB_one, size_app]
        simp only [ByteArray.size, List.size_toArray, List.length_nil] at hx ⊢
        omega
      · rw [joinB_snoc _ _ _ (by intro e; have := congrArg List.length e; rw [List.length_take, List.length_nil] at this; omega), size_app, size_app]
        omega
  have := this l.length (Nat.le_refl _)
  rwa [List.take_length] at this

theorem set_small {ss : List ByteArray} (h : setB ss = true) : ss.length ≤ 64 ∧ ∀ x ∈ ss, x.size ≤ 32 := by
  simp only [setB, Bool.and_eq_true, decide_eq_true_eq] at h
  refine ⟨h.1, fun x hx => ?_⟩
  have := List.all_eq_true.1 h.2.1 x hx
  simp only [vnB, Bool.and_eq_true, decide_eq_true_eq] at this
  exact this.1.2

set_option maxHeartbeats 800000 in
theorem l1join_any (a : Option Addr) (n c : Nat) (ss : List ByteArray) (sep : ByteArray) (w : World) (h : Strs w a n c ss) (h1 : n ≤ 64) (h2 : ∀ x ∈ ss, x.size ≤ 32) (h3 : sep.size = 1) :
    Calls Tryd.prog 24 #[.slice a n c, .string sep] w fun e w' => e = .returned (.string (joinB ss sep)) ∧ w' = w := by
  have Hl := hide h.len
  have H2 := hide h2
  have H3 := hide h3
  clear h2
  go_enter Tryd.func24, Tryd.ntmps24
  go_wp2
  go_loop [5, 6, 7, 10] (fun s _ _ i => ∃ k : Nat, k ≤ n ∧ i = .int .i64 k ∧ s = .string (joinB (ss.take k) sep)) (fun _ _ _ i => n - (intOf i).toNat)
  case atStart => exact ⟨0, Nat.zero_le _, rfl, rfl⟩
  case round =>
    obtain ⟨k, hk, rfl, rfl⟩ := hrel
    have z1 := joinB_size sep (ss.take k) (fun x hx => unhide H2 x (List.mem_of_mem_take hx)) (unhide H3)
    rw [List.length_take] at z1
    by_cases hlt : k < n
    · obtain ⟨b, off, ha', _, hc⟩ := h.cells k hlt
      subst ha'
      have hkl : k < ss.length := by have := unhide Hl; omega
      have z2 : (nth ss k).size ≤ 32 := by rw [nth_eq _ k hkl]; exact unhide H2 _ (List.getElem_mem hkl)
      have Ht := hide (take_succ_nth ss k hkl)
      by_cases h0 : k = 0
      · subst h0
        rw [Nat.add_zero] at hc
        rw [List.take_zero]
        have z0 : (joinB [] sep).size = 0 := rfl
        clear z1
        go_wp2
        go_round
        case rel => exact ⟨1, by omega, by go_num, by rw [unhide Ht, List.take_zero, List.nil_append, joinB_one]; rfl⟩
        case measure => simp [intOf]; omega
      · have i0 : (0 : Int) < (k : Int) := by omega
        have Hj := hide (joinB_snoc (ss.take k) (nth ss k) sep (by intro e; have := congrArg List.length e; rw [List.length_take, List.length_nil] at this; omega))
        go_wp2
        go_round
        case rel => exact ⟨k + 1, by omega, by go_num, by rw [unhide Ht, unhide Hj]⟩
        case measure => simp [intOf]; omega
    · have e1 : ss.take k = ss := List.take_of_length_le (by have := unhide Hl; omega)
      rw [e1]
      go_wp2
      go_ret
      exact ⟨rfl, rfl⟩

end Go.Proofs.YtemekdkeggibaabDoor

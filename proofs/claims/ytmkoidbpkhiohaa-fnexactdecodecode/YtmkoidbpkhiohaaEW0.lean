/-
  Slices of bytes of the call's own: held against each other, marked. Own work.
-/
import Derived.Test.YtmkoidbpkhiohaaEA
import Derived.Test.YtmkoidbpkhiohaaOwn0
namespace Go.Proofs.Ytmkoidbpkhiohaa
open Go.RowKit
set_option linter.unusedVariables false

/-- A slice of bytes of the call's own, in the blocks lo .. hi - 1. -/
structure OwnB (w : World) (lo hi : Nat) (a : Option Addr) (n c : Nat) (L : List Int) : Prop where
  own : w.ownsRow lo 5 1 (.slice a n c) n (bytesV L)
  lt : ∀ x, a = some x → x.block < hi
  len : L.length = n
  top : hi ≤ w.heap.size

theorem ownsB_of_block {w w' : World} {lo n c : Nat} {a : Option Addr} {xs : List Value} (h : w.ownsRow lo 5 1 (.slice a n c) n xs) (hb : ∀ x, a = some x → w'.heap[x.block]? = w.heap[x.block]?) : w'.ownsRow lo 5 1 (.slice a n c) n xs := by
  refine ⟨h.1, ?_⟩
  rcases h.2 with h2 | ⟨g, cap, cur, hv, h3, hg, h4⟩
  · exact .inl h2
  · refine .inr ⟨g, cap, cur, hv, h3, ?_, h4⟩
    simp only [Value.slice.injEq] at hv
    rw [← hg]
    exact hb ⟨g, 0, none⟩ hv.1

theorem OwnB.of {w : World} {lo n c : Nat} {a : Option Addr} {L : List Int} (h : w.ownsRow lo 5 1 (.slice a n c) n (bytesV L)) (hl : L.length = n) : OwnB w lo w.heap.size a n c L :=
  ⟨h, fun x hx => by subst hx; exact (h.lt _ rfl).2, hl, Nat.le_refl _⟩

theorem OwnB.below {w w' : World} {lo hi n c B : Nat} {a : Option Addr} {L : List Int} (h : OwnB w lo hi a n c L) (hb : Below B w w') (hB : hi ≤ B) : OwnB w' lo hi a n c L :=
  ⟨ownsB_of_block h.own (fun x hx => hb.block _ (by have := h.lt x hx; omega)), h.lt, h.len, Nat.le_trans h.top hb.size⟩

theorem OwnB.touch {w w' : World} {lo hi n c lo' hi' : Nat} {a : Option Addr} {L : List Int} (h : OwnB w lo hi a n c L) (t : Touch lo' hi' w w') (hd : hi ≤ lo' ∨ hi' ≤ lo) : OwnB w' lo hi a n c L :=
  ⟨ownsB_of_block h.own (fun x hx => t.block _ (by have := h.lt x hx; have := h.top; omega) (by
    have h1 := h.lt x hx
    have h2 : lo ≤ x.block := by subst hx; exact (h.own.lt _ rfl).1
    omega)), h.lt, h.len, Nat.le_trans h.top t.size⟩

theorem OwnB.form {w : World} {lo hi n c : Nat} {a : Option Addr} {L : List Int} (h : OwnB w lo hi a n c L) (hn : 0 < n) : ∃ g, a = some ⟨g, 0, none⟩ ∧ lo ≤ g ∧ g < hi ∧ g < w.heap.size := by
  rcases h.own.2 with ⟨_, h0⟩ | ⟨g, cap, cur, hv, _⟩
  · omega
  · simp only [Value.slice.injEq] at hv
    obtain ⟨rfl, _⟩ := hv
    exact ⟨g, rfl, (h.own.lt g rfl).1, h.lt _ rfl, (h.own.lt g rfl).2⟩

theorem bytesV_at (L : List Int) (j : Nat) (h : j < L.length) : (bytesV L)[j]? = some (.int .u8 L[j]) := by
  simp [bytesV, h]

set_option maxHeartbeats 800000 in
theorem eqByteS_same (a a' : Option Addr) (n c c' lo hi lo' hi' : Nat) (L : List Int) (w : World) (h : OwnB w lo hi a n c L) (h' : OwnB w lo' hi' a' n c' L) (hn : n ≤ 1073741824) :
    Calls Try.prog 8 #[.slice a n c, .slice a' n c'] w fun e w' => e = .returned (.bool true) ∧ Below w.heap.size w w' := by
  have t1 := h.top
  have t2 := h'.top
  have Hl := hide h.len
  go_enter Try.func8, Try.ntmps8
  go_wp2
  go_loopw [5] (fun i wr => ∃ k : Nat, k ≤ n ∧ i = .int .i64 k ∧ Below w.heap.size w wr) (fun i _ => n - (intOf i).toNat)
  case atStart => exact ⟨0, Nat.zero_le _, rfl, Below.refl _ _⟩
  case round =>
    obtain ⟨k, hk, rfl, hb⟩ := hrel
    by_cases hlt : k < n
    · obtain ⟨g, rfl, _⟩ := h.form (by omega)
      obtain ⟨g', rfl, _⟩ := h'.form (by omega)
      have hkl : k < L.length := by rw [unhide Hl]; exact hlt
      have c0 := ((h.below hb t1).own.cellAt k (by omega)).trans (bytesV_at L k hkl)
      have c1 := ((h'.below hb t2).own.cellAt k (by omega)).trans (bytesV_at L k hkl)
      generalize L[k] = x at c0 c1
      have i3 : (k : Int) < (n : Int) := by omega
      have Hk := hide hlt
      go_wp2
      go_quiet (fail)
      go_wp2
      go_roundw
      case rel => exact ⟨k + 1, unhide Hk, by go_num, below_drewN hb _⟩
      case measure => have := unhide Hk; simp [intOf]; omega
    · go_wp2
      go_ret
      exact ⟨rfl, hb⟩

theorem wrap_u8_mod (y : Int) : IntKind.u8.wrap y = y % 256 := by simp [IntKind.wrap, IntKind.bits, IntKind.signed]

/-- marks from k on -/
def marksB (k n : Nat) : List Int := (List.range n).map fun j => ((k + j : Nat) : Int) % 256

/-- the first j are marked -/
def markedB (L : List Int) (k j : Nat) : List Int := marksB k j ++ L.drop j

theorem marksB_len (k n : Nat) : (marksB k n).length = n := by simp [marksB]
theorem marksB_succ (k n : Nat) : marksB k (n + 1) = marksB k n ++ [((k + n : Nat) : Int) % 256] := by simp [marksB, List.range_succ]
theorem markedB_zero (L : List Int) (k : Nat) : markedB L k 0 = L := by simp [markedB, marksB]
theorem markedB_full (L : List Int) (k : Nat) : markedB L k L.length = marksB k L.length := by simp [markedB]
theorem markedB_len (L : List Int) (k j : Nat) (h : j ≤ L.length) : (markedB L k j).length = L.length := by
  rw [markedB, List.length_append, marksB_len, List.length_drop]; omega

theorem markedB_set (L : List Int) (k j : Nat) (h : j < L.length) : (bytesV (markedB L k j)).set j (.int .u8 (((k + j : Nat) : Int) % 256)) = bytesV (markedB L k (j + 1)) := by
  rw [bytesV, ← List.map_set, markedB, List.drop_eq_getElem_cons h, List.set_append_right _ _ (by rw [marksB_len]; exact Nat.le_refl _), marksB_len, Nat.sub_self, List.set_cons_zero, bytesV, markedB, marksB_succ, List.append_assoc]
  rfl

set_option maxHeartbeats 1600000 in
theorem markByteS_any (lo hi : Nat) (a : Option Addr) (n c : Nat) (L : List Int) (k : Nat) (w : World) (h : OwnB w lo hi a n c L) (hk : k + n ≤ 1073741824) :
    Calls Try.prog 9 #[.slice a n c, .int .i64 k] w fun e w' => e = .returned (.int .i64 ((k + n : Nat) : Int)) ∧ OwnB w' lo hi a n c (marksB k n) ∧ Touch lo hi w w' := by
  have Hl := hide h.len
  go_enter Try.func9, Try.ntmps9
  go_wp2
  go_loopw [1, 5] (fun q i wr => ∃ (j : Nat) (z : Int), j ≤ n ∧ i = .int .i64 j ∧ q = .int .i64 z ∧ z = ((k + j : Nat) : Int) ∧ wr.ownsRow lo 5 1 (.slice a n c) n (bytesV (markedB L k j)) ∧ Touch lo hi w wr) (fun _ i _ => n - (intOf i).toNat)
  case atStart => exact ⟨0, k, Nat.zero_le _, rfl, rfl, by simp, by rw [markedB_zero]; exact h.own, Touch.refl _ _ _⟩
  case round =>
    obtain ⟨j, z, hj, rfl, rfl, hz, hown, ht⟩ := hrel
    by_cases hlt : j < n
    · obtain ⟨g, rfl, hgl, hgh, hgs⟩ := h.form (by omega)
      have hgr : g < wr.heap.size := Nat.lt_of_lt_of_le hgs ht.size
      have ilt : (j : Int) < (n : Int) := by omega
      have z0 : 0 ≤ z := by omega
      have z1 : z + 1 ≤ 1073741824 := by omega
      have hml : j < (markedB L k j).length := by rw [markedB_len L k j (by rw [unhide Hl]; omega), unhide Hl]; exact hlt
      have c0 := (hown.cellAt j (by omega)).trans (bytesV_at (markedB L k j) j hml)
      have cf := fun i => hown.frozenAt i
      have HO := hide (hown.stored j (.int .u8 (z % 256))).1
      have T2 := ht.trans (Touch.setCell (lo := lo) (hi := hi) wr ⟨g, j, none⟩ (.int .u8 (z % 256)) hgl hgh)
      have Hz := hide hz
      have Hk := hide hlt
      generalize (markedB L k j)[j] = old at c0
      have hw8 := wrap_u8_mod z
      clear hz hown ht hml
      go_wp2_with fail
      go_roundw
      case rel =>
        refine ⟨j + 1, z + 1, unhide Hk, by go_num, by go_num, by have := unhide Hz; omega, ?_, T2⟩
        rw [← markedB_set L k j (by rw [unhide Hl]; exact unhide Hk), ← unhide Hz]
        exact unhide HO
      case measure => have := unhide Hk; simp [intOf]; omega
    · have e : j = n := by omega
      subst e
      go_wp2
      go_ret
      have hM : markedB L k j = marksB k j := by have := markedB_full L k; rwa [unhide Hl] at this
      rw [hM] at hown
      exact ⟨by rw [hz]; rfl, ⟨hown, h.lt, marksB_len k j, Nat.le_trans h.top ht.size⟩, ht⟩

end Go.Proofs.Ytmkoidbpkhiohaa

/-
  Mem, Ints0, PickP, LawsE. Own work.
-/
import Derived.Test.YtddpcehgopeklaaGreatDoorMXAD
import Derived.Test.YtddpcehgopeklaaGreatDoorMXAF
import Derived.WalkSpells
import Derived.WalkLawsBesides
import Derived.Deep.Draws
namespace Go.Proofs.YtddpcehgopeklaaGreatDoor
open Go.RowKit

/-- a store into another block -/
theorem Strs.setFar {w : World} {a : Option Addr} {n c : Nat} {ss : List ByteArray} (h : Strs w a n c ss) {p : Addr} (hp : ∀ x, a = some x → p.block ≠ x.block) (u : Value) : Strs (w.setCell p u) a n c ss :=
  ⟨h.len, h.cap, h.small, h.sizes, fun j hj => by
    obtain ⟨b, off, ha, hlt, hc⟩ := h.cells j hj
    refine ⟨b, off, ha, by simpa using hlt, ?_⟩
    rw [← hc]
    exact World.cell?_of_block (heap_setCell_other w p b u (fun e => hp _ ha e.symm))⟩

theorem Strs.drewN {w : World} {a : Option Addr} {n c : Nat} {ss : List ByteArray} (h : Strs w a n c ss) (k : Nat) : Strs (w.drewN k) a n c ss :=
  h.below (below_drewN (Below.refl w.heap.size w) k) (Nat.le_refl _)

end Go.Proofs.YtddpcehgopeklaaGreatDoor

namespace Go.Proofs.YtddpcehgopeklaaGreatDoor
open Go.RowKit
set_option linter.unusedVariables false

/-- A slice of numbers. -/
structure Ints (w : World) (a : Option Addr) (n c : Nat) (L : List Int) : Prop where
  len : L.length = n
  small : n ≤ 1048576
  cells : ∀ j, (h : j < L.length) → ∃ b off, a = some ⟨b, off, none⟩ ∧ b < w.heap.size ∧ w.cell? ⟨b, off + j, none⟩ = some (.int .i64 L[j])

theorem Ints.below {w w' : World} {B : Nat} {a : Option Addr} {n c : Nat} {L : List Int} (h : Ints w a n c L) (hb : Below B w w') (hB : w.heap.size ≤ B) : Ints w' a n c L :=
  ⟨h.len, h.small, fun j hj => by
    obtain ⟨b, off, ha, hl, c0⟩ := h.cells j hj
    exact ⟨b, off, ha, Nat.lt_of_lt_of_le hl hb.size, (hb.cell (p := ⟨b, off + j, none⟩) (by show b < B; omega)).trans c0⟩⟩

theorem eq_iff_at (A B : List Int) (hl : A.length = B.length) : A = B ↔ ∀ j, (h : j < A.length) → A[j] = B[j]'(hl ▸ h) := by
  constructor
  · intro e j h; subst e; rfl
  · intro h; exact List.ext_getElem hl (fun j h1 h2 => h j h1)

theorem below_drewM (w : World) (m : Nat) : Below w.heap.size w (w.drewN m) := by
  exact ⟨(Below.refl w.heap.size w).os, (Below.refl w.heap.size w).tape, (Below.refl w.heap.size w).output, Nat.le_refl _, fun _ _ => rfl⟩

theorem drewN_more {w wr : World} (h : ∃ m, wr = w.drewN m) : ∃ m, wr.drew = w.drewN m := by
  obtain ⟨m, rfl⟩ := h
  exact ⟨m + 1, rfl⟩

set_option maxRecDepth 100000 in
set_option maxHeartbeats 3200000 in
theorem equalI_q (a b : Option Addr) (n c m d : Nat) (A B : List Int) (w : World) (h1 : Ints w a n c A) (h2 : Ints w b m d B) :
    Calls Tryz.prog 87 #[.slice a n c, .slice b m d] w fun e w' => e = .returned (.bool (decide (A = B))) ∧ ∃ m, w' = w.drewN m := by
  have s1 := h1.small
  have s2 := h2.small
  have HA := hide h1.len
  have HB := hide h2.len
  by_cases hnm : n = m
  · have enm : ((n : Int) != (m : Int)) = false := by rw [hnm]; simp
    have Hll := hide (show A.length = B.length by rw [h1.len, h2.len, hnm])
    have HE := hide (eq_iff_at A B (unhide Hll))
    have Hnm := hide hnm
    clear hnm
    go_enter Tryz.func87, Tryz.ntmps87
    go_wp2_with fail
    go_loopw [13] (fun i wr => ∃ k : Nat, k ≤ n ∧ i = .int .i64 k ∧ (∃ m, wr = w.drewN m) ∧ ∀ j, (h : j < A.length) → j < k → A[j] = B[j]'(unhide Hll ▸ h)) (fun i _ => n - (intOf i).toNat)
    case atStart => exact ⟨0, by omega, rfl, ⟨0, rfl⟩, fun j _ h => absurd h (by omega)⟩
    case round =>
      obtain ⟨k, hk, rfl, hdr, hal⟩ := hrel
      have HD := hide hdr
      have B1 : Below w.heap.size w wr := by obtain ⟨dn, rfl⟩ := hdr; exact below_drewM w dn
      clear hdr
      have Ha := hide hal
      clear hal
      by_cases hlt : k < n
      · have ilt : (k : Int) < (n : Int) := by omega
        have ilm : (k : Int) < (m : Int) := by have := unhide Hnm; omega
        have hka : k < A.length := by rw [unhide HA]; exact hlt
        have hkb : k < B.length := by rw [unhide HB, ← unhide Hnm]; exact hlt
        obtain ⟨b1, o1, rfl, hl1, c1⟩ := (h1.below B1 (Nat.le_refl _)).cells k hka
        obtain ⟨b2, o2, rfl, hl2, c2⟩ := (h2.below B1 (Nat.le_refl _)).cells k hkb
        have Hno := hide (show A[k] ≠ B[k] → decide (A = B) = false from fun e => decide_eq_false (fun e' => e ((unhide HE).1 e' k hka)))
        have HN := hide (show A[k] = B[k] → ∀ j, (h : j < A.length) → j < k + 1 → A[j] = B[j]'(unhide Hll ▸ h) from fun e j hj h' => by
          by_cases ej : j = k
          · subst ej; exact e
          · exact unhide Ha j hj (by omega))
        have Hlt := hide hlt
        clear Ha
        generalize A[k] = x at c1 Hno HN
        generalize B[k] = y at c2 Hno HN
        by_cases hxy : x = y
        · have exy : (x != y) = false := by rw [hxy]; simp
          have HN2 := hide (unhide HN hxy)
          clear hxy Hno HN
          go_wp2_with fail
          go_region
          go_wp2_with fail
          go_roundw
          case rel => exact ⟨k + 1, unhide Hlt, by go_num, drewN_more (unhide HD), unhide HN2⟩
          case measure => have := unhide Hlt; simp [intOf]; omega
        · have exy : (x != y) = true := bne_iff_ne.2 hxy
          have HX := hide (unhide Hno hxy)
          clear hxy Hno HN
          go_wp2_with fail
          go_region
          go_wp2_with fail
          go_ret
          exact ⟨ret_bool (unhide HX).symm, drewN_more (unhide HD)⟩
      · have e : k = n := by omega
        subst e
        have HX := hide (show decide (A = B) = true from decide_eq_true ((unhide HE).2 (fun j hj => unhide Ha j hj (by have := unhide HA; omega))))
        go_wp2
        go_ret
        exact ⟨ret_bool (unhide HX).symm, unhide HD⟩
  · have enm : ((n : Int) != (m : Int)) = true := bne_iff_ne.2 (by omega)
    have HX := hide (show decide (A = B) = false from decide_eq_false (fun e => hnm (by rw [← h1.len, ← h2.len, e])))
    clear hnm
    go_enter Tryz.func87, Tryz.ntmps87
    go_wp2
    go_ret
    exact ⟨ret_bool (unhide HX).symm, 0, rfl⟩

theorem equalI_any (a b : Option Addr) (n c m d : Nat) (A B : List Int) (w : World) (h1 : Ints w a n c A) (h2 : Ints w b m d B) :
    Calls Tryz.prog 87 #[.slice a n c, .slice b m d] w fun e w' => e = .returned (.bool (decide (A = B))) ∧ Below w.heap.size w w' :=
  (equalI_q a b n c m d A B w h1 h2).mono fun e w' h => ⟨h.1, by obtain ⟨m, rfl⟩ := h.2; exact below_drewM w m⟩

end Go.Proofs.YtddpcehgopeklaaGreatDoor

namespace Go.Proofs.YtddpcehgopeklaaGreatDoor
open Go.RowKit

/-- The value owns its row: its form. -/
theorem owns_form {w : World} {base e n : Nat} {v : Value} {xs : List Value} (h : w.ownsRow base e 1 v n xs) : ∃ x c, v = .slice x n c := by
  rcases h.2 with ⟨rfl, rfl⟩ | ⟨g, cap, cur, rfl, _⟩
  · exact ⟨_, _, rfl⟩
  · exact ⟨_, _, rfl⟩

end Go.Proofs.YtddpcehgopeklaaGreatDoor

namespace Go.Proofs.YtddpcehgopeklaaGreatDoor
open Go.RowKit

set_option maxHeartbeats 800000 in
theorem eqStringS_same (a a' : Option Addr) (n c c' : Nat) (ss : List ByteArray) (w : World) (h : Strs w a n c ss) (h' : Strs w a' n c' ss) :
    Calls Tryz.prog 75 #[.slice a n c, .slice a' n c'] w fun e w' => e = .returned (.bool true) ∧ Below w.heap.size w w' := by
  have hn : n ≤ 9223372036854775807 := by have := h.cap; have := h.small; unfold maxLen at this; omega
  go_enter Tryz.func75, Tryz.ntmps75
  go_wp2
  go_loopw [5] (fun i wr => ∃ k : Nat, k ≤ n ∧ i = .int .i64 k ∧ Below w.heap.size w wr) (fun i _ => n - (intOf i).toNat)
  case atStart => exact ⟨0, Nat.zero_le _, rfl, Below.refl _ _⟩
  case round =>
    obtain ⟨k, hk, rfl, hb⟩ := hrel
    by_cases hlt : k < n
    · obtain ⟨b, off, ha, _, hc⟩ := (h.below hb (Nat.le_refl _)).cells k hlt
      obtain ⟨b', off', ha', _, hc'⟩ := (h'.below hb (Nat.le_refl _)).cells k hlt
      subst ha
      subst ha'
      have i3 : (k : Int) < (n : Int) := by omega
      go_wp2
      go_quiet (fail)
      go_wp2
      go_roundw
      case rel => exact ⟨k + 1, by omega, by go_num, below_drewN hb _⟩
      case measure => simp [intOf]; omega
    · go_wp2
      go_ret
      exact ⟨rfl, hb⟩

end Go.Proofs.YtddpcehgopeklaaGreatDoor

/-
  Slices of numbers. Own work.
-/
import Derived.Test.YtbdplgelkgngmaaGreatDoorCMem
import Derived.Test.YtbdplgelkgngmaaGreatDoorLaws0
import Derived.Test.YtbdplgelkgngmaaGreatDoorMem
import Derived.Deep.Draws
namespace Go.Proofs.YtbdplgelkgngmaaGreatDoor
open Go.RowKit
set_option linter.unusedVariables false

/-- A slice of numbers. -/
structure Ints (w : World) (a : Option Addr) (n c : Nat) (L : List Int) : Prop where
  len : L.length = n
  small : n ≤ 1048576
  cells : ∀ j, (h : j < L.length) → ∃ b off, a = some ⟨b, off, none⟩ ∧ b < w.heap.size ∧ w.cell? ⟨b, off + j, none⟩ = some (.int .i64 L[j])

theorem Ints.below {w w' : World} {B : Nat} {a : Option Addr} {n c : Nat} {L : List Int} (h : Ints w a n c L) (hb : Below B w w') (hB : w.heap.size ≤ B) : Ints w' a n c L :=
  ⟨h.len, h.small, fun j hj => by
    obtain ⟨b, off, ha, hl, c0⟩ := h.cells j hj
    exact ⟨b, off, ha, Nat.lt_of_lt_of_le hl hb.size, (hb.cell (p := ⟨b, off + j, none⟩) (by show b < B; omega)).trans c0⟩⟩

theorem eq_iff_at (A B : List Int) (hl : A.length = B.length) : A = B ↔ ∀ j, (h : j < A.length) → A[j] = B[j]'(hl ▸ h) := by
  constructor
  · intro e j h; subst e; rfl
  · intro h; exact List.ext_getElem hl (fun j h1 h2 => h j h1)

theorem below_drewN (w : World) (m : Nat) : Below w.heap.size w (w.drewN m) := by
  exact ⟨(Below.refl w.heap.size w).os, (Below.refl w.heap.size w).tape, (Below.refl w.heap.size w).output, Nat.le_refl _, fun _ _ => rfl⟩

theorem drewN_more {w wr : World} (h : ∃ m, wr = w.drewN m) : ∃ m, wr.drew = w.drewN m := by
  obtain ⟨m, rfl⟩ := h
  exact ⟨m + 1, rfl⟩

set_option maxRecDepth 100000 in
set_option maxHeartbeats 3200000 in
theorem equalI_q (a b : Option Addr) (n c m d : Nat) (A B : List Int) (w : World) (h1 : Ints w a n c A) (h2 : Ints w b m d B) :
    Calls Tryz.prog 50 #[.slice a n c, .slice b m d] w fun e w' => e = .returned (.bool (decide (A = B))) ∧ ∃ m, w' = w.drewN m := by
  have s1 := h1.small
  have s2 := h2.small
  have HA := hide h1.len
  have HB := hide h2.len
  by_cases hnm : n = m
  · have enm : ((n : Int) != (m : Int)) = false := by rw [hnm]; simp
    have Hll := hide (show A.length = B.length by rw [h1.len, h2.len, hnm])
    have HE := hide (eq_iff_at A B (unhide Hll))
    have Hnm := hide hnm
    clear hnm
    go_enter Tryz.func50, Tryz.ntmps50
    go_wp2_with fail
    go_loopw [13] (fun i wr => ∃ k : Nat, k ≤ n ∧ i = .int .i64 k ∧ (∃ m, wr = w.drewN m) ∧ ∀ j, (h : j < A.length) → j < k → A[j] = B[j]'(unhide Hll ▸ h)) (fun i _ => n - (intOf i).toNat)
    case atStart => exact ⟨0, by omega, rfl, ⟨0, rfl⟩, fun j _ h => absurd h (by omega)⟩
    case round =>
      obtain ⟨k, hk, rfl, hdr, hal⟩ := hrel
      have HD := hide hdr
      have B1 : Below w.heap.size w wr := by obtain ⟨dn, rfl⟩ := hdr; exact below_drewN w dn
      clear hdr
      have Ha := hide hal
      clear hal
      by_cases hlt : k < n
      · have ilt : (k : Int) < (n : Int) := by omega
        have ilm : (k : Int) < (m : Int) := by have := unhide Hnm; omega
        have hka : k < A.length := by rw [unhide HA]; exact hlt
        have hkb : k < B.length := by rw [unhide HB, ← unhide Hnm]; exact hlt
        obtain ⟨b1, o1, rfl, hl1, c1⟩ := (h1.below B1 (Nat.le_refl _)).cells k hka
        obtain ⟨b2, o2, rfl, hl2, c2⟩ := (h2.below B1 (Nat.le_refl _)).cells k hkb
        have Hno := hide (show A[k] ≠ B[k] → decide (A = B) = false from fun e => decide_eq_false (fun e' => e ((unhide HE).1 e' k hka)))
        have HN := hide (show A[k] = B[k] → ∀ j, (h : j < A.length) → j < k + 1 → A[j] = B[j]'(unhide Hll ▸ h) from fun e j hj h' => by
          by_cases ej : j = k
          · subst ej; exact e
          · exact unhide Ha j hj (by omega))
        have Hlt := hide hlt
        clear Ha
        generalize A[k] = x at c1 Hno HN
        generalize B[k] = y at c2 Hno HN
        by_cases hxy : x = y
        · have exy : (x != y) = false := by rw [hxy]; simp
          have HN2 := hide (unhide HN hxy)
          clear hxy Hno HN
          go_wp2_with fail
          go_region
          go_wp2_with fail
          go_roundw
          case rel => exact ⟨k + 1, unhide Hlt, by go_num, drewN_more (unhide HD), unhide HN2⟩
          case measure => have := unhide Hlt; simp [intOf]; omega
        · have exy : (x != y) = true := bne_iff_ne.2 hxy
          have HX := hide (unhide Hno hxy)
          clear hxy Hno HN
          go_wp2_with fail
          go_region
          go_wp2_with fail
          go_ret
          exact ⟨ret_bool (unhide HX).symm, drewN_more (unhide HD)⟩
      · have e : k = n := by omega
        subst e
        have HX := hide (show decide (A = B) = true from decide_eq_true ((unhide HE).2 (fun j hj => unhide Ha j hj (by have := unhide HA; omega))))
        go_wp2
        go_ret
        exact ⟨ret_bool (unhide HX).symm, unhide HD⟩
  · have enm : ((n : Int) != (m : Int)) = true := bne_iff_ne.2 (by omega)
    have HX := hide (show decide (A = B) = false from decide_eq_false (fun e => hnm (by rw [← h1.len, ← h2.len, e])))
    clear hnm
    go_enter Tryz.func50, Tryz.ntmps50
    go_wp2
    go_ret
    exact ⟨ret_bool (unhide HX).symm, 0, rfl⟩

theorem equalI_any (a b : Option Addr) (n c m d : Nat) (A B : List Int) (w : World) (h1 : Ints w a n c A) (h2 : Ints w b m d B) :
    Calls Tryz.prog 50 #[.slice a n c, .slice b m d] w fun e w' => e = .returned (.bool (decide (A = B))) ∧ Below w.heap.size w w' :=
  (equalI_q a b n c m d A B w h1 h2).mono fun e w' h => ⟨h.1, by obtain ⟨m, rfl⟩ := h.2; exact below_drewN w m⟩

end Go.Proofs.YtbdplgelkgngmaaGreatDoor

/-
  CMem, Laws0, Mem, Ints0. Own work.
-/
import Derived.Test.YtjapdeehnfoonaaGreatDoorRows
import Derived.WalkKit
import Derived.WalkSpells
import Derived.WalkLawsBesides
import Derived.Test.YtjapdeehnfoonaaGreatDoorMWA
import Derived.RegionTactic
import Derived.ChangeAlike
import Derived.Deep.QuietTactic
import Derived.BigQuiet
import Derived.Deep.Draws
namespace Go.Proofs.YtjapdeehnfoonaaGreatDoor
open Go.RowKit

theorem bcell {W w1 : World} (hb : Below W.heap.size W w1) : (∀ b o, b < W.heap.size → w1.cell? ⟨b, o, none⟩ = W.cell? ⟨b, o, none⟩) ∧ (∀ b o, b < W.heap.size → w1.frozen? ⟨b, o, none⟩ = W.frozen? ⟨b, o, none⟩) :=
  ⟨fun b o h => hb.cell (p := ⟨b, o, none⟩) h, fun b o h => hb.frozen (p := ⟨b, o, none⟩) h⟩

/-- Block b holds the cells cs. -/
structure Row (w : World) (b : Nat) (cs : Array Value) (t : TypeId) : Prop where
  out : w.heap[b]? = some (.cells cs t (0, 0))

theorem Row.lt {w : World} {b : Nat} {cs : Array Value} {t : TypeId} (h : Row w b cs t) : b < w.heap.size := (Array.getElem?_eq_some_iff.1 h.out).1

theorem Row.below {w w' : World} {B b : Nat} {cs : Array Value} {t : TypeId} (h : Row w b cs t) (hb : Below B w w') (hB : b < B) : Row w' b cs t := ⟨(hb.block b hB).trans h.out⟩

theorem Row.after {w w' : World} {B b : Nat} {cs : Array Value} {t : TypeId} (h : Row w b cs t) (hb : Below B w w') (hB : w.heap.size ≤ B) : Row w' b cs t := h.below hb (Nat.lt_of_lt_of_le h.lt hB)

theorem Row.alloc {w : World} {b : Nat} {cs : Array Value} {t : TypeId} (h : Row w b cs t) (o : Obj) : Row (w.alloc o) b cs t := ⟨(Below.heap_alloc w o b h.lt).trans h.out⟩

theorem Row.new (w : World) (cs : Array Value) (t : TypeId) : Row (w.alloc (.cells cs t)) w.heap.size cs t := ⟨heap_alloc_new w _⟩

theorem Row.set {w : World} {b : Nat} {cs : Array Value} {t : TypeId} (h : Row w b cs t) (j : Nat) (u : Value) : Row (w.setCell ⟨b, j, none⟩ u) b (cs.setIfInBounds j u) t := ⟨heap_setCell_same w b j cs t u h.out⟩

theorem Row.setFar {w : World} {b : Nat} {cs : Array Value} {t : TypeId} (h : Row w b cs t) {p : Addr} (hp : b ≠ p.block) (u : Value) : Row (w.setCell p u) b cs t := ⟨(heap_setCell_other w p b u hp).trans h.out⟩

theorem Row.cell {w : World} {b : Nat} {cs : Array Value} {t : TypeId} (h : Row w b cs t) (j : Nat) : w.cell? ⟨b, j, none⟩ = cs[j]? := by
  have := cell_of_row w b j cs t (0, 0) h.out
  simpa using this

theorem Row.frozen {w : World} {b : Nat} {cs : Array Value} {t : TypeId} (h : Row w b cs t) (j : Nat) : w.frozen? ⟨b, j, none⟩ = false := frozen_of_row w b j cs t h.out

/-- four cells of a block, written over -/
def put4 (W : World) (b : Nat) (v0 v1 v2 v3 : Value) : World := (((W.setCell ⟨b, 0, none⟩ v0).setCell ⟨b, 1, none⟩ v1).setCell ⟨b, 2, none⟩ v2).setCell ⟨b, 3, none⟩ v3

theorem put4_block (W : World) (b k : Nat) (v0 v1 v2 v3 : Value) (h : k ≠ b) : (put4 W b v0 v1 v2 v3).heap[k]? = W.heap[k]? := by
  unfold put4
  rw [heap_setCell_other _ _ _ _ h, heap_setCell_other _ _ _ _ h, heap_setCell_other _ _ _ _ h, heap_setCell_other _ _ _ _ h]

theorem put4_size (W : World) (b : Nat) (v0 v1 v2 v3 : Value) : (put4 W b v0 v1 v2 v3).heap.size = W.heap.size := by simp [put4]

theorem put4_row {W : World} {b : Nat} {u0 u1 u2 u3 : Value} {t : TypeId} (h : Row W b #[u0, u1, u2, u3] t) (v0 v1 v2 v3 : Value) : Row (put4 W b v0 v1 v2 v3) b #[v0, v1, v2, v3] t := by
  have e : ((((#[u0, u1, u2, u3].setIfInBounds 0 v0).setIfInBounds 1 v1).setIfInBounds 2 v2).setIfInBounds 3 v3) = #[v0, v1, v2, v3] := rfl
  have := (((h.set 0 v0).set 1 v1).set 2 v2).set 3 v3
  rw [e] at this
  exact this

theorem put4_below {B : Nat} {w W : World} {b : Nat} (h : Below B w W) (hb : B ≤ b) (v0 v1 v2 v3 : Value) : Below B w (put4 W b v0 v1 v2 v3) :=
  (((h.setCell (p := ⟨b, 0, none⟩) hb v0).setCell (p := ⟨b, 1, none⟩) hb v1).setCell (p := ⟨b, 2, none⟩) hb v2).setCell (p := ⟨b, 3, none⟩) hb v3

end Go.Proofs.YtjapdeehnfoonaaGreatDoor

namespace Go.Proofs.YtjapdeehnfoonaaGreatDoor
open Go.RowKit

/-- All bytes of the names. -/
def tot (ss : List ByteArray) : Nat := (ss.map ByteArray.size).sum

theorem tot_take_succ (ss : List ByteArray) (k : Nat) (h : k < ss.length) : tot (ss.take (k + 1)) = tot (ss.take k) + (nth ss k).size := by
  rw [nth_eq ss k h, tot, tot, List.take_succ_eq_append_getElem h, List.map_append, List.sum_append]
  rfl

theorem tot_take_le (ss : List ByteArray) (k : Nat) : tot (ss.take k) ≤ tot ss := by
  have h : tot ss = tot (ss.take k) + tot (ss.drop k) := by
    conv => lhs; rw [← List.take_append_drop k ss]
    simp [tot, - List.take_append_drop]
  omega

theorem ret_int {k : IntKind} {a b : Int} (h : a = b) : Ending.returned (.int k a) = .returned (.int k b) := by rw [h]

theorem Strs.of_owns {w : World} {base e : Nat} {a : Option Addr} {n c : Nat} {ss : List ByteArray} (h : w.ownsRow base e 1 (.slice a n c) n (ss.map Value.string)) (hs : ∀ j, j < n → (nth ss j).size ≤ maxLen) :
    Strs w a n c ss := by
  have hlen : ss.length = n := by simpa using h.1
  have h' := h
  rcases h.2 with ⟨hv, h0⟩ | ⟨g, cap, cur, hv, hb, hg, hnc, hcm, hcs, htake⟩
  · simp only [Value.slice.injEq] at hv
    obtain ⟨rfl, rfl, rfl⟩ := hv
    exact ⟨hlen.symm, Nat.le_refl _, Nat.zero_le _, hs, fun j hj => by omega⟩
  · simp only [Value.slice.injEq, true_and] at hv
    obtain ⟨rfl, rfl⟩ := hv
    refine ⟨hlen.symm, hnc, hcm, hs, fun j hj => ⟨g, 0, rfl, ?_, ?_⟩⟩
    · exact (Array.getElem?_eq_some_iff.1 hg).1
    · have := h'.cellAt j (by omega)
      rw [Nat.zero_add, this, nth_eq ss j (by omega)]
      simp [hlen, hj]

/-- What toStringS has made after k rounds. -/
def half (ss : List ByteArray) (n k : Nat) : List ByteArray := (List.range n).map fun j => if j < k then nth ss j else ByteArray.empty

theorem half_zero (ss : List ByteArray) (n : Nat) : half ss n 0 = List.replicate n ByteArray.empty := by
  apply List.ext_getElem
  · simp [half]
  · intro i h1 h2; simp [half]

theorem half_full (ss : List ByteArray) (n : Nat) (h : n = ss.length) : half ss n n = ss := by
  apply List.ext_getElem
  · simp [half, h]
  · intro i h1 h2
    have : i < n := by omega
    simp [half, this, nth_eq ss i h2]

theorem half_set (ss : List ByteArray) (n k : Nat) : ((half ss n k).map Value.string).set k (.string (nth ss k)) = (half ss n (k + 1)).map Value.string := by
  apply List.ext_getElem
  · simp [half]
  · intro i h1 h2
    rw [List.getElem_set]
    simp only [half, List.getElem_map, List.getElem_range]
    by_cases e : k = i
    · subst e; simp
    · rw [if_neg e]
      by_cases h : i < k
      · rw [if_pos h, if_pos (by omega)]
      · rw [if_neg h, if_neg (by omega)]

theorem half_at (ss : List ByteArray) (n k : Nat) (h : k < n) : ((half ss n k).map Value.string)[k]? = some (.string ByteArray.empty) := by
  simp [half, h]

theorem infoS : (Tryz.prog.info? 9).map (fun i => (i.zero, i.size, i.bytes)) = some (some (.string ByteArray.empty), 1, 16) := by kernel_rfl

end Go.Proofs.YtjapdeehnfoonaaGreatDoor

namespace Go.Proofs.YtjapdeehnfoonaaGreatDoor
open Go.RowKit

/-- a store into another block -/
theorem Strs.setFar {w : World} {a : Option Addr} {n c : Nat} {ss : List ByteArray} (h : Strs w a n c ss) {p : Addr} (hp : ∀ x, a = some x → p.block ≠ x.block) (u : Value) : Strs (w.setCell p u) a n c ss :=
  ⟨h.len, h.cap, h.small, h.sizes, fun j hj => by
    obtain ⟨b, off, ha, hlt, hc⟩ := h.cells j hj
    refine ⟨b, off, ha, by simpa using hlt, ?_⟩
    rw [← hc]
    exact World.cell?_of_block (heap_setCell_other w p b u (fun e => hp _ ha e.symm))⟩

theorem Strs.drewN {w : World} {a : Option Addr} {n c : Nat} {ss : List ByteArray} (h : Strs w a n c ss) (k : Nat) : Strs (w.drewN k) a n c ss :=
  h.below (below_drewN (Below.refl w.heap.size w) k) (Nat.le_refl _)

end Go.Proofs.YtjapdeehnfoonaaGreatDoor

namespace Go.Proofs.YtjapdeehnfoonaaGreatDoor
open Go.RowKit
set_option linter.unusedVariables false

/-- A slice of numbers. -/
structure Ints (w : World) (a : Option Addr) (n c : Nat) (L : List Int) : Prop where
  len : L.length = n
  small : n ≤ 1048576
  cells : ∀ j, (h : j < L.length) → ∃ b off, a = some ⟨b, off, none⟩ ∧ b < w.heap.size ∧ w.cell? ⟨b, off + j, none⟩ = some (.int .i64 L[j])

theorem Ints.below {w w' : World} {B : Nat} {a : Option Addr} {n c : Nat} {L : List Int} (h : Ints w a n c L) (hb : Below B w w') (hB : w.heap.size ≤ B) : Ints w' a n c L :=
  ⟨h.len, h.small, fun j hj => by
    obtain ⟨b, off, ha, hl, c0⟩ := h.cells j hj
    exact ⟨b, off, ha, Nat.lt_of_lt_of_le hl hb.size, (hb.cell (p := ⟨b, off + j, none⟩) (by show b < B; omega)).trans c0⟩⟩

theorem eq_iff_at (A B : List Int) (hl : A.length = B.length) : A = B ↔ ∀ j, (h : j < A.length) → A[j] = B[j]'(hl ▸ h) := by
  constructor
  · intro e j h; subst e; rfl
  · intro h; exact List.ext_getElem hl (fun j h1 h2 => h j h1)

theorem below_drewM (w : World) (m : Nat) : Below w.heap.size w (w.drewN m) := by
  exact ⟨(Below.refl w.heap.size w).os, (Below.refl w.heap.size w).tape, (Below.refl w.heap.size w).output, Nat.le_refl _, fun _ _ => rfl⟩

theorem drewN_more {w wr : World} (h : ∃ m, wr = w.drewN m) : ∃ m, wr.drew = w.drewN m := by
  obtain ⟨m, rfl⟩ := h
  exact ⟨m + 1, rfl⟩

set_option maxRecDepth 100000 in
set_option maxHeartbeats 3200000 in
theorem equalI_q (a b : Option Addr) (n c m d : Nat) (A B : List Int) (w : World) (h1 : Ints w a n c A) (h2 : Ints w b m d B) :
    Calls Tryz.prog 36 #[.slice a n c, .slice b m d] w fun e w' => e = .returned (.bool (decide (A = B))) ∧ ∃ m, w' = w.drewN m := by
  have s1 := h1.small
  have s2 := h2.small
  have HA := hide h1.len
  have HB := hide h2.len
  by_cases hnm : n = m
  · have enm : ((n : Int) != (m : Int)) = false := by rw [hnm]; simp
    have Hll := hide (show A.length = B.length by rw [h1.len, h2.len, hnm])
    have HE := hide (eq_iff_at A B (unhide Hll))
    have Hnm := hide hnm
    clear hnm
    go_enter Tryz.func36, Tryz.ntmps36
    go_wp2_with fail
    go_loopw [13] (fun i wr => ∃ k : Nat, k ≤ n ∧ i = .int .i64 k ∧ (∃ m, wr = w.drewN m) ∧ ∀ j, (h : j < A.length) → j < k → A[j] = B[j]'(unhide Hll ▸ h)) (fun i _ => n - (intOf i).toNat)
    case atStart => exact ⟨0, by omega, rfl, ⟨0, rfl⟩, fun j _ h => absurd h (by omega)⟩
    case round =>
      obtain ⟨k, hk, rfl, hdr, hal⟩ := hrel
      have HD := hide hdr
      have B1 : Below w.heap.size w wr := by obtain ⟨dn, rfl⟩ := hdr; exact below_drewM w dn
      clear hdr
      have Ha := hide hal
      clear hal
      by_cases hlt : k < n
      · have ilt : (k : Int) < (n : Int) := by omega
        have ilm : (k : Int) < (m : Int) := by have := unhide Hnm; omega
        have hka : k < A.length := by rw [unhide HA]; exact hlt
        have hkb : k < B.length := by rw [unhide HB, ← unhide Hnm]; exact hlt
        obtain ⟨b1, o1, rfl, hl1, c1⟩ := (h1.below B1 (Nat.le_refl _)).cells k hka
        obtain ⟨b2, o2, rfl, hl2, c2⟩ := (h2.below B1 (Nat.le_refl _)).cells k hkb
        have Hno := hide (show A[k] ≠ B[k] → decide (A = B) = false from fun e => decide_eq_false (fun e' => e ((unhide HE).1 e' k hka)))
        have HN := hide (show A[k] = B[k] → ∀ j, (h : j < A.length) → j < k + 1 → A[j] = B[j]'(unhide Hll ▸ h) from fun e j hj h' => by
          by_cases ej : j = k
          · subst ej; exact e
          · exact unhide Ha j hj (by omega))
        have Hlt := hide hlt
        clear Ha
        generalize A[k] = x at c1 Hno HN
        generalize B[k] = y at c2 Hno HN
        by_cases hxy : x = y
        · have exy : (x != y) = false := by rw [hxy]; simp
          have HN2 := hide (unhide HN hxy)
          clear hxy Hno HN
          go_wp2_with fail
          go_region
          go_wp2_with fail
          go_roundw
          case rel => exact ⟨k + 1, unhide Hlt, by go_num, drewN_more (unhide HD), unhide HN2⟩
          case measure => have := unhide Hlt; simp [intOf]; omega
        · have exy : (x != y) = true := bne_iff_ne.2 hxy
          have HX := hide (unhide Hno hxy)
          clear hxy Hno HN
          go_wp2_with fail
          go_region
          go_wp2_with fail
          go_ret
          exact ⟨ret_bool (unhide HX).symm, drewN_more (unhide HD)⟩
      · have e : k = n := by omega
        subst e
        have HX := hide (show decide (A = B) = true from decide_eq_true ((unhide HE).2 (fun j hj => unhide Ha j hj (by have := unhide HA; omega))))
        go_wp2
        go_ret
        exact ⟨ret_bool (unhide HX).symm, unhide HD⟩
  · have enm : ((n : Int) != (m : Int)) = true := bne_iff_ne.2 (by omega)
    have HX := hide (show decide (A = B) = false from decide_eq_false (fun e => hnm (by rw [← h1.len, ← h2.len, e])))
    clear hnm
    go_enter Tryz.func36, Tryz.ntmps36
    go_wp2
    go_ret
    exact ⟨ret_bool (unhide HX).symm, 0, rfl⟩

theorem equalI_any (a b : Option Addr) (n c m d : Nat) (A B : List Int) (w : World) (h1 : Ints w a n c A) (h2 : Ints w b m d B) :
    Calls Tryz.prog 36 #[.slice a n c, .slice b m d] w fun e w' => e = .returned (.bool (decide (A = B))) ∧ Below w.heap.size w w' :=
  (equalI_q a b n c m d A B w h1 h2).mono fun e w' h => ⟨h.1, by obtain ⟨m, rfl⟩ := h.2; exact below_drewM w m⟩

end Go.Proofs.YtjapdeehnfoonaaGreatDoor

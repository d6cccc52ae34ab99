/-
  The draws' reader: bytes in memory, next. Own work.
-/
import Derived.Test.YtnahfogbemfngaaGreatDoorRows
import Derived.Test.YtnahfogbemfngaaGreatDoorHid
import Derived.Test.YtnahfogbemfngaaGreatDoorCMem
import Derived.WalkKit
import Derived.WalkSpells
import Derived.WalkLawsBesides
import Derived.RegionTactic
import Derived.ChangeAlike
import Derived.Deep.QuietTactic
import Derived.BigQuiet
import Derived.ProofKit
import Derived.OpenShut
namespace Go.Proofs.YtnahfogbemfngaaGreatDoor
open Go.RowKit Go.ChangeShapes

/-- A slice of bytes in memory, below block R: its elements. -/
structure Bytes (w : World) (a : Option Addr) (n c : Nat) (zs : List Int) : Prop where
  cap : n ≤ c
  small : c ≤ maxLen
  cells : ∀ j, j < n → ∃ b off z, a = some ⟨b, off, none⟩ ∧ b < w.heap.size ∧ w.cell? ⟨b, off + j, none⟩ = some (.int .u8 z) ∧ 0 ≤ z ∧ z ≤ 255

theorem Bytes.below {w w' : World} {B : Nat} {a : Option Addr} {n c : Nat} {zs : List Int} (h : Bytes w a n c zs) (hb : Below B w w') (hB : w.heap.size ≤ B) : Bytes w' a n c zs :=
  ⟨h.cap, h.small, fun j hj => by
    obtain ⟨b, off, z, ha, hlt, hc, hz⟩ := h.cells j hj
    exact ⟨b, off, z, ha, Nat.lt_of_lt_of_le hlt hb.size, by rw [← hc]; exact hb.cell (p := ⟨b, off + j, none⟩) (Nat.lt_of_lt_of_le hlt hB), hz⟩⟩

theorem Bytes.of_trod {H : Type} {enc : TypeId × Value → H} {P : Program} {w : World} {held : Bool} {t e : TypeId} {fuel : Nat} {x : DataW H × List MemPlace} {a : Option Addr} {n c : Nat}
    (ht : P.underlying t = some (.slice e)) (he : P.underlying e = some (.int .u8)) (hc : P.cellsOf e = 1)
    (h : DataW.trod enc P w 0 (fun _ => true) held fuel t [.slice a n c] = some x) : ∃ zs, Bytes w a n c zs := by
  rcases open_ints ht he hc h with ⟨hcs, _⟩ | ⟨ad, len, cap, zs, hcs, _, hl, hm, hz, _, hcell, hwz⟩
  · simp only [List.cons.injEq, Value.slice.injEq, and_true] at hcs
    obtain ⟨rfl, rfl, rfl⟩ := hcs
    exact ⟨[], Nat.le_refl _, Nat.zero_le _, fun j hj => by omega⟩
  · simp only [List.cons.injEq, Value.slice.injEq, and_true] at hcs
    obtain ⟨rfl, rfl, rfl⟩ := hcs
    simp only [if_true] at hz
    refine ⟨zs, hl, hm, fun j hj => ?_⟩
    have hs := World.cell?_spot (hcell 0 (by omega))
    obtain ⟨b, off, spot⟩ := ad
    simp only [Addr.add, if_true] at hs
    subst hs
    have hcj := hcell j (by omega)
    have hadd : (⟨b, off, none⟩ : Addr).add j = ⟨b, off + j, none⟩ := by
      by_cases e : j = 0 <;> simp [Addr.add, e]
    rw [hadd] at hcj
    have hw := bounds_u8 (hwz (zs.getD j 0) (by simp [List.getD, show j < zs.length from by omega]))
    refine ⟨b, off, zs.getD j 0, rfl, ?_, hcj, hw.1, hw.2⟩
    by_cases hb : b < w.heap.size
    · exact hb
    · have : w.heap[b]? = none := Array.getElem?_eq_none (by omega)
      simp [World.cell?, this] at hcj

/-- The reader lies in block R, its bytes below it. -/
structure Rd (w : World) (R : Nat) (a : Option Addr) (n c p : Nat) : Prop where
  row : Row w R #[.slice a n c, .int .i64 (p : Int)] 35
  le : p ≤ n
  small : n ≤ 1048576
  cells : ∀ j, j < n → ∃ b off z, a = some ⟨b, off, none⟩ ∧ b < R ∧ w.cell? ⟨b, off + j, none⟩ = some (.int .u8 z) ∧ 0 ≤ z ∧ z ≤ 255

theorem Rd.after {w w' : World} {B R : Nat} {a : Option Addr} {n c p : Nat} (h : Rd w R a n c p) (hb : Below B w w') (hB : R < B) : Rd w' R a n c p :=
  ⟨h.row.below hb hB, h.le, h.small, fun j hj => by
    obtain ⟨b, off, z, ha, hlt, hc, hz⟩ := h.cells j hj
    exact ⟨b, off, z, ha, hlt, by rw [← hc]; exact hb.cell (p := ⟨b, off + j, none⟩) (by show b < B; omega), hz⟩⟩

theorem Rd.new {w : World} {a : Option Addr} {n c : Nat} {zs : List Int} (h : Bytes w a n c zs) (hn : n ≤ 1048576) : Rd (w.alloc (.cells #[.slice a n c, .int .i64 0] 35)) w.heap.size a n c 0 :=
  ⟨Row.new _ _ _, Nat.zero_le _, hn, fun j hj => by
    obtain ⟨b, off, z, ha, hlt, hc, hz⟩ := h.cells j hj
    exact ⟨b, off, z, ha, hlt, by rw [← hc]; exact ((Below.refl w.heap.size w).alloc (Nat.le_refl _) _).cell (p := ⟨b, off + j, none⟩) hlt, hz⟩⟩

theorem Rd.step {w : World} {R : Nat} {a : Option Addr} {n c p : Nat} (h : Rd w R a n c p) (hp : p < n) : Rd (w.setCell ⟨R, 1, none⟩ (.int .i64 ((p + 1 : Nat) : Int))) R a n c (p + 1) :=
  ⟨by simpa using h.row.set 1 (.int .i64 ((p + 1 : Nat) : Int)), hp, h.small, fun j hj => by
    obtain ⟨b, off, z, ha, hlt, hc, hz⟩ := h.cells j hj
    refine ⟨b, off, z, ha, hlt, ?_, hz⟩
    rw [← hc]
    exact World.cell?_of_block (heap_setCell_other w ⟨R, 1, none⟩ b _ (by show b ≠ R; omega))⟩

/-- The reader lies there, wherever it stands. -/
def RdAt (w : World) (R : Nat) (a : Option Addr) (n c : Nat) : Prop := ∃ p, Rd w R a n c p

set_option maxHeartbeats 800000 in
theorem next_any (R : Nat) (a : Option Addr) (n c p : Nat) (w : World) (h : Rd w R a n c p) :
    Calls Tryz.prog 11 #[.pointer (some ⟨R, 0, none⟩)] w fun e w' => ∃ r : Int, e = .returned (.int .i64 r) ∧ 0 ≤ r ∧ r ≤ 255 ∧ RdAt w' R a n c ∧ Below R w w' := by
  have c0 := h.row.cell 0
  have c1 := h.row.cell 1
  have f1 := h.row.frozen 1
  simp at c0 c1
  have hsm := h.small
  by_cases hp : p < n
  · obtain ⟨b, off, z, ha, hbR, hz, z0, z1⟩ := h.cells p hp
    subst ha
    have ip : (p : Int) < (n : Int) := by omega
    go_enter Tryz.func11, Tryz.ntmps11
    go_wp2
    go_quiet (fail)
    go_wp2
    go_quiet (fail)
    go_wp2
    go_ret
    refine ⟨_, rfl, z0, z1, ⟨p + 1, ?_⟩, ?_⟩
    · rw [show ((p : Int) + 1) = ((p + 1 : Nat) : Int) from by omega]
      exact (h.after (below_drewN (Below.refl (R + 1) w) _) (by omega)).step hp
    · exact Below.setCell (p := ⟨R, 1, none⟩) (below_drewN (Below.refl R w) _) (Nat.le_refl R) _
  · have ip : (n : Int) ≤ (p : Int) := by omega
    go_enter Tryz.func11, Tryz.ntmps11
    go_wp2
    go_quiet (fail)
    go_wp2
    go_ret
    exact ⟨_, rfl, by omega, by omega, ⟨p, h.after (below_drewN (Below.refl (R + 1) w) _) (by omega)⟩, below_drewN (Below.refl _ _) _⟩

end Go.Proofs.YtnahfogbemfngaaGreatDoor

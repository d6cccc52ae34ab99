/-
  Small facts on memory: a block of the call's own, known whole. Own work.
-/
import Derived.Test.YtbdplgelkgngmaaGreatDoorMHA
import Derived.Test.YtbdplgelkgngmaaGreatDoorCMem
import Derived.WalkSpells
import Derived.WalkLawsBesides
namespace Go.Proofs.YtbdplgelkgngmaaGreatDoor
open Go.RowKit

/-- a store into another block -/
theorem Strs.setFar {w : World} {a : Option Addr} {n c : Nat} {ss : List ByteArray} (h : Strs w a n c ss) {p : Addr} (hp : ∀ x, a = some x → p.block ≠ x.block) (u : Value) : Strs (w.setCell p u) a n c ss :=
  ⟨h.len, h.cap, h.small, h.sizes, fun j hj => by
    obtain ⟨b, off, ha, hlt, hc⟩ := h.cells j hj
    refine ⟨b, off, ha, by simpa using hlt, ?_⟩
    rw [← hc]
    exact World.cell?_of_block (heap_setCell_other w p b u (fun e => hp _ ha e.symm))⟩

theorem Strs.drewN {w : World} {a : Option Addr} {n c : Nat} {ss : List ByteArray} (h : Strs w a n c ss) (k : Nat) : Strs (w.drewN k) a n c ss :=
  h.below (below_drewN (Below.refl w.heap.size w) k) (Nat.le_refl _)

end Go.Proofs.YtbdplgelkgngmaaGreatDoor

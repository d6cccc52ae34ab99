/-
  The program's four sentinels in memory, and the error of a code. Own work.
-/
import Derived.Test.YtajfgmlbeaogkacDoorHid
import Derived.WalkKit
namespace Go.Proofs.YtajfgmlbeaogkacDoor
open Go.RowKit

/-- What the program's four sentinels are, in memory. -/
structure Sent (w : World) (aS aO aZ aW : Addr) : Prop where
  g0 : w.cell? ⟨1, 0, none⟩ = some (.iface 184 (.pointer (some aS)))
  g1 : w.cell? ⟨3, 0, none⟩ = some (.iface 184 (.pointer (some aO)))
  g2 : w.cell? ⟨4, 0, none⟩ = some (.iface 184 (.pointer (some aZ)))
  g3 : w.cell? ⟨2, 0, none⟩ = some (.iface 184 (.pointer (some aW)))
  big : 5 ≤ w.heap.size
  rS : ∃ c t, w.heap[aS.block]? = some (.cells c t (0, 0))
  rO : ∃ c t, w.heap[aO.block]? = some (.cells c t (0, 0))
  rZ : ∃ c t, w.heap[aZ.block]? = some (.cells c t (0, 0))
  rW : ∃ c t, w.heap[aW.block]? = some (.cells c t (0, 0))
  nSO : aS ≠ aO
  nSZ : aS ≠ aZ
  nSW : aS ≠ aW
  nOZ : aO ≠ aZ
  nOW : aO ≠ aW
  nZW : aZ ≠ aW

theorem row_below {w w' : World} {B : Nat} {a : Addr} (h : ∃ c t, w.heap[a.block]? = some (.cells c t (0, 0))) (hb : Below B w w') (hB : w.heap.size ≤ B) : ∃ c t, w'.heap[a.block]? = some (.cells c t (0, 0)) := by
  obtain ⟨c, t, h⟩ := h
  have hlt : a.block < w.heap.size := (Array.getElem?_eq_some_iff.1 h).1
  exact ⟨c, t, (hb.block _ (by omega)).trans h⟩

theorem Sent.below {w w' : World} {B : Nat} {aS aO aZ aW : Addr} (h : Sent w aS aO aZ aW) (hb : Below B w w') (hB : w.heap.size ≤ B) : Sent w' aS aO aZ aW where
  g0 := (hb.cell (p := ⟨1, 0, none⟩) (by have := h.big; show 1 < B; omega)).trans h.g0
  g1 := (hb.cell (p := ⟨3, 0, none⟩) (by have := h.big; show 3 < B; omega)).trans h.g1
  g2 := (hb.cell (p := ⟨4, 0, none⟩) (by have := h.big; show 4 < B; omega)).trans h.g2
  g3 := (hb.cell (p := ⟨2, 0, none⟩) (by have := h.big; show 2 < B; omega)).trans h.g3
  big := Nat.le_trans h.big hb.size
  rS := row_below h.rS hb hB
  rO := row_below h.rO hb hB
  rZ := row_below h.rZ hb hB
  rW := row_below h.rW hb hB
  nSO := h.nSO
  nSZ := h.nSZ
  nSW := h.nSW
  nOZ := h.nOZ
  nOW := h.nOW
  nZW := h.nZW

variable {aS aO aZ aW : Addr}

/-- the error of a code -/
def errV (aS aO aZ aW : Addr) (c : Int) : Value := if c = 0 then .nilIface else if c = 1 then .iface 184 (.pointer (some aO)) else if c = 2 then .iface 184 (.pointer (some aZ)) else if c = 3 then .iface 184 (.pointer (some aW)) else .iface 184 (.pointer (some aS))

end Go.Proofs.YtajfgmlbeaogkacDoor

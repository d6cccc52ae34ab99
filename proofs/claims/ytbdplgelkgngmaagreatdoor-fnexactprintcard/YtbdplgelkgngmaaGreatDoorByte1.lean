/-
  One byte as a text. Own work.
-/
import Derived.Test.YtbdplgelkgngmaaGreatDoorLaws0
import Derived.Test.YtbdplgelkgngmaaGreatDoorMem
import Derived.Test.YtbdplgelkgngmaaGreatDoorPickP
import Derived.Laws.BytesString
import Derived.Deep.RegionHeld3
namespace Go.Proofs.YtbdplgelkgngmaaGreatDoor
open Go.RowKit

def byte1 (x : Int) : ByteArray := ByteArray.empty.push (UInt8.ofNat x.toNat)

theorem byte1_size (x : Int) : (byte1 x).size = 1 := rfl

theorem conv1 (W : World) (x : Int) : (convert 44 9 (.slice (some ⟨W.heap.size, 0, none⟩) 1 1)).run Tryz.prog (W.alloc (.cells #[.int .u8 x] 5)) = .ok (.string (byte1 x)) (W.alloc (.cells #[.int .u8 x] 5)) := by
  rw [run_convert_bytes_string _ _ _ _ _ _ _ Tryz.underlying44 Tryz.underlying5 Tryz.underlying9]
  rw [run_bytesToString _ _ _ _ [x]]
  · rfl
  · have h : (W.alloc (.cells #[.int .u8 x] 5)).cell? ⟨W.heap.size, 0, none⟩ = some (.int .u8 x) := by simp
    simp [loadCells, h, go_sem]

theorem size_app (a b : ByteArray) : (a ++ b).size = a.size + b.size := ByteArray.size_append

end Go.Proofs.YtbdplgelkgngmaaGreatDoor

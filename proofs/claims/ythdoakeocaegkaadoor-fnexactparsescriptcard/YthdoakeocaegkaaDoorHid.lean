/-
  A fact kept from the walk, and back. Own work.
-/
import Derived.Test.YthdoakeocaegkaaDoorRows
import Derived.Below
namespace Go.Proofs.YthdoakeocaegkaaDoor
open Go.RowKit

theorem hide {p : Prop} (h : p) : Hid p := h
theorem unhide {p : Prop} (h : Hid p) : p := h

end Go.Proofs.YthdoakeocaegkaaDoor

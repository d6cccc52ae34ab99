/-
  A fact kept from the walk, and back. Own work.
-/
import Derived.Test.YtecfjbdeiemclaaDoorRows
import Derived.Below
namespace Go.Proofs.YtecfjbdeiemclaaDoor
open Go.RowKit

theorem hide {p : Prop} (h : p) : Hid p := h
theorem unhide {p : Prop} (h : Hid p) : p := h

end Go.Proofs.YtecfjbdeiemclaaDoor

/-
  A tree's kids and place, by its methods. Own work.
-/
import Derived.Test.YtcehablmloleaaaGreatDoorMXAE
import Derived.Test.YtcehablmloleaaaGreatDoorMXAG
namespace Go.Proofs.YtcehablmloleaaaGreatDoor
open Go.RowKit
set_option linter.unusedVariables false

theorem kids_int (i n : Int) : ∀ w, (method 378 164 (.agg #[.int .i64 i, .int .i64 n]) "loop.example/s01308/impl.kids").run Tryz.prog w = .ok (196, .int .i64 i) w := fun _ => by kernel_rfl
theorem place_int (i n : Int) : ∀ w, (method 378 164 (.agg #[.int .i64 i, .int .i64 n]) "loop.example/s01308/impl.place").run Tryz.prog w = .ok (197, .int .i64 i) w := fun _ => by kernel_rfl
theorem kids_text (i : Int) (s : ByteArray) : ∀ w, (method 378 166 (.agg #[.int .i64 i, .string s]) "loop.example/s01308/impl.kids").run Tryz.prog w = .ok (196, .int .i64 i) w := fun _ => by kernel_rfl
theorem place_text (i : Int) (s : ByteArray) : ∀ w, (method 378 166 (.agg #[.int .i64 i, .string s]) "loop.example/s01308/impl.place").run Tryz.prog w = .ok (197, .int .i64 i) w := fun _ => by kernel_rfl
theorem kids_bool (i : Int) (b : Bool) : ∀ w, (method 378 168 (.agg #[.int .i64 i, .bool b]) "loop.example/s01308/impl.kids").run Tryz.prog w = .ok (196, .int .i64 i) w := fun _ => by kernel_rfl
theorem place_bool (i : Int) (b : Bool) : ∀ w, (method 378 168 (.agg #[.int .i64 i, .bool b]) "loop.example/s01308/impl.place").run Tryz.prog w = .ok (197, .int .i64 i) w := fun _ => by kernel_rfl
theorem kids_set (i : Int) (a : Option Addr) (n c : Nat) : ∀ w, (method 378 170 (.agg #[.int .i64 i, .slice a n c]) "loop.example/s01308/impl.kids").run Tryz.prog w = .ok (196, .int .i64 i) w := fun _ => by kernel_rfl
theorem place_set (i : Int) (a : Option Addr) (n c : Nat) : ∀ w, (method 378 170 (.agg #[.int .i64 i, .slice a n c]) "loop.example/s01308/impl.place").run Tryz.prog w = .ok (197, .int .i64 i) w := fun _ => by kernel_rfl
theorem kids_name (i : Int) (s : ByteArray) : ∀ w, (method 378 172 (.agg #[.int .i64 i, .string s]) "loop.example/s01308/impl.kids").run Tryz.prog w = .ok (196, .int .i64 i) w := fun _ => by kernel_rfl
theorem place_name (i : Int) (s : ByteArray) : ∀ w, (method 378 172 (.agg #[.int .i64 i, .string s]) "loop.example/s01308/impl.place").run Tryz.prog w = .ok (197, .int .i64 i) w := fun _ => by kernel_rfl
theorem kids_attr (i n : Int) : ∀ w, (method 378 173 (.agg #[.int .i64 i, .int .i64 n]) "loop.example/s01308/impl.kids").run Tryz.prog w = .ok (196, .int .i64 i) w := fun _ => by kernel_rfl
theorem place_attr (i n : Int) : ∀ w, (method 378 173 (.agg #[.int .i64 i, .int .i64 n]) "loop.example/s01308/impl.place").run Tryz.prog w = .ok (197, .int .i64 i) w := fun _ => by kernel_rfl
theorem kids_lett (i n : Int) : ∀ w, (method 378 174 (.agg #[.int .i64 i, .int .i64 n]) "loop.example/s01308/impl.kids").run Tryz.prog w = .ok (196, .int .i64 i) w := fun _ => by kernel_rfl
theorem place_lett (i n : Int) : ∀ w, (method 378 174 (.agg #[.int .i64 i, .int .i64 n]) "loop.example/s01308/impl.place").run Tryz.prog w = .ok (197, .int .i64 i) w := fun _ => by kernel_rfl
theorem kids_un (i op : Int) (t : TypeId) (u : Value) : ∀ w, (method 378 176 (.agg #[.int .i64 i, .int .i64 op, .iface t u]) "loop.example/s01308/impl.kids").run Tryz.prog w = .ok (198, .agg #[.int .i64 i, .int .i64 op, .iface t u]) w := fun _ => by kernel_rfl
theorem place_un (i op : Int) (t : TypeId) (u : Value) : ∀ w, (method 378 176 (.agg #[.int .i64 i, .int .i64 op, .iface t u]) "loop.example/s01308/impl.place").run Tryz.prog w = .ok (199, .agg #[.int .i64 i, .int .i64 op, .iface t u]) w := fun _ => by kernel_rfl
theorem kids_bin (i op : Int) (t : TypeId) (u : Value) (t' : TypeId) (u' : Value) : ∀ w, (method 378 178 (.agg #[.int .i64 i, .int .i64 op, .iface t u, .iface t' u']) "loop.example/s01308/impl.kids").run Tryz.prog w = .ok (200, .agg #[.int .i64 i, .int .i64 op, .iface t u, .iface t' u']) w := fun _ => by kernel_rfl
theorem place_bin (i op : Int) (t : TypeId) (u : Value) (t' : TypeId) (u' : Value) : ∀ w, (method 378 178 (.agg #[.int .i64 i, .int .i64 op, .iface t u, .iface t' u']) "loop.example/s01308/impl.place").run Tryz.prog w = .ok (201, .agg #[.int .i64 i, .int .i64 op, .iface t u, .iface t' u']) w := fun _ => by kernel_rfl
theorem kids_ite (i : Int) (t : TypeId) (u : Value) (t' : TypeId) (u' : Value) (t2 : TypeId) (u2 : Value) : ∀ w, (method 378 180 (.agg #[.int .i64 i, .iface t u, .iface t' u', .iface t2 u2]) "loop.example/s01308/impl.kids").run Tryz.prog w = .ok (202, .agg #[.int .i64 i, .iface t u, .iface t' u', .iface t2 u2]) w := fun _ => by kernel_rfl
theorem place_ite (i : Int) (t : TypeId) (u : Value) (t' : TypeId) (u' : Value) (t2 : TypeId) (u2 : Value) : ∀ w, (method 378 180 (.agg #[.int .i64 i, .iface t u, .iface t' u', .iface t2 u2]) "loop.example/s01308/impl.place").run Tryz.prog w = .ok (203, .agg #[.int .i64 i, .iface t u, .iface t' u', .iface t2 u2]) w := fun _ => by kernel_rfl

set_option maxRecDepth 100000 in
theorem kids_leaf (i : Int) (w : World) : Calls Tryz.prog 196 #[.int .i64 i] w fun r w' => r = .returned (.slice none 0 0) ∧ w' = w := by
  go_enter Tryz.func196, Tryz.ntmps196
  go_wp2
  go_ret
  exact ⟨rfl, rfl⟩

set_option maxRecDepth 100000 in
theorem place_leaf (i : Int) (w : World) : Calls Tryz.prog 197 #[.int .i64 i] w fun r w' => r = .returned (.int .i64 i) ∧ w' = w := by
  go_enter Tryz.func197, Tryz.ntmps197
  go_wp2
  go_ret
  exact ⟨rfl, rfl⟩

/-- a new slice of trees -/
def NewT (w : World) (vs : List Value) (n : Nat) (r : Ending) (w' : World) : Prop := ∃ g, r = .returned (.slice (some ⟨g, 0, none⟩) n n) ∧ w.heap.size ≤ g ∧ Row w' g vs.toArray 109 ∧ Below w.heap.size w w'

set_option maxRecDepth 100000 in
theorem kids_of_un (i op : Int) (t : TypeId) (u : Value) (w : World) : Calls Tryz.prog 198 #[.agg #[.int .i64 i, .int .i64 op, .iface t u]] w (NewT w [.iface t u] 1) := by
  have B0 := (Below.refl w.heap.size w).alloc (Nat.le_refl _) (.cells #[.int .i64 i, .int .i64 op, .iface t u] 176)
  have R1 := Row.new (w.alloc (.cells #[.int .i64 i, .int .i64 op, .iface t u] 176)) #[.iface t u] 109
  simp only [World.size_alloc] at R1
  go_enter Tryz.func198, Tryz.ntmps198
  go_wp2
  go_ret
  exact ⟨w.heap.size + 1, rfl, Nat.le_succ _, R1, B0.alloc B0.size _⟩

set_option maxRecDepth 100000 in
theorem place_of_un (i op : Int) (t : TypeId) (u : Value) (w : World) : Calls Tryz.prog 199 #[.agg #[.int .i64 i, .int .i64 op, .iface t u]] w fun r w' => r = .returned (.int .i64 i) ∧ Below w.heap.size w w' := by
  have B0 := (Below.refl w.heap.size w).alloc (Nat.le_refl _) (.cells #[.int .i64 i, .int .i64 op, .iface t u] 176)
  go_enter Tryz.func199, Tryz.ntmps199
  go_wp2
  go_ret
  exact ⟨rfl, B0⟩

set_option maxRecDepth 100000 in
theorem kids_of_bin (i op : Int) (t : TypeId) (u : Value) (t' : TypeId) (u' : Value) (w : World) : Calls Tryz.prog 200 #[.agg #[.int .i64 i, .int .i64 op, .iface t u, .iface t' u']] w (NewT w [.iface t u, .iface t' u'] 2) := by
  have B0 := (Below.refl w.heap.size w).alloc (Nat.le_refl _) (.cells #[.int .i64 i, .int .i64 op, .iface t u, .iface t' u'] 178)
  have R1 := Row.new (w.alloc (.cells #[.int .i64 i, .int .i64 op, .iface t u, .iface t' u'] 178)) #[.iface t u, .iface t' u'] 109
  simp only [World.size_alloc] at R1
  go_enter Tryz.func200, Tryz.ntmps200
  go_wp2
  go_ret
  exact ⟨w.heap.size + 1, rfl, Nat.le_succ _, R1, B0.alloc B0.size _⟩

set_option maxRecDepth 100000 in
theorem place_of_bin (i op : Int) (t : TypeId) (u : Value) (t' : TypeId) (u' : Value) (w : World) : Calls Tryz.prog 201 #[.agg #[.int .i64 i, .int .i64 op, .iface t u, .iface t' u']] w fun r w' => r = .returned (.int .i64 i) ∧ Below w.heap.size w w' := by
  have B0 := (Below.refl w.heap.size w).alloc (Nat.le_refl _) (.cells #[.int .i64 i, .int .i64 op, .iface t u, .iface t' u'] 178)
  go_enter Tryz.func201, Tryz.ntmps201
  go_wp2
  go_ret
  exact ⟨rfl, B0⟩

set_option maxRecDepth 100000 in
theorem kids_of_ite (i : Int) (t : TypeId) (u : Value) (t' : TypeId) (u' : Value) (t2 : TypeId) (u2 : Value) (w : World) : Calls Tryz.prog 202 #[.agg #[.int .i64 i, .iface t u, .iface t' u', .iface t2 u2]] w (NewT w [.iface t u, .iface t' u', .iface t2 u2] 3) := by
  have B0 := (Below.refl w.heap.size w).alloc (Nat.le_refl _) (.cells #[.int .i64 i, .iface t u, .iface t' u', .iface t2 u2] 180)
  have R1 := Row.new (w.alloc (.cells #[.int .i64 i, .iface t u, .iface t' u', .iface t2 u2] 180)) #[.iface t u, .iface t' u', .iface t2 u2] 109
  simp only [World.size_alloc] at R1
  go_enter Tryz.func202, Tryz.ntmps202
  go_wp2
  go_ret
  exact ⟨w.heap.size + 1, rfl, Nat.le_succ _, R1, B0.alloc B0.size _⟩

set_option maxRecDepth 100000 in
theorem place_of_ite (i : Int) (t : TypeId) (u : Value) (t' : TypeId) (u' : Value) (t2 : TypeId) (u2 : Value) (w : World) : Calls Tryz.prog 203 #[.agg #[.int .i64 i, .iface t u, .iface t' u', .iface t2 u2]] w fun r w' => r = .returned (.int .i64 i) ∧ Below w.heap.size w w' := by
  have B0 := (Below.refl w.heap.size w).alloc (Nat.le_refl _) (.cells #[.int .i64 i, .iface t u, .iface t' u', .iface t2 u2] 180)
  go_enter Tryz.func203, Tryz.ntmps203
  go_wp2
  go_ret
  exact ⟨rfl, B0⟩

end Go.Proofs.YtcehablmloleaaaGreatDoor

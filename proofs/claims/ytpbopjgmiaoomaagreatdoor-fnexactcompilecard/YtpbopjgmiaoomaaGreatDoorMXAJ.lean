/-
  VPI, JU. Own work.
-/
import Derived.Test.YtpbopjgmiaoomaaGreatDoorMXAD
import Derived.Test.YtpbopjgmiaoomaaGreatDoorMXAI
namespace Go.Proofs.YtpbopjgmiaoomaaGreatDoor
open Go.RowKit
set_option linter.unusedVariables false

def treesV (S : List (Nat × Nat)) : List Value := S.flatMap fun p => [.int .i64 p.1, .int .i64 p.2]

theorem treesV_at : ∀ (S : List (Nat × Nat)) (i : Nat) (h : i < S.length), (treesV S)[i * 2]? = some (.int .i64 (S[i].1 : Int)) ∧ (treesV S)[i * 2 + 1]? = some (.int .i64 (S[i].2 : Int))
  | [], i, h => absurd h (by simp)
  | p :: S, 0, h => ⟨rfl, rfl⟩
  | p :: S, i + 1, h => by
    have ih := treesV_at S i (by simpa using h)
    have e : treesV (p :: S) = .int .i64 p.1 :: .int .i64 p.2 :: treesV S := rfl
    rw [e, show (i + 1) * 2 = i * 2 + 1 + 1 by omega, List.getElem?_cons_succ, List.getElem?_cons_succ, show i * 2 + 1 + 1 + 1 = (i * 2 + 1) + 1 + 1 by omega, List.getElem?_cons_succ, List.getElem?_cons_succ]
    simpa using ih

theorem dep_snoc (l : List (Nat × Nat)) (p : Nat × Nat) : dep (l ++ [p]) = max (dep l) p.2 := by
  induction l with
  | nil => simp [dep]
  | cons q l ih => rw [List.cons_append, dep, dep, ih]; omega

/-- the run, by its last step -/
theorem runT_succ {K : List (List Int)} {k : Nat} {S : List (Nat × Nat)} {ks : List Int} (h : runT K k [] 0 = some S) (hk : K[k]? = some ks) : runT K (k + 1) [] 0 = stepT S k ks := by
  rw [runT_add K k 1 [] 0, h]
  show runT K 1 S (0 + k) = _
  rw [Nat.zero_add, runT, hk]
  dsimp only
  cases stepT S k ks <;> rfl

theorem runT_none {K : List (List Int)} {k n : Nat} (hk : k ≤ n) (h : runT K k [] 0 = none) : runT K n [] 0 = none := by
  have e : n = k + (n - k) := by omega
  rw [e, runT_add K k (n - k) [] 0, h]
  rfl

theorem stepT_short {S : List (Nat × Nat)} {i : Nat} {ks : List Int} (h : S.length < ks.length) : stepT S i ks = none := by rw [stepT, if_pos h]

/-- a kid that is not the open tree's top -/
theorem stepT_miss {S : List (Nat × Nat)} {i f j : Nat} {ks : List Int} (hf : f + ks.length = S.length) (hj : j < ks.length) (hS : f + j < S.length) (h : (S[f + j].1 : Int) ≠ ks[j]) : stepT S i ks = none := by
  have ef : S.length - ks.length = f := by omega
  rw [stepT, if_neg (by omega), if_pos]
  rw [ef]
  intro e
  apply h
  have h1 : (topsI (S.drop f))[j]? = some ks[j] := by rw [e]; exact List.getElem?_eq_getElem hj
  rw [topsI, List.getElem?_map, List.getElem?_drop, List.getElem?_eq_getElem hS] at h1
  simpa using h1

theorem stepT_deep {S : List (Nat × Nat)} {i f : Nat} {ks : List Int} (hf : f + ks.length = S.length) (hd : dep (S.drop f) = 64) : stepT S i ks = none := by
  have ef : S.length - ks.length = f := by omega
  rw [stepT, if_neg (by omega), ef]
  by_cases h : topsI (S.drop f) ≠ ks
  · rw [if_pos h]
  · rw [if_neg h, if_pos hd]

theorem stepT_ok {S : List (Nat × Nat)} {i f : Nat} {ks : List Int} (hf : f + ks.length = S.length) (ht : topsI (S.drop f) = ks) (hd : dep (S.drop f) ≠ 64) : stepT S i ks = some (S.take f ++ [(i, dep (S.drop f) + 1)]) := by
  have ef : S.length - ks.length = f := by omega
  rw [stepT, if_neg (by omega), ef, if_neg (by simp [ht]), if_neg hd]

/-- the kids so far are the tops -/
def sofar (S : List (Nat × Nat)) (f : Nat) (ks : List Int) (j : Nat) : Prop := topsI ((S.drop f).take j) = ks.take j

theorem sofar_zero (S : List (Nat × Nat)) (f : Nat) (ks : List Int) : sofar S f ks 0 := by simp [sofar, topsI]

theorem drop_take_succ (S : List (Nat × Nat)) (f j : Nat) (h : f + j < S.length) : (S.drop f).take (j + 1) = (S.drop f).take j ++ [S[f + j]] := by
  have hl : j < (S.drop f).length := by rw [List.length_drop]; omega
  rw [List.take_succ_eq_append_getElem hl, List.getElem_drop]

theorem sofar_succ {S : List (Nat × Nat)} {f j : Nat} {ks : List Int} (hj : j < ks.length) (hS : f + j < S.length) (h : sofar S f ks j) (e : (S[f + j].1 : Int) = ks[j]) : sofar S f ks (j + 1) := by
  rw [sofar, drop_take_succ S f j hS, List.take_succ_eq_append_getElem hj, ← e]
  rw [sofar] at h
  rw [← h]
  simp [topsI]

theorem sofar_all {S : List (Nat × Nat)} {f : Nat} {ks : List Int} (hf : f + ks.length = S.length) (h : sofar S f ks ks.length) : topsI (S.drop f) = ks := by
  rw [sofar, List.take_of_length_le (by rw [List.length_drop]; omega), List.take_of_length_le (Nat.le_refl _)] at h
  exact h

end Go.Proofs.YtpbopjgmiaoomaaGreatDoor

namespace Go.Proofs.YtpbopjgmiaoomaaGreatDoor
open Go.RowKit
set_option linter.unusedVariables false

theorem kids_int (i n : Int) : ∀ w, (method 344 181 (.agg #[.int .i64 i, .int .i64 n]) "loop.example/s01308/impl.kids").run Tryz.prog w = .ok (147, .int .i64 i) w := fun _ => by kernel_rfl
theorem place_int (i n : Int) : ∀ w, (method 344 181 (.agg #[.int .i64 i, .int .i64 n]) "loop.example/s01308/impl.place").run Tryz.prog w = .ok (148, .int .i64 i) w := fun _ => by kernel_rfl
theorem kids_text (i : Int) (s : ByteArray) : ∀ w, (method 344 183 (.agg #[.int .i64 i, .string s]) "loop.example/s01308/impl.kids").run Tryz.prog w = .ok (147, .int .i64 i) w := fun _ => by kernel_rfl
theorem place_text (i : Int) (s : ByteArray) : ∀ w, (method 344 183 (.agg #[.int .i64 i, .string s]) "loop.example/s01308/impl.place").run Tryz.prog w = .ok (148, .int .i64 i) w := fun _ => by kernel_rfl
theorem kids_bool (i : Int) (b : Bool) : ∀ w, (method 344 185 (.agg #[.int .i64 i, .bool b]) "loop.example/s01308/impl.kids").run Tryz.prog w = .ok (147, .int .i64 i) w := fun _ => by kernel_rfl
theorem place_bool (i : Int) (b : Bool) : ∀ w, (method 344 185 (.agg #[.int .i64 i, .bool b]) "loop.example/s01308/impl.place").run Tryz.prog w = .ok (148, .int .i64 i) w := fun _ => by kernel_rfl
theorem kids_set (i : Int) (a : Option Addr) (n c : Nat) : ∀ w, (method 344 187 (.agg #[.int .i64 i, .slice a n c]) "loop.example/s01308/impl.kids").run Tryz.prog w = .ok (147, .int .i64 i) w := fun _ => by kernel_rfl
theorem place_set (i : Int) (a : Option Addr) (n c : Nat) : ∀ w, (method 344 187 (.agg #[.int .i64 i, .slice a n c]) "loop.example/s01308/impl.place").run Tryz.prog w = .ok (148, .int .i64 i) w := fun _ => by kernel_rfl
theorem kids_attr (i n : Int) : ∀ w, (method 344 153 (.agg #[.int .i64 i, .int .i64 n]) "loop.example/s01308/impl.kids").run Tryz.prog w = .ok (147, .int .i64 i) w := fun _ => by kernel_rfl
theorem place_attr (i n : Int) : ∀ w, (method 344 153 (.agg #[.int .i64 i, .int .i64 n]) "loop.example/s01308/impl.place").run Tryz.prog w = .ok (148, .int .i64 i) w := fun _ => by kernel_rfl
theorem kids_lett (i n : Int) : ∀ w, (method 344 154 (.agg #[.int .i64 i, .int .i64 n]) "loop.example/s01308/impl.kids").run Tryz.prog w = .ok (147, .int .i64 i) w := fun _ => by kernel_rfl
theorem place_lett (i n : Int) : ∀ w, (method 344 154 (.agg #[.int .i64 i, .int .i64 n]) "loop.example/s01308/impl.place").run Tryz.prog w = .ok (148, .int .i64 i) w := fun _ => by kernel_rfl
theorem kids_un (i op : Int) (t : TypeId) (u : Value) : ∀ w, (method 344 156 (.agg #[.int .i64 i, .int .i64 op, .iface t u]) "loop.example/s01308/impl.kids").run Tryz.prog w = .ok (149, .agg #[.int .i64 i, .int .i64 op, .iface t u]) w := fun _ => by kernel_rfl
theorem place_un (i op : Int) (t : TypeId) (u : Value) : ∀ w, (method 344 156 (.agg #[.int .i64 i, .int .i64 op, .iface t u]) "loop.example/s01308/impl.place").run Tryz.prog w = .ok (150, .agg #[.int .i64 i, .int .i64 op, .iface t u]) w := fun _ => by kernel_rfl
theorem kids_bin (i op : Int) (t : TypeId) (u : Value) (t' : TypeId) (u' : Value) : ∀ w, (method 344 158 (.agg #[.int .i64 i, .int .i64 op, .iface t u, .iface t' u']) "loop.example/s01308/impl.kids").run Tryz.prog w = .ok (151, .agg #[.int .i64 i, .int .i64 op, .iface t u, .iface t' u']) w := fun _ => by kernel_rfl
theorem place_bin (i op : Int) (t : TypeId) (u : Value) (t' : TypeId) (u' : Value) : ∀ w, (method 344 158 (.agg #[.int .i64 i, .int .i64 op, .iface t u, .iface t' u']) "loop.example/s01308/impl.place").run Tryz.prog w = .ok (152, .agg #[.int .i64 i, .int .i64 op, .iface t u, .iface t' u']) w := fun _ => by kernel_rfl
theorem kids_ite (i : Int) (t : TypeId) (u : Value) (t' : TypeId) (u' : Value) (t2 : TypeId) (u2 : Value) : ∀ w, (method 344 161 (.agg #[.int .i64 i, .iface t u, .iface t' u', .iface t2 u2]) "loop.example/s01308/impl.kids").run Tryz.prog w = .ok (153, .agg #[.int .i64 i, .iface t u, .iface t' u', .iface t2 u2]) w := fun _ => by kernel_rfl
theorem place_ite (i : Int) (t : TypeId) (u : Value) (t' : TypeId) (u' : Value) (t2 : TypeId) (u2 : Value) : ∀ w, (method 344 161 (.agg #[.int .i64 i, .iface t u, .iface t' u', .iface t2 u2]) "loop.example/s01308/impl.place").run Tryz.prog w = .ok (154, .agg #[.int .i64 i, .iface t u, .iface t' u', .iface t2 u2]) w := fun _ => by kernel_rfl

set_option maxRecDepth 100000 in
theorem kids_leaf (i : Int) (w : World) : Calls Tryz.prog 147 #[.int .i64 i] w fun r w' => r = .returned (.slice none 0 0) ∧ w' = w := by
  go_enter Tryz.func147, Tryz.ntmps147
  go_wp2
  go_ret
  exact ⟨rfl, rfl⟩

set_option maxRecDepth 100000 in
theorem place_leaf (i : Int) (w : World) : Calls Tryz.prog 148 #[.int .i64 i] w fun r w' => r = .returned (.int .i64 i) ∧ w' = w := by
  go_enter Tryz.func148, Tryz.ntmps148
  go_wp2
  go_ret
  exact ⟨rfl, rfl⟩

/-- a new slice of trees -/
def NewT (w : World) (vs : List Value) (n : Nat) (r : Ending) (w' : World) : Prop := ∃ g, r = .returned (.slice (some ⟨g, 0, none⟩) n n) ∧ w.heap.size ≤ g ∧ Row w' g vs.toArray 75 ∧ Below w.heap.size w w'

set_option maxRecDepth 100000 in
theorem kids_of_un (i op : Int) (t : TypeId) (u : Value) (w : World) : Calls Tryz.prog 149 #[.agg #[.int .i64 i, .int .i64 op, .iface t u]] w (NewT w [.iface t u] 1) := by
  have B0 := (Below.refl w.heap.size w).alloc (Nat.le_refl _) (.cells #[.int .i64 i, .int .i64 op, .iface t u] 156)
  have R1 := Row.new (w.alloc (.cells #[.int .i64 i, .int .i64 op, .iface t u] 156)) #[.iface t u] 75
  simp only [World.size_alloc] at R1
  go_enter Tryz.func149, Tryz.ntmps149
  go_wp2
  go_ret
  exact ⟨w.heap.size + 1, rfl, Nat.le_succ _, R1, B0.alloc B0.size _⟩

set_option maxRecDepth 100000 in
theorem place_of_un (i op : Int) (t : TypeId) (u : Value) (w : World) : Calls Tryz.prog 150 #[.agg #[.int .i64 i, .int .i64 op, .iface t u]] w fun r w' => r = .returned (.int .i64 i) ∧ Below w.heap.size w w' := by
  have B0 := (Below.refl w.heap.size w).alloc (Nat.le_refl _) (.cells #[.int .i64 i, .int .i64 op, .iface t u] 156)
  go_enter Tryz.func150, Tryz.ntmps150
  go_wp2
  go_ret
  exact ⟨rfl, B0⟩

set_option maxRecDepth 100000 in
theorem kids_of_bin (i op : Int) (t : TypeId) (u : Value) (t' : TypeId) (u' : Value) (w : World) : Calls Tryz.prog 151 #[.agg #[.int .i64 i, .int .i64 op, .iface t u, .iface t' u']] w (NewT w [.iface t u, .iface t' u'] 2) := by
  have B0 := (Below.refl w.heap.size w).alloc (Nat.le_refl _) (.cells #[.int .i64 i, .int .i64 op, .iface t u, .iface t' u'] 158)
  have R1 := Row.new (w.alloc (.cells #[.int .i64 i, .int .i64 op, .iface t u, .iface t' u'] 158)) #[.iface t u, .iface t' u'] 75
  simp only [World.size_alloc] at R1
  go_enter Tryz.func151, Tryz.ntmps151
  go_wp2
  go_ret
  exact ⟨w.heap.size + 1, rfl, Nat.le_succ _, R1, B0.alloc B0.size _⟩

set_option maxRecDepth 100000 in
theorem place_of_bin (i op : Int) (t : TypeId) (u : Value) (t' : TypeId) (u' : Value) (w : World) : Calls Tryz.prog 152 #[.agg #[.int .i64 i, .int .i64 op, .iface t u, .iface t' u']] w fun r w' => r = .returned (.int .i64 i) ∧ Below w.heap.size w w' := by
  have B0 := (Below.refl w.heap.size w).alloc (Nat.le_refl _) (.cells #[.int .i64 i, .int .i64 op, .iface t u, .iface t' u'] 158)
  go_enter Tryz.func152, Tryz.ntmps152
  go_wp2
  go_ret
  exact ⟨rfl, B0⟩

set_option maxRecDepth 100000 in
theorem kids_of_ite (i : Int) (t : TypeId) (u : Value) (t' : TypeId) (u' : Value) (t2 : TypeId) (u2 : Value) (w : World) : Calls Tryz.prog 153 #[.agg #[.int .i64 i, .iface t u, .iface t' u', .iface t2 u2]] w (NewT w [.iface t u, .iface t' u', .iface t2 u2] 3) := by
  have B0 := (Below.refl w.heap.size w).alloc (Nat.le_refl _) (.cells #[.int .i64 i, .iface t u, .iface t' u', .iface t2 u2] 161)
  have R1 := Row.new (w.alloc (.cells #[.int .i64 i, .iface t u, .iface t' u', .iface t2 u2] 161)) #[.iface t u, .iface t' u', .iface t2 u2] 75
  simp only [World.size_alloc] at R1
  go_enter Tryz.func153, Tryz.ntmps153
  go_wp2
  go_ret
  exact ⟨w.heap.size + 1, rfl, Nat.le_succ _, R1, B0.alloc B0.size _⟩

set_option maxRecDepth 100000 in
theorem place_of_ite (i : Int) (t : TypeId) (u : Value) (t' : TypeId) (u' : Value) (t2 : TypeId) (u2 : Value) (w : World) : Calls Tryz.prog 154 #[.agg #[.int .i64 i, .iface t u, .iface t' u', .iface t2 u2]] w fun r w' => r = .returned (.int .i64 i) ∧ Below w.heap.size w w' := by
  have B0 := (Below.refl w.heap.size w).alloc (Nat.le_refl _) (.cells #[.int .i64 i, .iface t u, .iface t' u', .iface t2 u2] 161)
  go_enter Tryz.func154, Tryz.ntmps154
  go_wp2
  go_ret
  exact ⟨rfl, B0⟩

end Go.Proofs.YtpbopjgmiaoomaaGreatDoor
